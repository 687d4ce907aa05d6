/-
  Layer 7 and what it stands on, part 5 (LogMath RingMath).
-/
namespace Go.Proofs.YtoaponaljkhlfaaDoor
section
structure LS (α : Type) where
  lim : Nat
  back : List α
  now : α
  forth : List α
  opn : Int
def limL (n : Int) : Nat := (max 1 (min n 256)).toNat
theorem limL_le (n : Int) : limL n ≤ 256 := by unfold limL; omega
theorem limL_pos (n : Int) : 1 ≤ limL n := by unfold limL; omega
/-- The last n. -/
def lastN {α : Type} (n : Nat) (l : List α) : List α := l.drop (l.length - n)
theorem lastN_length {α : Type} (n : Nat) (l : List α) : (lastN n l).length = min n l.length := by unfold lastN; rw [List.length_drop]; omega
theorem lastN_all {α : Type} {n : Nat} {l : List α} (h : l.length ≤ n) : lastN n l = l := by unfold lastN; rw [show l.length - n = 0 by omega, List.drop_zero]
namespace LS
variable {α : Type}
structure Ok (s : LS α) : Prop where
  pos : 1 ≤ s.lim
  le : s.lim ≤ 256
  len : s.back.length + s.forth.length ≤ s.lim
  opn : 0 ≤ s.opn
def new (x : α) (n : Int) : LS α := ⟨limL n, [], x, [], 0⟩
/-- Do, where the state is another one. -/
def put (s : LS α) (x : α) (g : Int) : LS α :=
  ⟨s.lim, if g ≤ 0 ∨ g ≠ s.opn then lastN s.lim (s.back ++ [s.now]) else s.back, x, [], if 0 < g then g else 0⟩
def does [DecidableEq α] (s : LS α) (x : α) (g : Int) : LS α := if x = s.now then s else s.put x g
def move (s : LS α) (x : α) : LS α := ⟨s.lim, s.back, x, s.forth, s.opn⟩
def brk (s : LS α) : LS α := ⟨s.lim, s.back, s.now, s.forth, 0⟩
def undo (s : LS α) : LS α := if s.back = [] then s else ⟨s.lim, s.back.dropLast, s.back.getLastD s.now, s.forth ++ [s.now], 0⟩
def redo (s : LS α) : LS α := if s.forth = [] then s else ⟨s.lim, s.back ++ [s.now], s.forth.getLastD s.now, s.forth.dropLast, 0⟩
theorem Ok.new (x : α) (n : Int) : (LS.new x n).Ok := ⟨limL_pos n, limL_le n, Nat.zero_le _, Int.le_refl 0⟩
theorem Ok.put {s : LS α} (h : s.Ok) (x : α) (g : Int) : (s.put x g).Ok := by
  have := h.len
  refine ⟨h.pos, h.le, ?_, ?_⟩
  · show (if g ≤ 0 ∨ g ≠ s.opn then lastN s.lim (s.back ++ [s.now]) else s.back).length + 0 ≤ s.lim
    split
    · rw [lastN_length]; omega
    · omega
  · show 0 ≤ (if 0 < g then g else 0)
    split <;> omega
theorem Ok.does [DecidableEq α] {s : LS α} (h : s.Ok) (x : α) (g : Int) : (s.does x g).Ok := by
  unfold LS.does
  split
  · exact h
  · exact h.put x g
theorem Ok.move {s : LS α} (h : s.Ok) (x : α) : (s.move x).Ok := ⟨h.pos, h.le, h.len, h.opn⟩
theorem Ok.brk {s : LS α} (h : s.Ok) : s.brk.Ok := ⟨h.pos, h.le, h.len, Int.le_refl 0⟩
theorem Ok.undo {s : LS α} (h : s.Ok) : s.undo.Ok := by
  have := h.len
  unfold LS.undo
  split
  · exact h
  · rename_i hb
    have hn : 0 < s.back.length := List.length_pos_iff.2 hb
    exact ⟨h.pos, h.le, by show s.back.dropLast.length + (s.forth ++ [s.now]).length ≤ s.lim; simp; omega, Int.le_refl 0⟩
theorem Ok.redo {s : LS α} (h : s.Ok) : s.redo.Ok := by
  have := h.len
  unfold LS.redo
  split
  · exact h
  · rename_i hb
    have hn : 0 < s.forth.length := List.length_pos_iff.2 hb
    exact ⟨h.pos, h.le, by show (s.back ++ [s.now]).length + s.forth.dropLast.length ≤ s.lim; simp; omega, Int.le_refl 0⟩
theorem undo_some {s : LS α} {b : List α} {y : α} (h : s.back = b ++ [y]) : s.undo = ⟨s.lim, b, y, s.forth ++ [s.now], 0⟩ := by
  unfold LS.undo
  rw [if_neg (by rw [h]; simp), h]; simp
theorem redo_some {s : LS α} {f : List α} {y : α} (h : s.forth = f ++ [y]) : s.redo = ⟨s.lim, s.back ++ [s.now], y, f, 0⟩ := by
  unfold LS.redo
  rw [if_neg (by rw [h]; simp), h]; simp
/-- Undone, and redone: the same state, but that no group is open. -/
theorem redo_undo {s : LS α} (h : s.back ≠ []) : s.undo.redo = ⟨s.lim, s.back, s.now, s.forth, 0⟩ := by
  obtain ⟨b, y, hb⟩ : ∃ b y, s.back = b ++ [y] := ⟨_, _, (List.dropLast_concat_getLast h).symm⟩
  rw [undo_some hb, redo_some (f := s.forth) (y := s.now) rfl, hb]
theorem undo_redo {s : LS α} (h : s.forth ≠ []) : s.redo.undo = ⟨s.lim, s.back, s.now, s.forth, 0⟩ := by
  obtain ⟨b, y, hb⟩ : ∃ b y, s.forth = b ++ [y] := ⟨_, _, (List.dropLast_concat_getLast h).symm⟩
  rw [redo_some hb, undo_some (b := s.back) (y := s.now) rfl, hb]
/-- Some undos, and redos. -/
def undos (s : LS α) : Nat → LS α
  | 0 => s
  | k + 1 => (s.undos k).undo
def redos (s : LS α) : Nat → LS α
  | 0 => s
  | k + 1 => (s.redos k).redo
theorem undos_back (s : LS α) : ∀ k, k ≤ s.back.length → (s.undos k).back = s.back.take (s.back.length - k)
  | 0, _ => by show s.back = _; rw [Nat.sub_zero, List.take_length]
  | k + 1, hk => by
    have ih := undos_back s k (by omega)
    have hb : (s.undos k).back = s.back.take (s.back.length - (k + 1)) ++ [s.back[s.back.length - (k + 1)]'(by omega)] := by
      rw [ih, show s.back.length - k = s.back.length - (k + 1) + 1 by omega, List.take_succ_eq_append_getElem (by omega)]
    show (s.undos k).undo.back = _
    rw [undo_some hb]
theorem undos_now (s : LS α) (k : Nat) (hk : k < s.back.length) : (s.undos (k + 1)).now = s.back[s.back.length - (k + 1)]'(by omega) := by
  have ih := undos_back s k (by omega)
  have hb : (s.undos k).back = s.back.take (s.back.length - (k + 1)) ++ [s.back[s.back.length - (k + 1)]'(by omega)] := by
    rw [ih, show s.back.length - k = s.back.length - (k + 1) + 1 by omega, List.take_succ_eq_append_getElem (by omega)]
  show (s.undos k).undo.now = _
  rw [undo_some hb]
theorem redos_forth (s : LS α) : ∀ k, k ≤ s.forth.length → (s.redos k).forth = s.forth.take (s.forth.length - k)
  | 0, _ => by show s.forth = _; rw [Nat.sub_zero, List.take_length]
  | k + 1, hk => by
    have ih := redos_forth s k (by omega)
    have hb : (s.redos k).forth = s.forth.take (s.forth.length - (k + 1)) ++ [s.forth[s.forth.length - (k + 1)]'(by omega)] := by
      rw [ih, show s.forth.length - k = s.forth.length - (k + 1) + 1 by omega, List.take_succ_eq_append_getElem (by omega)]
    show (s.redos k).redo.forth = _
    rw [redo_some hb]
theorem redos_now (s : LS α) (k : Nat) (hk : k < s.forth.length) : (s.redos (k + 1)).now = s.forth[s.forth.length - (k + 1)]'(by omega) := by
  have ih := redos_forth s k (by omega)
  have hb : (s.redos k).forth = s.forth.take (s.forth.length - (k + 1)) ++ [s.forth[s.forth.length - (k + 1)]'(by omega)] := by
    rw [ih, show s.forth.length - k = s.forth.length - (k + 1) + 1 by omega, List.take_succ_eq_append_getElem (by omega)]
  show (s.redos k).redo.now = _
  rw [redo_some hb]
theorem Ok.undos {s : LS α} (h : s.Ok) : ∀ k, (s.undos k).Ok
  | 0 => h
  | k + 1 => (Ok.undos h k).undo
theorem Ok.redos {s : LS α} (h : s.Ok) : ∀ k, (s.redos k).Ok
  | 0 => h
  | k + 1 => (Ok.redos h k).redo
/-- A row of states, each done in a group of its own. -/
def singles [DecidableEq α] (s : LS α) (l : List α) : LS α := l.foldl (fun s x => s.does x 0) s
/-- A row of states, all done in one group. -/
def grouped [DecidableEq α] (s : LS α) (g : Int) (l : List α) : LS α := l.foldl (fun s x => s.does x g) s
/-- What one group leaves: nothing, or one state ahead, the first one. -/
theorem grouped_back [DecidableEq α] (x : α) (n g : Int) (hg : 1 ≤ g) (l : List α) (h1 : 1 ≤ limL n) :
    ((LS.new x n).grouped g l = LS.new x n ∧ ∀ y ∈ l, y = x) ∨ (∃ z, (LS.new x n).grouped g l = ⟨limL n, [x], z, [], g⟩ ∧ ∃ y ∈ l, y ≠ x) := by
  suffices H : ∀ l' : List α, (((LS.new x n).grouped g l') = LS.new x n ∧ ∀ y ∈ l', y = x) ∨ (∃ z, (LS.new x n).grouped g l' = ⟨limL n, [x], z, [], g⟩ ∧ ∃ y ∈ l', y ≠ x) from H l
  intro l'
  generalize hr : l'.reverse = r
  have hl : l' = r.reverse := by rw [← hr, List.reverse_reverse]
  clear hr
  induction r generalizing l' with
  | nil => subst hl; exact .inl ⟨rfl, fun y hy => by cases hy⟩
  | cons y r ih =>
    have e : l' = r.reverse ++ [y] := by rw [hl, List.reverse_cons]
    have hs : (LS.new x n).grouped g l' = ((LS.new x n).grouped g r.reverse).does y g := by rw [e]; unfold grouped; rw [List.foldl_append]; rfl
    rcases ih _ rfl with ⟨h2, h3⟩ | ⟨z, h2, u, hu, hux⟩
    · by_cases hy : y = x
      · left
        rw [hs, h2]
        refine ⟨by unfold LS.does; rw [if_pos (show y = (LS.new x n).now from hy)], fun v hv => ?_⟩
        rw [e] at hv
        rcases List.mem_append.1 hv with hv | hv
        · exact h3 v hv
        · rw [List.mem_singleton.1 hv]; exact hy
      · right
        refine ⟨y, ?_, y, by rw [e]; simp, hy⟩
        rw [hs, h2]
        unfold LS.does
        rw [if_neg (show ¬ y = (LS.new x n).now from hy)]
        show (⟨limL n, if g ≤ 0 ∨ g ≠ 0 then lastN (limL n) ([] ++ [x]) else [], y, [], if 0 < g then g else 0⟩ : LS α) = _
        rw [if_pos (.inr (by omega)), if_pos (by omega), lastN_all (by simp; omega)]
        rfl
    · right
      rw [hs, h2]
      by_cases hy : y = z
      · exact ⟨z, by unfold LS.does; rw [if_pos hy], u, by rw [e]; exact List.mem_append_left _ hu, hux⟩
      · refine ⟨y, ?_, u, by rw [e]; exact List.mem_append_left _ hu, hux⟩
        unfold LS.does
        rw [if_neg (by exact hy)]
        unfold LS.put
        rw [if_neg (by rintro (h | h); omega; exact h rfl), if_pos (by omega)]
end LS
/-- A call of the document's script. -/
structure OpU where
  k : Int
  t : ByteArray
  g : Int
def OpU.none_ : OpU := ⟨0, ⟨#[]⟩, 0⟩
def doU (s : LS ByteArray) (o : OpU) : LS ByteArray :=
  if o.k = 0 then s.does o.t o.g else if o.k = 1 then s.move o.t else if o.k = 2 then s.brk else if o.k = 3 then s.undo else if o.k = 4 then s.redo else s
/-- Was there something to do? -/
def didU (s : LS ByteArray) (o : OpU) : Bool :=
  if o.k = 0 then decide (o.t ≠ s.now) else if o.k = 3 then decide (s.back ≠ []) else if o.k = 4 then decide (s.forth ≠ []) else false
theorem doU_ok {s : LS ByteArray} (h : s.Ok) (o : OpU) : (doU s o).Ok := by
  unfold doU
  split
  · exact h.does _ _
  · split
    · exact h.move _
    · split
      · exact h.brk
      · split
        · exact h.undo
        · split
          · exact h.redo
          · exact h
def runU (s : LS ByteArray) (os : List OpU) : LS ByteArray := os.foldl doU s
theorem runU_ok {s : LS ByteArray} (h : s.Ok) : ∀ os, (runU s os).Ok := fun os => by
  induction os generalizing s with
  | nil => exact h
  | cons o t ih => exact ih (doU_ok h o)
theorem runU_take (s : LS ByteArray) (os : List OpU) (k : Nat) (hk : k < os.length) : runU s (os.take (k + 1)) = doU (runU s (os.take k)) (os.getD k OpU.none_) := by
  unfold runU
  rw [List.take_succ_eq_append_getElem hk, List.foldl_append]
  simp [List.getD, hk]
end
section
structure RS (α : Type) where
  lim : Nat
  l : List α
  i : Nat
/-- f of the first one. -/
def chL {α : Type} (f : α → α) : List α → List α
  | [] => []
  | x :: t => f x :: t
theorem chL_length {α : Type} (f : α → α) (l : List α) : (chL f l).length = l.length := by cases l <;> rfl
def limOf (n : Int) : Nat := (max 1 (min n 64)).toNat
theorem limOf_le (n : Int) : limOf n ≤ 64 := by unfold limOf; omega
theorem limOf_pos (n : Int) : 1 ≤ limOf n := by unfold limOf; omega
namespace RS
variable {α : Type}
structure Ok (s : RS α) : Prop where
  pos : 1 ≤ s.lim
  le : s.lim ≤ 64
  len : s.l.length ≤ s.lim
  at_ : s.i < s.l.length ∨ (s.i = 0 ∧ s.l = [])
def new (n : Int) : RS α := ⟨limOf n, [], 0⟩
def push (s : RS α) (x : α) : RS α := ⟨s.lim, x :: s.l.take (s.lim - 1), 0⟩
def change (s : RS α) (f : α → α) : RS α := ⟨s.lim, chL f s.l, 0⟩
def turn (s : RS α) : RS α := ⟨s.lim, s.l, if s.i + 1 < s.l.length then s.i + 1 else 0⟩
def home (s : RS α) : RS α := ⟨s.lim, s.l, 0⟩
theorem Ok.new (n : Int) : (RS.new n : RS α).Ok := ⟨limOf_pos n, limOf_le n, Nat.zero_le _, .inr ⟨rfl, rfl⟩⟩
theorem Ok.push {s : RS α} (h : s.Ok) (x : α) : (s.push x).Ok := ⟨h.pos, h.le, by
  have := h.pos
  show (x :: s.l.take (s.lim - 1)).length ≤ s.lim
  rw [List.length_cons, List.length_take]; omega, .inl (by show 0 < (x :: s.l.take (s.lim - 1)).length; simp)⟩
theorem Ok.change {s : RS α} (h : s.Ok) (f : α → α) : (s.change f).Ok := ⟨h.pos, h.le, by show (chL f s.l).length ≤ s.lim; rw [chL_length]; exact h.len, by
  show 0 < (chL f s.l).length ∨ (0 = 0 ∧ chL f s.l = [])
  cases s.l with
  | nil => exact .inr ⟨rfl, rfl⟩
  | cons x t => exact .inl (by simp [chL])⟩
theorem Ok.turn {s : RS α} (h : s.Ok) : s.turn.Ok := ⟨h.pos, h.le, h.len, by
  show (if s.i + 1 < s.l.length then s.i + 1 else 0) < s.l.length ∨ _
  rcases h.at_ with h1 | h1
  · left; split <;> omega
  · right
    refine ⟨?_, h1.2⟩
    show (if s.i + 1 < s.l.length then s.i + 1 else 0) = 0
    rw [h1.2]; simp⟩
theorem Ok.home {s : RS α} (h : s.Ok) : s.home.Ok := ⟨h.pos, h.le, h.len, by
  rcases h.at_ with h1 | h1
  · exact .inl (by show 0 < s.l.length; omega)
  · exact .inr ⟨rfl, h1.2⟩⟩
/-- One turn, as the program reckons it. -/
theorem turn_mod {s : RS α} (h : s.Ok) (hn : 0 < s.l.length) : s.turn.i = (s.i + 1) % s.l.length := by
  show (if s.i + 1 < s.l.length then s.i + 1 else 0) = _
  have hi : s.i < s.l.length := h.at_.resolve_right fun h1 => by rw [h1.2] at hn; simp at hn
  split
  · rw [Nat.mod_eq_of_lt (by assumption)]
  · rw [show s.i + 1 = s.l.length by omega, Nat.mod_self]
/-- Some turns. -/
def turns (s : RS α) : Nat → RS α
  | 0 => s
  | k + 1 => (s.turns k).turn
theorem turns_l (s : RS α) : ∀ k, (s.turns k).l = s.l
  | 0 => rfl
  | k + 1 => turns_l s k
theorem turns_lim (s : RS α) : ∀ k, (s.turns k).lim = s.lim
  | 0 => rfl
  | k + 1 => turns_lim s k
theorem Ok.turns {s : RS α} (h : s.Ok) : ∀ k, (s.turns k).Ok
  | 0 => h
  | k + 1 => (Ok.turns h k).turn
theorem turns_i {s : RS α} (h : s.Ok) (hn : 0 < s.l.length) : ∀ k, (s.turns k).i = (s.i + k) % s.l.length
  | 0 => by
    have hi : s.i < s.l.length := h.at_.resolve_right fun h1 => by rw [h1.2] at hn; simp at hn
    show s.i = _
    rw [Nat.add_zero, Nat.mod_eq_of_lt hi]
  | k + 1 => by
    have h1 := turn_mod (Ok.turns h k) (by rw [turns_l]; exact hn)
    show (s.turns k).turn.i = _
    rw [h1, turns_l, turns_i h hn k, Nat.mod_add_mod, Nat.add_assoc]
theorem turns_all {s : RS α} (h : s.Ok) : (s.turns s.l.length) = s := by
  have hl := turns_l s s.l.length
  have hm := turns_lim s s.l.length
  have hi : (s.turns s.l.length).i = s.i := by
    rcases h.at_ with h1 | h1
    · rw [turns_i h (by omega), Nat.add_mod_right, Nat.mod_eq_of_lt h1]
    · rw [h1.2]; rfl
  generalize s.turns s.l.length = t at *
  obtain ⟨a, b, c⟩ := t
  obtain ⟨a', b', c'⟩ := s
  simp only at hl hm hi
  rw [hl, hm, hi]
/-- The things on which the first k turns stand. -/
def met (s : RS α) (d : α) (k : Nat) : List α := (List.range k).map fun j => s.l.getD ((s.i + (j + 1)) % s.l.length) d
theorem met_succ (s : RS α) (d : α) (k : Nat) : s.met d (k + 1) = s.met d k ++ [s.l.getD ((s.i + (k + 1)) % s.l.length) d] := by
  simp [met, List.range_succ]
theorem met_all_perm (s : RS α) (d : α) : (s.met d s.l.length).Perm s.l := by
  by_cases hn : s.l.length = 0
  · rw [hn, List.eq_nil_of_length_eq_zero hn]; exact List.Perm.refl _
  have hj : (s.i + 1) % s.l.length < s.l.length := Nat.mod_lt _ (by omega)
  have e : s.met d s.l.length = s.l.drop ((s.i + 1) % s.l.length) ++ s.l.take ((s.i + 1) % s.l.length) := by
    apply List.ext_getElem
    · simp [met]; omega
    · intro k h1 h2
      have hk : k < s.l.length := by simpa [met] using h1
      simp only [met, List.getElem_map, List.getElem_range]
      have e1 : (s.i + (k + 1)) % s.l.length = ((s.i + 1) % s.l.length + k) % s.l.length := by
        rw [Nat.mod_add_mod]; congr 1; omega
      rw [e1, List.getElem_append]
      split
      · rename_i h3
        rw [List.length_drop] at h3
        rw [Nat.mod_eq_of_lt (by omega), List.getElem_drop, List.getD_eq_getElem?_getD, List.getElem?_eq_getElem (by omega), Option.getD_some]
      · rename_i h3
        rw [List.length_drop] at h3
        have e2 : ((s.i + 1) % s.l.length + k) % s.l.length = k - (s.l.length - (s.i + 1) % s.l.length) := by
          rw [Nat.mod_eq_sub_mod (by omega), Nat.mod_eq_of_lt (by omega)]; omega
        rw [List.getElem_take, e2, List.getD_eq_getElem?_getD, List.getElem?_eq_getElem (by omega), Option.getD_some]
        congr 1
        rw [List.length_drop]
  rw [e]
  have := List.perm_append_comm (l₁ := s.l.drop ((s.i + 1) % s.l.length)) (l₂ := s.l.take ((s.i + 1) % s.l.length))
  rwa [List.take_append_drop] at this
/-- What is behind pushes: what came last, as many as the limit says. -/
theorem push_last (lim : Nat) (hl : 1 ≤ lim) (pre : List α) (x : α) (i : Nat) : (RS.push ⟨lim, (pre.reverse).take lim, i⟩ x).l = ((pre ++ [x]).reverse).take lim := by
  show x :: ((pre.reverse).take lim).take (lim - 1) = _
  rw [List.reverse_append, List.take_take, show min (lim - 1) lim = lim - 1 by omega]
  obtain ⟨m, rfl⟩ : ∃ m, lim = m + 1 := ⟨lim - 1, by omega⟩
  rfl
end RS
/-- A call of the document's script. -/
structure OpD where
  k : Int
  t : ByteArray
def OpD.none_ : OpD := ⟨0, ⟨#[]⟩⟩
def doR (s : RS ByteArray) (o : OpD) : RS ByteArray :=
  if o.k = 0 then s.push o.t else if o.k = 1 then s.change (· ++ o.t) else if o.k = 2 then s.turn else if o.k = 3 then s.home else s
theorem doR_ok {s : RS ByteArray} (h : s.Ok) (o : OpD) : (doR s o).Ok := by
  unfold doR
  split
  · exact h.push _
  · split
    · exact h.change _
    · split
      · exact h.turn
      · split
        · exact h.home
        · exact h
def runR (s : RS ByteArray) (os : List OpD) : RS ByteArray := os.foldl doR s
theorem runR_ok {s : RS ByteArray} (h : s.Ok) : ∀ os, (runR s os).Ok := fun os => by
  induction os generalizing s with
  | nil => exact h
  | cons o t ih => exact ih (doR_ok h o)
theorem runR_take (s : RS ByteArray) (os : List OpD) (k : Nat) (hk : k < os.length) : runR s (os.take (k + 1)) = doR (runR s (os.take k)) (os.getD k OpD.none_) := by
  unfold runR
  rw [List.take_succ_eq_append_getElem hk, List.foldl_append]
  simp [List.getD, hk]
end
end Go.Proofs.YtoaponaljkhlfaaDoor
