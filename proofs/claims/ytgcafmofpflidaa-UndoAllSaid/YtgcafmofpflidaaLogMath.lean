/-
  Logs as the document tells them: the states ahead (the nearest one last), the state, the states behind (the nearest one last), the open group. Lists alone.
-/
namespace Go.Proofs.Ytgcafmofpflidaa

structure LS (α : Type) where
  lim : Nat
  back : List α
  now : α
  forth : List α
  opn : Int
def limL (n : Int) : Nat := (max 1 (min n 256)).toNat
theorem limL_le (n : Int) : limL n ≤ 256 := by unfold limL; omega
theorem limL_pos (n : Int) : 1 ≤ limL n := by unfold limL; omega
/-- The last n. -/
def lastN {α : Type} (n : Nat) (l : List α) : List α := l.drop (l.length - n)
theorem lastN_length {α : Type} (n : Nat) (l : List α) : (lastN n l).length = min n l.length := by unfold lastN; rw [List.length_drop]; omega
theorem lastN_all {α : Type} {n : Nat} {l : List α} (h : l.length ≤ n) : lastN n l = l := by unfold lastN; rw [show l.length - n = 0 by omega, List.drop_zero]
namespace LS
variable {α : Type}
structure Ok (s : LS α) : Prop where
  pos : 1 ≤ s.lim
  le : s.lim ≤ 256
  len : s.back.length + s.forth.length ≤ s.lim
  opn : 0 ≤ s.opn
def new (x : α) (n : Int) : LS α := ⟨limL n, [], x, [], 0⟩
/-- Do, where the state is another one. -/
def put (s : LS α) (x : α) (g : Int) : LS α :=
  ⟨s.lim, if g ≤ 0 ∨ g ≠ s.opn then lastN s.lim (s.back ++ [s.now]) else s.back, x, [], if 0 < g then g else 0⟩
def does [DecidableEq α] (s : LS α) (x : α) (g : Int) : LS α := if x = s.now then s else s.put x g
def move (s : LS α) (x : α) : LS α := ⟨s.lim, s.back, x, s.forth, s.opn⟩
def brk (s : LS α) : LS α := ⟨s.lim, s.back, s.now, s.forth, 0⟩
def undo (s : LS α) : LS α := if s.back = [] then s else ⟨s.lim, s.back.dropLast, s.back.getLastD s.now, s.forth ++ [s.now], 0⟩
def redo (s : LS α) : LS α := if s.forth = [] then s else ⟨s.lim, s.back ++ [s.now], s.forth.getLastD s.now, s.forth.dropLast, 0⟩
theorem Ok.new (x : α) (n : Int) : (LS.new x n).Ok := ⟨limL_pos n, limL_le n, Nat.zero_le _, Int.le_refl 0⟩
theorem Ok.put {s : LS α} (h : s.Ok) (x : α) (g : Int) : (s.put x g).Ok := by
  have := h.len
  refine ⟨h.pos, h.le, ?_, ?_⟩
  · show (if g ≤ 0 ∨ g ≠ s.opn then lastN s.lim (s.back ++ [s.now]) else s.back).length + 0 ≤ s.lim
    split
    · rw [lastN_length]; omega
    · omega
  · show 0 ≤ (if 0 < g then g else 0)
    split <;> omega
theorem Ok.does [DecidableEq α] {s : LS α} (h : s.Ok) (x : α) (g : Int) : (s.does x g).Ok := by
  unfold LS.does
  split
  · exact h
  · exact h.put x g
theorem Ok.move {s : LS α} (h : s.Ok) (x : α) : (s.move x).Ok := ⟨h.pos, h.le, h.len, h.opn⟩
theorem Ok.brk {s : LS α} (h : s.Ok) : s.brk.Ok := ⟨h.pos, h.le, h.len, Int.le_refl 0⟩
theorem Ok.undo {s : LS α} (h : s.Ok) : s.undo.Ok := by
  have := h.len
  unfold LS.undo
  split
  · exact h
  · rename_i hb
    have hn : 0 < s.back.length := List.length_pos_iff.2 hb
    exact ⟨h.pos, h.le, by show s.back.dropLast.length + (s.forth ++ [s.now]).length ≤ s.lim; simp; omega, Int.le_refl 0⟩
theorem Ok.redo {s : LS α} (h : s.Ok) : s.redo.Ok := by
  have := h.len
  unfold LS.redo
  split
  · exact h
  · rename_i hb
    have hn : 0 < s.forth.length := List.length_pos_iff.2 hb
    exact ⟨h.pos, h.le, by show (s.back ++ [s.now]).length + s.forth.dropLast.length ≤ s.lim; simp; omega, Int.le_refl 0⟩
theorem undo_some {s : LS α} {b : List α} {y : α} (h : s.back = b ++ [y]) : s.undo = ⟨s.lim, b, y, s.forth ++ [s.now], 0⟩ := by
  unfold LS.undo
  rw [if_neg (by rw [h]; simp), h]; simp
theorem redo_some {s : LS α} {f : List α} {y : α} (h : s.forth = f ++ [y]) : s.redo = ⟨s.lim, s.back ++ [s.now], y, f, 0⟩ := by
  unfold LS.redo
  rw [if_neg (by rw [h]; simp), h]; simp
/-- Undone, and redone: the same state, but that no group is open. -/
theorem redo_undo {s : LS α} (h : s.back ≠ []) : s.undo.redo = ⟨s.lim, s.back, s.now, s.forth, 0⟩ := by
  obtain ⟨b, y, hb⟩ : ∃ b y, s.back = b ++ [y] := ⟨_, _, (List.dropLast_concat_getLast h).symm⟩
  rw [undo_some hb, redo_some (f := s.forth) (y := s.now) rfl, hb]
theorem undo_redo {s : LS α} (h : s.forth ≠ []) : s.redo.undo = ⟨s.lim, s.back, s.now, s.forth, 0⟩ := by
  obtain ⟨b, y, hb⟩ : ∃ b y, s.forth = b ++ [y] := ⟨_, _, (List.dropLast_concat_getLast h).symm⟩
  rw [redo_some hb, undo_some (b := s.back) (y := s.now) rfl, hb]
/-- Some undos, and redos. -/
def undos (s : LS α) : Nat → LS α
  | 0 => s
  | k + 1 => (s.undos k).undo
def redos (s : LS α) : Nat → LS α
  | 0 => s
  | k + 1 => (s.redos k).redo
theorem undos_back (s : LS α) : ∀ k, k ≤ s.back.length → (s.undos k).back = s.back.take (s.back.length - k)
  | 0, _ => by show s.back = _; rw [Nat.sub_zero, List.take_length]
  | k + 1, hk => by
    have ih := undos_back s k (by omega)
    have hb : (s.undos k).back = s.back.take (s.back.length - (k + 1)) ++ [s.back[s.back.length - (k + 1)]'(by omega)] := by
      rw [ih, show s.back.length - k = s.back.length - (k + 1) + 1 by omega, List.take_succ_eq_append_getElem (by omega)]
    show (s.undos k).undo.back = _
    rw [undo_some hb]
theorem undos_now (s : LS α) (k : Nat) (hk : k < s.back.length) : (s.undos (k + 1)).now = s.back[s.back.length - (k + 1)]'(by omega) := by
  have ih := undos_back s k (by omega)
  have hb : (s.undos k).back = s.back.take (s.back.length - (k + 1)) ++ [s.back[s.back.length - (k + 1)]'(by omega)] := by
    rw [ih, show s.back.length - k = s.back.length - (k + 1) + 1 by omega, List.take_succ_eq_append_getElem (by omega)]
  show (s.undos k).undo.now = _
  rw [undo_some hb]
theorem redos_forth (s : LS α) : ∀ k, k ≤ s.forth.length → (s.redos k).forth = s.forth.take (s.forth.length - k)
  | 0, _ => by show s.forth = _; rw [Nat.sub_zero, List.take_length]
  | k + 1, hk => by
    have ih := redos_forth s k (by omega)
    have hb : (s.redos k).forth = s.forth.take (s.forth.length - (k + 1)) ++ [s.forth[s.forth.length - (k + 1)]'(by omega)] := by
      rw [ih, show s.forth.length - k = s.forth.length - (k + 1) + 1 by omega, List.take_succ_eq_append_getElem (by omega)]
    show (s.redos k).redo.forth = _
    rw [redo_some hb]
theorem redos_now (s : LS α) (k : Nat) (hk : k < s.forth.length) : (s.redos (k + 1)).now = s.forth[s.forth.length - (k + 1)]'(by omega) := by
  have ih := redos_forth s k (by omega)
  have hb : (s.redos k).forth = s.forth.take (s.forth.length - (k + 1)) ++ [s.forth[s.forth.length - (k + 1)]'(by omega)] := by
    rw [ih, show s.forth.length - k = s.forth.length - (k + 1) + 1 by omega, List.take_succ_eq_append_getElem (by omega)]
  show (s.redos k).redo.now = _
  rw [redo_some hb]
theorem Ok.undos {s : LS α} (h : s.Ok) : ∀ k, (s.undos k).Ok
  | 0 => h
  | k + 1 => (Ok.undos h k).undo
theorem Ok.redos {s : LS α} (h : s.Ok) : ∀ k, (s.redos k).Ok
  | 0 => h
  | k + 1 => (Ok.redos h k).redo
/-- A row of states, each done in a group of its own. -/
def singles [DecidableEq α] (s : LS α) (l : List α) : LS α := l.foldl (fun s x => s.does x 0) s
/-- A row of states, all done in one group. -/
def grouped [DecidableEq α] (s : LS α) (g : Int) (l : List α) : LS α := l.foldl (fun s x => s.does x g) s
/-- What one group leaves: nothing, or one state ahead, the first one. -/
theorem grouped_back [DecidableEq α] (x : α) (n g : Int) (hg : 1 ≤ g) (l : List α) (h1 : 1 ≤ limL n) :
    ((LS.new x n).grouped g l = LS.new x n ∧ ∀ y ∈ l, y = x) ∨ (∃ z, (LS.new x n).grouped g l = ⟨limL n, [x], z, [], g⟩ ∧ ∃ y ∈ l, y ≠ x) := by
  suffices H : ∀ l' : List α, (((LS.new x n).grouped g l') = LS.new x n ∧ ∀ y ∈ l', y = x) ∨ (∃ z, (LS.new x n).grouped g l' = ⟨limL n, [x], z, [], g⟩ ∧ ∃ y ∈ l', y ≠ x) from H l
  intro l'
  generalize hr : l'.reverse = r
  have hl : l' = r.reverse := by rw [← hr, List.reverse_reverse]
  clear hr
  induction r generalizing l' with
  | nil => subst hl; exact .inl ⟨rfl, fun y hy => by cases hy⟩
  | cons y r ih =>
    have e : l' = r.reverse ++ [y] := by rw [hl, List.reverse_cons]
    have hs : (LS.new x n).grouped g l' = ((LS.new x n).grouped g r.reverse).does y g := by rw [e]; unfold grouped; rw [List.foldl_append]; rfl
    rcases ih _ rfl with ⟨h2, h3⟩ | ⟨z, h2, u, hu, hux⟩
    · by_cases hy : y = x
      · left
        rw [hs, h2]
        refine ⟨by unfold LS.does; rw [if_pos (show y = (LS.new x n).now from hy)], fun v hv => ?_⟩
        rw [e] at hv
        rcases List.mem_append.1 hv with hv | hv
        · exact h3 v hv
        · rw [List.mem_singleton.1 hv]; exact hy
      · right
        refine ⟨y, ?_, y, by rw [e]; simp, hy⟩
        rw [hs, h2]
        unfold LS.does
        rw [if_neg (show ¬ y = (LS.new x n).now from hy)]
        show (⟨limL n, if g ≤ 0 ∨ g ≠ 0 then lastN (limL n) ([] ++ [x]) else [], y, [], if 0 < g then g else 0⟩ : LS α) = _
        rw [if_pos (.inr (by omega)), if_pos (by omega), lastN_all (by simp; omega)]
        rfl
    · right
      rw [hs, h2]
      by_cases hy : y = z
      · exact ⟨z, by unfold LS.does; rw [if_pos hy], u, by rw [e]; exact List.mem_append_left _ hu, hux⟩
      · refine ⟨y, ?_, u, by rw [e]; exact List.mem_append_left _ hu, hux⟩
        unfold LS.does
        rw [if_neg (by exact hy)]
        unfold LS.put
        rw [if_neg (by rintro (h | h); omega; exact h rfl), if_pos (by omega)]
end LS

/-- A call of the document's script. -/
structure OpU where
  k : Int
  t : ByteArray
  g : Int
def OpU.none_ : OpU := ⟨0, ⟨#[]⟩, 0⟩
def doU (s : LS ByteArray) (o : OpU) : LS ByteArray :=
  if o.k = 0 then s.does o.t o.g else if o.k = 1 then s.move o.t else if o.k = 2 then s.brk else if o.k = 3 then s.undo else if o.k = 4 then s.redo else s
/-- Was there something to do? -/
def didU (s : LS ByteArray) (o : OpU) : Bool :=
  if o.k = 0 then decide (o.t ≠ s.now) else if o.k = 3 then decide (s.back ≠ []) else if o.k = 4 then decide (s.forth ≠ []) else false
theorem doU_ok {s : LS ByteArray} (h : s.Ok) (o : OpU) : (doU s o).Ok := by
  unfold doU
  split
  · exact h.does _ _
  · split
    · exact h.move _
    · split
      · exact h.brk
      · split
        · exact h.undo
        · split
          · exact h.redo
          · exact h
def runU (s : LS ByteArray) (os : List OpU) : LS ByteArray := os.foldl doU s
theorem runU_ok {s : LS ByteArray} (h : s.Ok) : ∀ os, (runU s os).Ok := fun os => by
  induction os generalizing s with
  | nil => exact h
  | cons o t ih => exact ih (doU_ok h o)
theorem runU_take (s : LS ByteArray) (os : List OpU) (k : Nat) (hk : k < os.length) : runU s (os.take (k + 1)) = doU (runU s (os.take k)) (os.getD k OpU.none_) := by
  unfold runU
  rw [List.take_succ_eq_append_getElem hk, List.foldl_append]
  simp [List.getD, hk]
end Go.Proofs.Ytgcafmofpflidaa
