/-
  Rings as the document tells them: a row, the newest first, and the place on which it stands. Lists alone.
-/
namespace Go.Proofs.YtjfikdldabmciaaDoor

structure RS (α : Type) where
  lim : Nat
  l : List α
  i : Nat
/-- f of the first one. -/
def chL {α : Type} (f : α → α) : List α → List α
  | [] => []
  | x :: t => f x :: t
theorem chL_length {α : Type} (f : α → α) (l : List α) : (chL f l).length = l.length := by cases l <;> rfl
def limOf (n : Int) : Nat := (max 1 (min n 64)).toNat
theorem limOf_le (n : Int) : limOf n ≤ 64 := by unfold limOf; omega
theorem limOf_pos (n : Int) : 1 ≤ limOf n := by unfold limOf; omega
namespace RS
variable {α : Type}
structure Ok (s : RS α) : Prop where
  pos : 1 ≤ s.lim
  le : s.lim ≤ 64
  len : s.l.length ≤ s.lim
  at_ : s.i < s.l.length ∨ (s.i = 0 ∧ s.l = [])
def new (n : Int) : RS α := ⟨limOf n, [], 0⟩
def push (s : RS α) (x : α) : RS α := ⟨s.lim, x :: s.l.take (s.lim - 1), 0⟩
def change (s : RS α) (f : α → α) : RS α := ⟨s.lim, chL f s.l, 0⟩
def turn (s : RS α) : RS α := ⟨s.lim, s.l, if s.i + 1 < s.l.length then s.i + 1 else 0⟩
def home (s : RS α) : RS α := ⟨s.lim, s.l, 0⟩
theorem Ok.new (n : Int) : (RS.new n : RS α).Ok := ⟨limOf_pos n, limOf_le n, Nat.zero_le _, .inr ⟨rfl, rfl⟩⟩
theorem Ok.push {s : RS α} (h : s.Ok) (x : α) : (s.push x).Ok := ⟨h.pos, h.le, by
  have := h.pos
  show (x :: s.l.take (s.lim - 1)).length ≤ s.lim
  rw [List.length_cons, List.length_take]; omega, .inl (by show 0 < (x :: s.l.take (s.lim - 1)).length; simp)⟩
theorem Ok.change {s : RS α} (h : s.Ok) (f : α → α) : (s.change f).Ok := ⟨h.pos, h.le, by show (chL f s.l).length ≤ s.lim; rw [chL_length]; exact h.len, by
  show 0 < (chL f s.l).length ∨ (0 = 0 ∧ chL f s.l = [])
  cases s.l with
  | nil => exact .inr ⟨rfl, rfl⟩
  | cons x t => exact .inl (by simp [chL])⟩
theorem Ok.turn {s : RS α} (h : s.Ok) : s.turn.Ok := ⟨h.pos, h.le, h.len, by
  show (if s.i + 1 < s.l.length then s.i + 1 else 0) < s.l.length ∨ _
  rcases h.at_ with h1 | h1
  · left; split <;> omega
  · right
    refine ⟨?_, h1.2⟩
    show (if s.i + 1 < s.l.length then s.i + 1 else 0) = 0
    rw [h1.2]; simp⟩
theorem Ok.home {s : RS α} (h : s.Ok) : s.home.Ok := ⟨h.pos, h.le, h.len, by
  rcases h.at_ with h1 | h1
  · exact .inl (by show 0 < s.l.length; omega)
  · exact .inr ⟨rfl, h1.2⟩⟩
/-- One turn, as the program reckons it. -/
theorem turn_mod {s : RS α} (h : s.Ok) (hn : 0 < s.l.length) : s.turn.i = (s.i + 1) % s.l.length := by
  show (if s.i + 1 < s.l.length then s.i + 1 else 0) = _
  have hi : s.i < s.l.length := h.at_.resolve_right fun h1 => by rw [h1.2] at hn; simp at hn
  split
  · rw [Nat.mod_eq_of_lt (by assumption)]
  · rw [show s.i + 1 = s.l.length by omega, Nat.mod_self]
/-- Some turns. -/
def turns (s : RS α) : Nat → RS α
  | 0 => s
  | k + 1 => (s.turns k).turn
theorem turns_l (s : RS α) : ∀ k, (s.turns k).l = s.l
  | 0 => rfl
  | k + 1 => turns_l s k
theorem turns_lim (s : RS α) : ∀ k, (s.turns k).lim = s.lim
  | 0 => rfl
  | k + 1 => turns_lim s k
theorem Ok.turns {s : RS α} (h : s.Ok) : ∀ k, (s.turns k).Ok
  | 0 => h
  | k + 1 => (Ok.turns h k).turn
theorem turns_i {s : RS α} (h : s.Ok) (hn : 0 < s.l.length) : ∀ k, (s.turns k).i = (s.i + k) % s.l.length
  | 0 => by
    have hi : s.i < s.l.length := h.at_.resolve_right fun h1 => by rw [h1.2] at hn; simp at hn
    show s.i = _
    rw [Nat.add_zero, Nat.mod_eq_of_lt hi]
  | k + 1 => by
    have h1 := turn_mod (Ok.turns h k) (by rw [turns_l]; exact hn)
    show (s.turns k).turn.i = _
    rw [h1, turns_l, turns_i h hn k, Nat.mod_add_mod, Nat.add_assoc]
theorem turns_all {s : RS α} (h : s.Ok) : (s.turns s.l.length) = s := by
  have hl := turns_l s s.l.length
  have hm := turns_lim s s.l.length
  have hi : (s.turns s.l.length).i = s.i := by
    rcases h.at_ with h1 | h1
    · rw [turns_i h (by omega), Nat.add_mod_right, Nat.mod_eq_of_lt h1]
    · rw [h1.2]; rfl
  generalize s.turns s.l.length = t at *
  obtain ⟨a, b, c⟩ := t
  obtain ⟨a', b', c'⟩ := s
  simp only at hl hm hi
  rw [hl, hm, hi]
/-- The things on which the first k turns stand. -/
def met (s : RS α) (d : α) (k : Nat) : List α := (List.range k).map fun j => s.l.getD ((s.i + (j + 1)) % s.l.length) d
theorem met_succ (s : RS α) (d : α) (k : Nat) : s.met d (k + 1) = s.met d k ++ [s.l.getD ((s.i + (k + 1)) % s.l.length) d] := by
  simp [met, List.range_succ]
theorem met_all_perm (s : RS α) (d : α) : (s.met d s.l.length).Perm s.l := by
  by_cases hn : s.l.length = 0
  · rw [hn, List.eq_nil_of_length_eq_zero hn]; exact List.Perm.refl _
  have hj : (s.i + 1) % s.l.length < s.l.length := Nat.mod_lt _ (by omega)
  have e : s.met d s.l.length = s.l.drop ((s.i + 1) % s.l.length) ++ s.l.take ((s.i + 1) % s.l.length) := by
    apply List.ext_getElem
    · simp [met]; omega
    · intro k h1 h2
      have hk : k < s.l.length := by simpa [met] using h1
      simp only [met, List.getElem_map, List.getElem_range]
      have e1 : (s.i + (k + 1)) % s.l.length = ((s.i + 1) % s.l.length + k) % s.l.length := by
        rw [Nat.mod_add_mod]; congr 1; omega
      rw [e1, List.getElem_append]
      split
      · rename_i h3
        rw [List.length_drop] at h3
        rw [Nat.mod_eq_of_lt (by omega), List.getElem_drop, List.getD_eq_getElem?_getD, List.getElem?_eq_getElem (by omega), Option.getD_some]
      · rename_i h3
        rw [List.length_drop] at h3
        have e2 : ((s.i + 1) % s.l.length + k) % s.l.length = k - (s.l.length - (s.i + 1) % s.l.length) := by
          rw [Nat.mod_eq_sub_mod (by omega), Nat.mod_eq_of_lt (by omega)]; omega
        rw [List.getElem_take, e2, List.getD_eq_getElem?_getD, List.getElem?_eq_getElem (by omega), Option.getD_some]
        congr 1
        rw [List.length_drop]
  rw [e]
  have := List.perm_append_comm (l₁ := s.l.drop ((s.i + 1) % s.l.length)) (l₂ := s.l.take ((s.i + 1) % s.l.length))
  rwa [List.take_append_drop] at this
/-- What is behind pushes: what came last, as many as the limit says. -/
theorem push_last (lim : Nat) (hl : 1 ≤ lim) (pre : List α) (x : α) (i : Nat) : (RS.push ⟨lim, (pre.reverse).take lim, i⟩ x).l = ((pre ++ [x]).reverse).take lim := by
  show x :: ((pre.reverse).take lim).take (lim - 1) = _
  rw [List.reverse_append, List.take_take, show min (lim - 1) lim = lim - 1 by omega]
  obtain ⟨m, rfl⟩ : ∃ m, lim = m + 1 := ⟨lim - 1, by omega⟩
  rfl
end RS

/-- A call of the document's script. -/
structure OpD where
  k : Int
  t : ByteArray
def OpD.none_ : OpD := ⟨0, ⟨#[]⟩⟩
def doR (s : RS ByteArray) (o : OpD) : RS ByteArray :=
  if o.k = 0 then s.push o.t else if o.k = 1 then s.change (· ++ o.t) else if o.k = 2 then s.turn else if o.k = 3 then s.home else s
theorem doR_ok {s : RS ByteArray} (h : s.Ok) (o : OpD) : (doR s o).Ok := by
  unfold doR
  split
  · exact h.push _
  · split
    · exact h.change _
    · split
      · exact h.turn
      · split
        · exact h.home
        · exact h
def runR (s : RS ByteArray) (os : List OpD) : RS ByteArray := os.foldl doR s
theorem runR_ok {s : RS ByteArray} (h : s.Ok) : ∀ os, (runR s os).Ok := fun os => by
  induction os generalizing s with
  | nil => exact h
  | cons o t ih => exact ih (doR_ok h o)
theorem runR_take (s : RS ByteArray) (os : List OpD) (k : Nat) (hk : k < os.length) : runR s (os.take (k + 1)) = doR (runR s (os.take k)) (os.getD k OpD.none_) := by
  unfold runR
  rw [List.take_succ_eq_append_getElem hk, List.foldl_append]
  simp [List.getD, hk]
end Go.Proofs.YtjfikdldabmciaaDoor
