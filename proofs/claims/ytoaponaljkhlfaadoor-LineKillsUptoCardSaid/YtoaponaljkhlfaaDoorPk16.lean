/-
  Layer 7 and what it stands on, part 16 (RingTold).
-/
import Derived.RangeFuncNested
namespace Go.Proofs.YtoaponaljkhlfaaDoor
section
open Go
theorem ownFrom_sz {β : Type} (B k : Nat) : OwnFrom B (fun (_ : β) W => k ≤ W.heap.size) := fun _ _ _ _ hs hg _ => Nat.le_trans hs hg.size
section
variable {α : Type}
def told (l : List α) : List (Nat × α) := l.zipIdx.map fun p => (p.2, p.1)
theorem told_length (l : List α) : (told l).length = l.length := by simp [told]
theorem told_get (l : List α) (k : Nat) : (told l)[k]? = l[k]?.map fun x => (k, x) := by
  simp [told]
  cases l[k]? <;> rfl
theorem told_take (l : List α) (k : Nat) (x : α) (h : l[k]? = some x) : (told l).take k ++ [(k, x)] = (told l).take (k + 1) := by
  rw [List.take_add_one, told_get, h]; rfl
/-- A thing of l, with its place. -/
abbrev OfL (l : List α) := { x : Nat × α // l[x.1]? = some x.2 }
def valsL {l : List α} (xs : List (OfL l)) : List (Nat × α) := xs.map (·.1)
theorem valsL_snoc {l : List α} (xs : List (OfL l)) (x : OfL l) : valsL (xs ++ [x]) = valsL xs ++ [x.1] := by simp [valsL]
theorem valsL_length {l : List α} (xs : List (OfL l)) : (valsL xs).length = xs.length := by simp [valsL]
theorem told_pre {l : List α} {xs : List (OfL l)} (x : OfL l) (h2 : valsL (xs ++ [x]) <+: told l) : x.1.1 = xs.length := by
  rw [valsL_snoc] at h2
  obtain ⟨r, hr⟩ := h2
  have h3 : (told l)[xs.length]? = some x.1 := by
    rw [← hr, List.append_assoc, List.getElem?_append_right (by rw [valsL_length]; omega), valsL_length]
    simp
  rw [told_get] at h3
  cases e : l[xs.length]? with
  | none => rw [e] at h3; cases h3
  | some y => rw [e] at h3; injection h3 with h3; rw [← h3]
theorem prefix_snoc5 {E P : List (Nat × α)} {y : Nat × α} (h : P <+: E) : P ++ [y] <+: E ↔ E[P.length]? = some y := by
  obtain ⟨r, rfl⟩ := h
  rw [List.prefix_append_right_inj]
  cases r with
  | nil => simp
  | cons z r => simp [eq_comm]
/-- The next thing that is told, told of. -/
theorem told_next {l : List α} {pre : List (OfL l)} (h : valsL pre <+: told l) (x : OfL l) (e : x.1.1 = pre.length) : valsL (pre ++ [x]) <+: told l := by
  rw [valsL_snoc, prefix_snoc5 h, valsL_length, told_get, ← e, x.2]; rfl
theorem told_snd (l : List α) : (told l).map (·.2) = l := by
  apply List.ext_getElem?
  intro k
  rw [List.getElem?_map, told_get]
  cases l[k]? <;> rfl
end
end
end Go.Proofs.YtoaponaljkhlfaaDoor
