/-
  Layer 7 and what it stands on, part 12 (RingTold).
-/
import Derived.RangeFuncNested
namespace Go.Proofs.YtoaponaljkhlfaaGreatDoor
section
open Go
theorem ownFrom_sz {β : Type} (B k : Nat) : OwnFrom B (fun (_ : β) W => k ≤ W.heap.size) := fun _ _ _ _ hs hg _ => Nat.le_trans hs hg.size
section
variable {α : Type}
def told (l : List α) : List (Nat × α) := l.zipIdx.map fun p => (p.2, p.1)
theorem told_length (l : List α) : (told l).length = l.length := by simp [told]
theorem told_get (l : List α) (k : Nat) : (told l)[k]? = l[k]?.map fun x => (k, x) := by
 simp [told]
 cases l[k]? <;> rfl
theorem told_take (l : List α) (k : Nat) (x : α) (h : l[k]? = some x) : (told l).take k ++ [(k, x)] = (told l).take (k + 1) := by
 rw [List.take_add_one, told_get, h]; rfl
abbrev OfL (l : List α) := { x : Nat × α // l[x.1]? = some x.2 }
def valsL {l : List α} (xs : List (OfL l)) : List (Nat × α) := xs.map (·.1)
theorem valsL_snoc {l : List α} (xs : List (OfL l)) (x : OfL l) : valsL (xs ++ [x]) = valsL xs ++ [x.1] := by simp [valsL]
theorem valsL_length {l : List α} (xs : List (OfL l)) : (valsL xs).length = xs.length := by simp [valsL]
theorem told_snd (l : List α) : (told l).map (·.2) = l := by
 apply List.ext_getElem?
 intro k
 rw [List.getElem?_map, told_get]
 cases l[k]? <;> rfl
end
end
end Go.Proofs.YtoaponaljkhlfaaGreatDoor
