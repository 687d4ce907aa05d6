/-
  Boxes of however many cells.
-/
import Derived.Test.YtjfikdldabmciaaDoorRingAt
namespace Go.Proofs.YtjfikdldabmciaaDoor
open Go Go.RowKit

def BxA (w : World) (g : Nat) (t : TypeId) (vs : List Value) : Prop := w.heap[g]? = some (.cells vs.toArray t (0, 0))
section
variable {w w' : World} {b : Nat} {t : TypeId} {vs : List Value}
theorem BxA.lt (h : BxA w b t vs) : b < w.heap.size := (Array.getElem?_eq_some_iff.1 h).1
theorem BxA.c (h : BxA w b t vs) (i : Nat) {v : Value} (hv : vs[i]? = some v) : w.cell? ⟨b, i, none⟩ = some v := by
  simp [World.cell?, show w.heap[b]? = _ from h, hv]
theorem BxA.free (h : BxA w b t vs) (i : Nat) : w.frozen? ⟨b, i, none⟩ = false := by simp [World.frozen?, show w.heap[b]? = _ from h]
theorem BxA.keep {R : Nat → Prop} (h : BxA w b t vs) (ho : Only R w w') (hn : ¬ R b) : BxA w' b t vs := (ho.block b h.lt hn).trans h
theorem BxA.below (h : BxA w b t vs) (hb : Below w.heap.size w w') : BxA w' b t vs := (hb.block b h.lt).trans h
theorem BxA.new (w : World) (t : TypeId) (vs : List Value) : BxA (w.alloc (.cells vs.toArray t)) w.heap.size t vs := World.alloc_heap_new w _
theorem BxA.alloc (h : BxA w b t vs) (o : Obj) : BxA (w.alloc o) b t vs := h.below ((Below.refl _ w).alloc (Nat.le_refl _) o)
theorem BxA.other {g i : Nat} (h : BxA w b t vs) (hne : b ≠ g) (v : Value) : BxA (w.setCell ⟨g, i, none⟩ v) b t vs := (Below.heap_setCell w ⟨g, i, none⟩ v b (by simpa using hne)).trans h
theorem BxA.set (h : BxA w b t vs) (i : Nat) (v : Value) : BxA (w.setCell ⟨b, i, none⟩ v) b t (vs.set i v) := by
  obtain ⟨hlt, hk⟩ := Array.getElem?_eq_some_iff.1 h
  show (w.heap.modify b _)[b]? = _
  rw [Array.getElem?_eq_getElem (by rw [Array.size_modify]; exact hlt), Array.getElem_modify_self, hk]
  simp
end
end Go.Proofs.YtjfikdldabmciaaDoor
