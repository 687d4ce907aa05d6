/-
  Layer 7 and what it stands on, part 20 (Bx BxT BxR).
-/
import Derived.Test.YtlmbafnoopfilaaGreatDoorPg4
import Derived.RangeFuncBox
namespace Go.Proofs.YtlmbafnoopfilaaGreatDoor
section
open Go Go.RowKit
/-- A box of two cells. -/
def Bx (w : World) (g : Nat) (t : TypeId) (a b : Value) : Prop := w.heap[g]? = some (.cells #[a, b] t (0, 0))
theorem Bx.lt {w : World} {g : Nat} {t : TypeId} {a b : Value} (h : Bx w g t a b) : g < w.heap.size := (Array.getElem?_eq_some_iff.1 h).1
theorem Bx.c0 {w : World} {g : Nat} {t : TypeId} {a b : Value} (h : Bx w g t a b) : w.cell? ⟨g, 0, none⟩ = some a := by simp [World.cell?, show w.heap[g]? = _ from h]
theorem Bx.c1 {w : World} {g : Nat} {t : TypeId} {a b : Value} (h : Bx w g t a b) : w.cell? ⟨g, 1, none⟩ = some b := by simp [World.cell?, show w.heap[g]? = _ from h]
theorem Bx.f0 {w : World} {g : Nat} {t : TypeId} {a b : Value} (h : Bx w g t a b) : w.frozen? ⟨g, 0, none⟩ = false := by simp [World.frozen?, show w.heap[g]? = _ from h]
theorem Bx.f1 {w : World} {g : Nat} {t : TypeId} {a b : Value} (h : Bx w g t a b) : w.frozen? ⟨g, 1, none⟩ = false := by simp [World.frozen?, show w.heap[g]? = _ from h]
theorem Bx.new (w : World) (t : TypeId) (a b : Value) : Bx (w.alloc (.cells #[a, b] t)) w.heap.size t a b := World.alloc_heap_new w _
theorem Bx.below {w w' : World} {g : Nat} {t : TypeId} {a b : Value} (h : Bx w g t a b) (hb : Below w.heap.size w w') : Bx w' g t a b := (hb.block g h.lt).trans h
theorem Bx.alloc {w : World} {g : Nat} {t : TypeId} {a b : Value} (h : Bx w g t a b) (o : Obj) : Bx (w.alloc o) g t a b := h.below ((Below.refl _ w).alloc (Nat.le_refl _) o)
theorem Bx.drew {w : World} {g : Nat} {t : TypeId} {a b : Value} (h : Bx w g t a b) : Bx w.drew g t a b := h
theorem Bx.drewN {w : World} {g : Nat} {t : TypeId} {a b : Value} (h : Bx w g t a b) (n : Nat) : Bx (w.drewN n) g t a b := h
theorem Bx.set0 {w : World} {g : Nat} {t : TypeId} {a b : Value} (h : Bx w g t a b) (v : Value) : Bx (w.setCell ⟨g, 0, none⟩ v) g t v b := by
  obtain ⟨hlt, hk⟩ := Array.getElem?_eq_some_iff.1 h
  show (w.heap.modify g _)[g]? = _
  rw [Array.getElem?_eq_getElem (by rw [Array.size_modify]; exact hlt), Array.getElem_modify_self, hk]
  rfl
theorem Bx.set1 {w : World} {g : Nat} {t : TypeId} {a b : Value} (h : Bx w g t a b) (v : Value) : Bx (w.setCell ⟨g, 1, none⟩ v) g t a v := by
  obtain ⟨hlt, hk⟩ := Array.getElem?_eq_some_iff.1 h
  show (w.heap.modify g _)[g]? = _
  rw [Array.getElem?_eq_getElem (by rw [Array.size_modify]; exact hlt), Array.getElem_modify_self, hk]
  rfl
theorem Bx.other {w : World} {g g' i : Nat} {t : TypeId} {a b : Value} (h : Bx w g t a b) (hne : g ≠ g') (v : Value) : Bx (w.setCell ⟨g', i, none⟩ v) g t a b := (Below.heap_setCell w ⟨g', i, none⟩ v g (by simpa using hne)).trans h
theorem results_bx {P : Program} {fn : Func} {p : Tmp} {ty : TypeId} {fs : Array Field} (h : fn.results = #[.cell p ty]) (tmps : Array Value) (w : World) (g : Nat) (v0 v1 : Value) (t : TypeId)
    (hp : tmps.getD p undef = .pointer (some ⟨g, 0, none⟩)) (hb : Bx w g t v0 v1) (hu : P.underlying ty = some (.struct fs)) (hsz : (sizeOf ty).run P w = .ok 2 w) : (results fn tmps).run P w = .ok (.agg #[v0, v1]) w := by
  have hp' : tmps[p]?.getD undef = .pointer (some ⟨g, 0, none⟩) := by simpa using hp
  have c0 := hb.c0
  have c1 := hb.c1
  simp [results, h, hp', asAddr, loadVar, isAgg, Sem.run_bind, run_underlying hu, hsz, loadCells, loadCellsFrom, Addr.add, c0, c1, go_sem]
theorem results_bx2 {P : Program} {fn : Func} {p q : Tmp} {ty : TypeId} {fs : Array Field} (h : fn.results = #[.cell p ty, .tmp q]) (tmps : Array Value) (w : World) (g : Nat) (v0 v1 : Value) (t : TypeId)
    (hp : tmps.getD p undef = .pointer (some ⟨g, 0, none⟩)) (hb : Bx w g t v0 v1) (hu : P.underlying ty = some (.struct fs)) (hsz : (sizeOf ty).run P w = .ok 2 w) : (results fn tmps).run P w = .ok (.tuple #[.agg #[v0, v1], tmps.getD q undef]) w := by
  have hp' : tmps[p]?.getD undef = .pointer (some ⟨g, 0, none⟩) := by simpa using hp
  have c0 := hb.c0
  have c1 := hb.c1
  simp [results, h, hp', asAddr, loadVar, isAgg, Sem.run_bind, run_underlying hu, hsz, loadCells, loadCellsFrom, Addr.add, c0, c1, go_sem]
end
section
open Go Go.RowKit
theorem sizeBuf (w : World) : (sizeOf 36).run Tryz.prog w = .ok 2 w := Tryz.sizeOf36 w
end
section
open Go Go.RowKit
theorem sizeRBuf (w : World) : (sizeOf 24).run Tryz.prog w = .ok 2 w := Tryz.sizeOf24 w
end
end Go.Proofs.YtlmbafnoopfilaaGreatDoor
