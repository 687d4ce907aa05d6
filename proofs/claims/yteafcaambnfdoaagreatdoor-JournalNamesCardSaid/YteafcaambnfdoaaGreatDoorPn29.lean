/-
  Layer 7 and what it stands on, part 29 (RJPack RJUnpack RJEntries).
-/
import Derived.Test.YteafcaambnfdoaaGreatDoorPn25
import Derived.Test.YteafcaambnfdoaaGreatDoorPn28
import Derived.Lib.AppendStr
namespace Go.Proofs.YteafcaambnfdoaaGreatDoor
section
open Go Go.RowKit
set_option maxRecDepth 100000
theorem strCells_bs (l : List UInt8) : Lib.strCells (bs l) = Lib.byteCells l := rfl
theorem run_append_str (w : World) (base : Nat) (ty : TypeId) (v : Value) (xs : List UInt8) (hown : w.ownsRow base 5 1 v xs.length (Lib.byteCells xs)) (l : List UInt8) (hb : xs.length + l.length ≤ 1000000) (hbase : base ≤ w.heap.size) :
    ∃ v' w', (Builtin.append_ #[30, 9] ty #[v, .string (bs l)]).run Tryz.prog w = .ok v' w' ∧ w'.ownsRow base 5 1 v' (xs ++ l).length (Lib.byteCells (xs ++ l)) ∧ w.grownBy w' v.ownBlock := by
  obtain ⟨i0, hi0, hz0, hz1, hz2⟩ := info8_11
  obtain ⟨v', w', h1, h2, h3, _⟩ := Lib.run_append_own_string (P := Tryz.prog) w base 30 9 ty 5 i0 Tryz.underlying30 Tryz.underlying9 hi0 hz0 hz1 hz2 v xs.length (Lib.byteCells xs) hown (bs l) (by rw [bs_size]; unfold maxLen; omega) (by rw [bs_size]; omega) hbase
  refine ⟨v', w', h1, ?_, h3⟩
  rw [bs_size, strCells_bs] at h2
  rw [List.length_append, show Lib.byteCells (xs ++ l) = Lib.byteCells xs ++ Lib.byteCells l by simp [Lib.byteCells]]
  exact h2
theorem byt_one (wr : World) (q : Nat) : Byt (wr.alloc (.cells #[.int .u8 ((q : Int) % 256)] 5)) (some ⟨wr.heap.size, 0, none⟩) [UInt8.ofNat (q % 256)] := by
  have h := byt_lit wr [UInt8.ofNat (q % 256)]
  have e : (Lib.byteCells [UInt8.ofNat (q % 256)]).toArray = #[.int .u8 ((q : Int) % 256)] := by
    unfold Lib.byteCells
    have e1 : ((UInt8.ofNat (q % 256)).toNat : Int) = (q : Int) % 256 := by rw [UInt8.toNat_ofNat']; omega
    simp only [List.map_cons, List.map_nil]
    rw [e1]
  rwa [e] at h
end
section
open Go Go.RowKit
set_option maxRecDepth 100000
theorem results_en2 {P : Program} {fn : Func} {p q : Tmp} {ty : TypeId} {fs : Array Field} (h : fn.results = #[.cell p ty, .tmp q]) (tmps : Array Value) (w : World) (g : Nat) (v0 v1 v2 v : Value) (t : TypeId)
    (hp : tmps.getD p undef = .pointer (some ⟨g, 0, none⟩)) (hq : tmps.getD q undef = v) (hb : BxA w g t [v0, v1, v2]) (hu : P.underlying ty = some (.struct fs)) (hsz : (sizeOf ty).run P w = .ok 3 w) : (results fn tmps).run P w = .ok (.tuple #[.agg #[v0, v1, v2], v]) w := by
  have hp' : tmps[p]?.getD undef = .pointer (some ⟨g, 0, none⟩) := by simpa using hp
  have hq' : tmps[q]?.getD undef = v := by simpa using hq
  have c0 := hb.c 0 rfl
  have c1 := hb.c 1 rfl
  have c2 := hb.c 2 rfl
  simp [results, h, hp', hq', asAddr, loadVar, isAgg, Sem.run_bind, run_underlying hu, hsz, loadCells, loadCellsFrom, Addr.add, c0, c1, c2, go_sem]
/-- Bytes of a time, from the last one on. -/
def hornJ (p : List UInt8) : Nat → Nat
  | 0 => 0
  | j + 1 => hornJ p j * 256 + (p.getD (4 - j) 0).toNat
end
section
open Go Go.RowKit
set_option maxRecDepth 100000
theorem enC_one (f : EnJ) : ∀ u ∈ enC f, u.oneCell' = true := by
  intro u hu
  simp only [enC, List.mem_cons, List.not_mem_nil, or_false] at hu
  rcases hu with rfl | rfl | rfl <;> rfl
end
end Go.Proofs.YteafcaambnfdoaaGreatDoor
