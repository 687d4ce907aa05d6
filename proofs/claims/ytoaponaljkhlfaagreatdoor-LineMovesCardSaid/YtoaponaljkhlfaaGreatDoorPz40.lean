/-
  Layer 7 and what it stands on, part 40 (LnLawV).
-/
import Derived.Test.YtoaponaljkhlfaaGreatDoorPz6
import Derived.Test.YtoaponaljkhlfaaGreatDoorPz9
namespace Go.Proofs.YtoaponaljkhlfaaGreatDoor
section
open Go Go.RowKit
def wantM (x : List UInt8) (a : Nat) (k : Int) : Nat :=
 if k = 5 then prvL x a else if k = 6 then nxtL x a else if k = 7 then 0 else if k = 8 then x.length else if k = 9 then wlL x a else wrL x a
namespace LN
theorem key_mvV (s : LN) {k : Int} (h : 5 ≤ k ∧ k ≤ 10) : (s.key k []).buf = (s.buf.1, wantM s.buf.1 s.buf.2 k) ∧ (s.key k []).log.back = s.log.back ∧ (s.key k []).log.forth = s.log.forth ∧ (s.key k []).ring = s.ring ∧ kills k = false := by
 have h2 : k = 5 ∨ k = 6 ∨ k = 7 ∨ k = 8 ∨ k = 9 ∨ k = 10 := by omega
 rcases h2 with rfl | rfl | rfl | rfl | rfl | rfl <;> exact ⟨rfl, rfl, rfl, rfl, rfl⟩
end LN
section
variable {P : Program} {t kt et : TypeId}
theorem run_lookF (ht : P.underlying t = some (.map kt et)) (hk : P.underlying kt = some (.int .i64)) (w : World) (m : Nat) (es : Array MapEntry) (c : Nat) (hm : w.heap[m]? = some (.map es c)) (k : Int) (i : Nat) (v : Value) (hf : Instr.findNow (.int .i64) (.int .i64 k) es.toList 0 = some (some (i, v))) :
  (Instr.lookup t (.map (some m)) (.int .i64 k) false).run P w = .ok v w := by
 have hc : (Instr.checkKey es.isEmpty 10000 kt (.int .i64 k)).run P w = .ok () w := MapKept.run_checkKey (k := .int .i64 k) hk (by simp [MapKept.IsKey]) _ 9999
 simp [Instr.lookup, run_underlying ht, MapKept.run_getObj_map hm, hc, MapKept.run_findKey hk hf, Result.andThen]
theorem run_lookF_none (ht : P.underlying t = some (.map kt et)) (hk : P.underlying kt = some (.int .i64)) (w : World) (m : Nat) (es : Array MapEntry) (c : Nat) (hm : w.heap[m]? = some (.map es c)) (k : Int) (z : Value) (hz : (zeroValue et).run P w = .ok z w) (hf : Instr.findNow (.int .i64) (.int .i64 k) es.toList 0 = some none) :
  (Instr.lookup t (.map (some m)) (.int .i64 k) false).run P w = .ok z w := by
 have hc : (Instr.checkKey es.isEmpty 10000 kt (.int .i64 k)).run P w = .ok () w := MapKept.run_checkKey (k := .int .i64 k) hk (by simp [MapKept.IsKey]) _ 9999
 simp [Instr.lookup, run_underlying ht, MapKept.run_getObj_map hm, hc, MapKept.run_findKey hk hf, hz, Result.andThen]
end
def mvE (x : List UInt8) (a : Nat) : Array MapEntry := #[⟨.int .i64 5, .int .i64 (prvL x a : Int), 0⟩, ⟨.int .i64 6, .int .i64 (nxtL x a : Int), 1⟩, ⟨.int .i64 8, .int .i64 (x.length : Int), 2⟩, ⟨.int .i64 9, .int .i64 (wlL x a : Int), 3⟩, ⟨.int .i64 10, .int .i64 (wrL x a : Int), 4⟩]
theorem mv_look {w : World} {m : Nat} {x : List UInt8} {a : Nat} (hm : w.heap[m]? = some (.map (mvE x a) 5)) {k : Int} (h : 5 ≤ k ∧ k ≤ 10) :
  (Instr.lookup 49 (.map (some m)) (.int .i64 k) false).run Tryz.prog w = .ok (.int .i64 (wantM x a k : Int)) w := by
 have h2 : k = 5 ∨ k = 6 ∨ k = 7 ∨ k = 8 ∨ k = 9 ∨ k = 10 := by omega
 rcases h2 with rfl | rfl | rfl | rfl | rfl | rfl
 ·exact run_lookF Tryz.underlying49 Tryz.underlying3 w m _ 5 hm 5 0 _ rfl
 ·exact run_lookF Tryz.underlying49 Tryz.underlying3 w m _ 5 hm 6 1 _ rfl
 ·exact run_lookF_none Tryz.underlying49 Tryz.underlying3 w m _ 5 hm 7 (.int .i64 0) (by simp [zeroValue, go_sem]; kernel_rfl) rfl
 ·exact run_lookF Tryz.underlying49 Tryz.underlying3 w m _ 5 hm 8 2 _ rfl
 ·exact run_lookF Tryz.underlying49 Tryz.underlying3 w m _ 5 hm 9 3 _ rfl
 ·exact run_lookF Tryz.underlying49 Tryz.underlying3 w m _ 5 hm 10 4 _ rfl
end
end Go.Proofs.YtoaponaljkhlfaaGreatDoor
