/-
  The document's own Insert: what the call comes to.
-/
import Derived.Test.YtifdgaklchihbaaDoorIns
namespace Go.Proofs.YtifdgaklchihbaaDoor
open Go Go.RowKit

set_option maxHeartbeats 4000000 in
theorem rinsert_ok (l s : List UInt8) (n : Int) (hl : l.length ≤ 137438953472) (hs : s.length ≤ 137438953472) (w : World) (h6 : (mS l).length + (plainL s).length ≤ 600) :
    Calls Tryd.prog 19 #[.agg #[.string (bs l), .int .i64 n], .string (bs s)] w fun e w' => e = .returned (.tuple #[.agg #[.string (bs (insS (mS l) (mA l n) (plainL s))), .int .i64 (insA (mS l) (mA l n) (plainL s) : Int)], .bool true]) ∧ Below w.heap.size w w' := by
  have HM := Lib.hid (fun W => rmake_calls l n hl W)
  have HP := Lib.hid (fun W => rplain_calls s hs W)
  have ha := mA_le l n
  have hil := insS_length (mS l) (mA l n) (plainL s) ha
  have HO := Lib.hid (fun W => ron_calls (insS (mS l) (mA l n) (plainL s)) ((mA l n + (plainL s).length : Nat) : Int) (by omega) W)
  have HiA : Hid (onL (insS (mS l) (mA l n) (plainL s)) ((mA l n + (plainL s).length : Nat) : Int) = insA (mS l) (mA l n) (plainL s)) := Lib.hid rfl
  have hx1 := bs_take (mS l) (mA l n)
  have hx2 := bs_drop (mS l) (mA l n)
  have hp1 := add_bs Tryd.prog ((mS l).take (mA l n)) (plainL s) (by have := take_len_le (mS l) (mA l n); omega)
  have hp2 : ∀ W : World, (Op.stringOp .add (bs ((mS l).take (mA l n) ++ plainL s)) (bs ((mS l).drop (mA l n)))).run Tryd.prog W = .ok (.string (bs (insS (mS l) (mA l n) (plainL s)))) W :=
    add_bs Tryd.prog ((mS l).take (mA l n) ++ plainL s) ((mS l).drop (mA l n)) (by have := take_len_le (mS l) (mA l n); have := drop_len_le (mS l) (mA l n); rw [List.length_append]; omega)
  rw [HiA.out] at HO
  clear HiA
  generalize insA (mS l) (mA l n) (plainL s) = x at *
  generalize insS (mS l) (mA l n) (plainL s) = whole at *
  generalize (mS l).take (mA l n) ++ plainL s = t3 at *
  generalize (mS l).take (mA l n) = t1 at *
  generalize (mS l).drop (mA l n) = t2 at *
  generalize mA l n = a at *
  generalize mS l = m at *
  generalize plainL s = p at *
  have hszm := bs_size m
  have hszp := bs_size p
  have k0 : Below w.heap.size w ((w.alloc (.cells #[.string (bs l), .int .i64 n] 27)).alloc (.cells #[.string ⟨#[]⟩, .int .i64 0] 27)) := ((Below.refl _ w).alloc (Nat.le_refl _) _).alloc (by simp) _
  have b0 := (Bx.new w 27 (.string (bs l)) (.int .i64 n)).alloc (.cells #[.string ⟨#[]⟩, .int .i64 0] 27)
  have r0 := Bx.new (w.alloc (.cells #[.string (bs l), .int .i64 n] 27)) 27 (.string ⟨#[]⟩) (.int .i64 0)
  rw [World.size_alloc] at r0
  have c00 := b0.c0
  have c01 := b0.c1
  have hi0 : (0 : Int) ≤ (a : Int) := by omega
  have hi1 : (a : Int) ≤ (m.length : Int) := by omega
  have hw1 : IntKind.i64.wrap ((m.length : Int) + (p.length : Int)) = (m.length : Int) + (p.length : Int) := IntWalk.i64_in _ (by omega)
  have hw2 : IntKind.i64.wrap ((a : Int) + (p.length : Int)) = (a : Int) + (p.length : Int) := IntWalk.i64_in _ (by omega)
  have hd6 : decide ((600 : Int) < (m.length : Int) + (p.length : Int)) = false := decide_eq_false (by omega)
  have hcast : ((a + p.length : Nat) : Int) = (a : Int) + (p.length : Int) := by omega
  rw [hcast] at HO
  clear hil hcast
  go_enter Tryd.func19, Tryd.ntmps19
  go_wp2_with fail
  refine (HM.out _).mono ?_
  rintro e w1 ⟨rfl, hb1⟩
  have k1 := k0.trans (hb1.mono k0.size)
  have b1 := b0.below hb1
  have r1 := r0.below hb1
  clear hb1 c00 c01 b0 r0 k0
  have c10 := b1.c0
  have c11 := b1.c1
  have f10 := b1.f0
  have f11 := b1.f1
  have b2 := (b1.set0 (.string (bs m))).set1 (.int .i64 (a : Int))
  have r2 := (r1.other (i := 0) (Nat.succ_ne_self _) (.string (bs m))).other (i := 1) (Nat.succ_ne_self _) (.int .i64 (a : Int))
  have k2 := (k1.setCell (p := ⟨w.heap.size, 0, none⟩) (Nat.le_refl _) (.string (bs m))).setCell (p := ⟨w.heap.size, 1, none⟩) (Nat.le_refl _) (.int .i64 (a : Int))
  have B2 := Lib.hid b2
  have R2 := Lib.hid r2
  have K2 := Lib.hid k2
  clear b1 r1 k1 b2 r2 k2
  go_wp2_with fail
  refine (HP.out _).mono ?_
  rintro e w3 ⟨rfl, hb3⟩
  have k3 := K2.out.trans (hb3.mono K2.out.size)
  have b3 := B2.out.below hb3
  have r3 := R2.out.below hb3
  clear hb3 c10 c11 f10 f11
  have c30 := b3.c0
  have c31 := b3.c1
  have K3 := Lib.hid k3
  have R3 := Lib.hid r3
  have B3 := Lib.hid b3
  clear b3 r3 k3
  go_wp2_with fail
  go_quiet (fail)
  go_wp2_with fail
  refine (HO.out _).mono ?_
  rintro e w5 ⟨rfl, hb5⟩
  have k5 := (bel_drewN K3.out nq).trans (hb5.mono (bel_drewN K3.out nq).size)
  have r5 := (R3.out.drewN nq).below hb5
  have c50 := r5.c0
  have c51 := r5.c1
  have f50 := r5.f0
  have f51 := r5.f1
  have K5 := Lib.hid k5
  have R5 := Lib.hid r5
  clear hb5 r5 k5
  go_wp2
  refine bodyPost_ret (results_bx2 rfl _ _ (w.heap.size + 1) (.string (bs whole)) (.int .i64 (x : Int)) 27 rfl ((R5.out.set0 _).set1 _) Tryd.underlying27 (sizeRBuf _)) rfl ?_
  exact ⟨rfl, (K5.out.setCell (p := ⟨w.heap.size + 1, 0, none⟩) (Nat.le_succ _) _).setCell (p := ⟨w.heap.size + 1, 1, none⟩) (Nat.le_succ _) _⟩

set_option maxHeartbeats 4000000 in
theorem rinsert_no (l s : List UInt8) (n : Int) (hl : l.length ≤ 137438953472) (hs : s.length ≤ 137438953472) (w : World) (h6 : 600 < (mS l).length + (plainL s).length) :
    Calls Tryd.prog 19 #[.agg #[.string (bs l), .int .i64 n], .string (bs s)] w fun e w' => e = .returned (.tuple #[.agg #[.string (bs (mS l)), .int .i64 (mA l n : Int)], .bool false]) ∧ Below w.heap.size w w' := by
  have HM := Lib.hid (fun W => rmake_calls l n hl W)
  have HP := Lib.hid (fun W => rplain_calls s hs W)
  have ha := mA_le l n
  have hms := mS_len l
  have hpl := plain_length s
  generalize mA l n = a at *
  generalize mS l = m at *
  generalize plainL s = p at *
  have hszm := bs_size m
  have hszp := bs_size p
  have k0 : Below w.heap.size w ((w.alloc (.cells #[.string (bs l), .int .i64 n] 27)).alloc (.cells #[.string ⟨#[]⟩, .int .i64 0] 27)) := ((Below.refl _ w).alloc (Nat.le_refl _) _).alloc (by simp) _
  have b0 := (Bx.new w 27 (.string (bs l)) (.int .i64 n)).alloc (.cells #[.string ⟨#[]⟩, .int .i64 0] 27)
  have r0 := Bx.new (w.alloc (.cells #[.string (bs l), .int .i64 n] 27)) 27 (.string ⟨#[]⟩) (.int .i64 0)
  rw [World.size_alloc] at r0
  have c00 := b0.c0
  have c01 := b0.c1
  have hw1 : IntKind.i64.wrap ((m.length : Int) + (p.length : Int)) = (m.length : Int) + (p.length : Int) := IntWalk.i64_in _ (by omega)
  have hd6 : decide ((600 : Int) < (m.length : Int) + (p.length : Int)) = true := decide_eq_true (by omega)
  go_enter Tryd.func19, Tryd.ntmps19
  go_wp2_with fail
  refine (HM.out _).mono ?_
  rintro e w1 ⟨rfl, hb1⟩
  have k1 := k0.trans (hb1.mono k0.size)
  have b1 := b0.below hb1
  have r1 := r0.below hb1
  clear hb1 c00 c01 b0 r0 k0
  have c10 := b1.c0
  have c11 := b1.c1
  have f10 := b1.f0
  have f11 := b1.f1
  have b2 := (b1.set0 (.string (bs m))).set1 (.int .i64 (a : Int))
  have r2 := (r1.other (i := 0) (Nat.succ_ne_self _) (.string (bs m))).other (i := 1) (Nat.succ_ne_self _) (.int .i64 (a : Int))
  have k2 := (k1.setCell (p := ⟨w.heap.size, 0, none⟩) (Nat.le_refl _) (.string (bs m))).setCell (p := ⟨w.heap.size, 1, none⟩) (Nat.le_refl _) (.int .i64 (a : Int))
  have B2 := Lib.hid b2
  have R2 := Lib.hid r2
  have K2 := Lib.hid k2
  clear b1 r1 k1 b2 r2 k2
  go_wp2_with fail
  refine (HP.out _).mono ?_
  rintro e w3 ⟨rfl, hb3⟩
  have k3 := K2.out.trans (hb3.mono K2.out.size)
  have b3 := B2.out.below hb3
  have r3 := R2.out.below hb3
  clear hb3 c10 c11 f10 f11
  have c30 := b3.c0
  have c31 := b3.c1
  have K3 := Lib.hid k3
  have R3 := Lib.hid r3
  have B3 := Lib.hid b3
  clear b3 r3 k3
  have r30 := R3.out.c0
  have r31 := R3.out.c1
  have q30 := R3.out.f0
  have q31 := R3.out.f1
  go_wp2
  refine bodyPost_ret (results_bx2 rfl _ _ (w.heap.size + 1) (.string (bs m)) (.int .i64 (a : Int)) 27 rfl ((R3.out.set0 _).set1 _) Tryd.underlying27 (sizeRBuf _)) rfl ?_
  exact ⟨rfl, (K3.out.setCell (p := ⟨w.heap.size + 1, 0, none⟩) (Nat.le_succ _) _).setCell (p := ⟨w.heap.size + 1, 1, none⟩) (Nat.le_succ _) _⟩
end Go.Proofs.YtifdgaklchihbaaDoor
