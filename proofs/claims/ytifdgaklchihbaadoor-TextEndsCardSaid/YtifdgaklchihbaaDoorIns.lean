/-
  text.Insert: what the call comes to.
-/
import Derived.Test.YtifdgaklchihbaaDoorMakes
import Derived.BigQuiet
namespace Go.Proofs.YtifdgaklchihbaaDoor
open Go Go.RowKit

theorem drop_len_le (l : List UInt8) (k : Nat) : (l.drop k).length ≤ l.length := by rw [List.length_drop]; omega
theorem take_len_le (l : List UInt8) (k : Nat) : (l.take k).length ≤ l.length := by rw [List.length_take]; omega
theorem bs_drop' (l : List UInt8) (k : Nat) : (bs l).extract k l.length = bs (l.drop k) := bs_drop l k

set_option maxHeartbeats 4000000 in
theorem insert_ok (l s : List UInt8) (n : Int) (hl : l.length ≤ 137438953472) (hs : s.length ≤ 137438953472) (w : World) (hsp : Spans w) (h6 : (mS l).length + (plainL s).length ≤ 600) :
    Calls Tryd.prog 18 #[.agg #[.string (bs l), .int .i64 n], .string (bs s)] w fun e w' => e = .returned (.tuple #[.agg #[.string (bs (insS (mS l) (mA l n) (plainL s))), .int .i64 (insA (mS l) (mA l n) (plainL s) : Int)], .int .i64 0]) ∧ Below w.heap.size w w' := by
  have HM := Lib.hid (fun W h => make_calls l n hl W h)
  have HP := Lib.hid (fun W => plain_calls s hs W)
  have ha := mA_le l n
  have hil := insS_length (mS l) (mA l n) (plainL s) ha
  have HO := Lib.hid (fun W h => on_calls (insS (mS l) (mA l n) (plainL s)) ((mA l n + (plainL s).length : Nat) : Int) (by omega) W h)
  have HiA : Hid (onL (insS (mS l) (mA l n) (plainL s)) ((mA l n + (plainL s).length : Nat) : Int) = insA (mS l) (mA l n) (plainL s)) := Lib.hid rfl
  have hx1 := bs_take (mS l) (mA l n)
  have hx2 := bs_drop (mS l) (mA l n)
  have hp1 := add_bs Tryd.prog ((mS l).take (mA l n)) (plainL s) (by have := take_len_le (mS l) (mA l n); omega)
  have hp2 : ∀ W : World, (Op.stringOp .add (bs ((mS l).take (mA l n) ++ plainL s)) (bs ((mS l).drop (mA l n)))).run Tryd.prog W = .ok (.string (bs (insS (mS l) (mA l n) (plainL s)))) W :=
    add_bs Tryd.prog ((mS l).take (mA l n) ++ plainL s) ((mS l).drop (mA l n)) (by have := take_len_le (mS l) (mA l n); have := drop_len_le (mS l) (mA l n); rw [List.length_append]; omega)
  rw [HiA.out] at HO
  clear HiA
  generalize insA (mS l) (mA l n) (plainL s) = x at *
  generalize insS (mS l) (mA l n) (plainL s) = whole at *
  generalize (mS l).take (mA l n) ++ plainL s = t3 at *
  generalize (mS l).take (mA l n) = t1 at *
  generalize (mS l).drop (mA l n) = t2 at *
  generalize mA l n = a at *
  generalize mS l = m at *
  generalize plainL s = p at *
  have hszm := bs_size m
  have hszp := bs_size p
  have k0 : Below w.heap.size w ((w.alloc (.cells #[.string (bs l), .int .i64 n] 25)).alloc (.cells #[.string ⟨#[]⟩, .int .i64 0] 25)) := ((Below.refl _ w).alloc (Nat.le_refl _) _).alloc (by simp) _
  have b0 := (Bx.new w 25 (.string (bs l)) (.int .i64 n)).alloc (.cells #[.string ⟨#[]⟩, .int .i64 0] 25)
  have r0 := Bx.new (w.alloc (.cells #[.string (bs l), .int .i64 n] 25)) 25 (.string ⟨#[]⟩) (.int .i64 0)
  rw [World.size_alloc] at r0
  have c00 := b0.c0
  have c01 := b0.c1
  have Hsp := Lib.hid hsp
  have hi0 : (0 : Int) ≤ (a : Int) := by omega
  have hi1 : (a : Int) ≤ (m.length : Int) := by omega
  have hw1 : IntKind.i64.wrap ((m.length : Int) + (p.length : Int)) = (m.length : Int) + (p.length : Int) := IntWalk.i64_in _ (by omega)
  have hw2 : IntKind.i64.wrap ((a : Int) + (p.length : Int)) = (a : Int) + (p.length : Int) := IntWalk.i64_in _ (by omega)
  have hd6 : decide ((600 : Int) < (m.length : Int) + (p.length : Int)) = false := decide_eq_false (by omega)
  have hcast : ((a + p.length : Nat) : Int) = (a : Int) + (p.length : Int) := by omega
  rw [hcast] at HO
  clear hsp hil hcast
  go_enter Tryd.func18, Tryd.ntmps18
  go_wp2_with fail
  refine (HM.out _ (spans_below Hsp.out k0)).mono ?_
  rintro e w1 ⟨rfl, hb1⟩
  have k1 := k0.trans (hb1.mono k0.size)
  have b1 := b0.below hb1
  have r1 := r0.below hb1
  clear hb1 c00 c01 b0 r0 k0
  go_wp2_with fail
  refine (HP.out _).mono ?_
  rintro e w2 ⟨rfl, hb2⟩
  have k2 := k1.trans (hb2.mono k1.size)
  have b2 := b1.below hb2
  have r2 := r1.below hb2
  clear hb2 b1 r1 k1
  have c20 := b2.c0
  have c21 := b2.c1
  have f20 := b2.f0
  have f21 := b2.f1
  have b3 := (b2.set0 (.string (bs m))).set1 (.int .i64 (a : Int))
  have r3 := (r2.other (i := 0) (Nat.succ_ne_self _) (.string (bs m))).other (i := 1) (Nat.succ_ne_self _) (.int .i64 (a : Int))
  have k3 := (k2.setCell (p := ⟨w.heap.size, 0, none⟩) (Nat.le_refl _) (.string (bs m))).setCell (p := ⟨w.heap.size, 1, none⟩) (Nat.le_refl _) (.int .i64 (a : Int))
  have c30 := b3.c0
  have c31 := b3.c1
  have K3 := Lib.hid k3
  have R3 := Lib.hid r3
  have B3 := Lib.hid b3
  clear b2 r2 k2 b3 r3 k3
  go_wp2_with fail
  go_quiet (fail)
  go_wp2_with fail
  refine (HO.out _ (spans_below Hsp.out (bel_drewN K3.out _))).mono ?_
  rintro e w5 ⟨rfl, hb5⟩
  have k5 := (bel_drewN K3.out nq).trans (hb5.mono (bel_drewN K3.out nq).size)
  have r5 := (R3.out.drewN nq).below hb5
  have c50 := r5.c0
  have c51 := r5.c1
  have f50 := r5.f0
  have f51 := r5.f1
  have K5 := Lib.hid k5
  have R5 := Lib.hid r5
  clear hb5 r5 k5
  go_wp2
  refine bodyPost_ret (results_bx2 rfl _ _ (w.heap.size + 1) (.string (bs whole)) (.int .i64 (x : Int)) 25 rfl ((R5.out.set0 _).set1 _) Tryd.underlying25 (sizeBuf _)) rfl ?_
  exact ⟨rfl, (K5.out.setCell (p := ⟨w.heap.size + 1, 0, none⟩) (Nat.le_succ _) _).setCell (p := ⟨w.heap.size + 1, 1, none⟩) (Nat.le_succ _) _⟩

set_option maxHeartbeats 4000000 in
theorem insert_no (l s : List UInt8) (n : Int) (hl : l.length ≤ 137438953472) (hs : s.length ≤ 137438953472) (w : World) (hsp : Spans w) (h6 : 600 < (mS l).length + (plainL s).length) :
    Calls Tryd.prog 18 #[.agg #[.string (bs l), .int .i64 n], .string (bs s)] w fun e w' => e = .returned (.tuple #[.agg #[.string (bs (mS l)), .int .i64 (mA l n : Int)], .int .i64 30]) ∧ Below w.heap.size w w' := by
  have HM := Lib.hid (fun W h => make_calls l n hl W h)
  have HP := Lib.hid (fun W => plain_calls s hs W)
  have ha := mA_le l n
  have hms := mS_len l
  have hpl := plain_length s
  generalize mA l n = a at *
  generalize mS l = m at *
  generalize plainL s = p at *
  have hszm := bs_size m
  have hszp := bs_size p
  have k0 : Below w.heap.size w ((w.alloc (.cells #[.string (bs l), .int .i64 n] 25)).alloc (.cells #[.string ⟨#[]⟩, .int .i64 0] 25)) := ((Below.refl _ w).alloc (Nat.le_refl _) _).alloc (by simp) _
  have b0 := (Bx.new w 25 (.string (bs l)) (.int .i64 n)).alloc (.cells #[.string ⟨#[]⟩, .int .i64 0] 25)
  have r0 := Bx.new (w.alloc (.cells #[.string (bs l), .int .i64 n] 25)) 25 (.string ⟨#[]⟩) (.int .i64 0)
  rw [World.size_alloc] at r0
  have c00 := b0.c0
  have c01 := b0.c1
  have Hsp := Lib.hid hsp
  have hw1 : IntKind.i64.wrap ((m.length : Int) + (p.length : Int)) = (m.length : Int) + (p.length : Int) := IntWalk.i64_in _ (by omega)
  have hd6 : decide ((600 : Int) < (m.length : Int) + (p.length : Int)) = true := decide_eq_true (by omega)
  clear hsp
  go_enter Tryd.func18, Tryd.ntmps18
  go_wp2_with fail
  refine (HM.out _ (spans_below Hsp.out k0)).mono ?_
  rintro e w1 ⟨rfl, hb1⟩
  have k1 := k0.trans (hb1.mono k0.size)
  have b1 := b0.below hb1
  have r1 := r0.below hb1
  clear hb1 c00 c01 b0 r0 k0
  go_wp2_with fail
  refine (HP.out _).mono ?_
  rintro e w2 ⟨rfl, hb2⟩
  have k2 := k1.trans (hb2.mono k1.size)
  have b2 := b1.below hb2
  have r2 := r1.below hb2
  clear hb2 b1 r1 k1
  have c20 := b2.c0
  have c21 := b2.c1
  have f20 := b2.f0
  have f21 := b2.f1
  have b3 := (b2.set0 (.string (bs m))).set1 (.int .i64 (a : Int))
  have r3 := (r2.other (i := 0) (Nat.succ_ne_self _) (.string (bs m))).other (i := 1) (Nat.succ_ne_self _) (.int .i64 (a : Int))
  have k3 := (k2.setCell (p := ⟨w.heap.size, 0, none⟩) (Nat.le_refl _) (.string (bs m))).setCell (p := ⟨w.heap.size, 1, none⟩) (Nat.le_refl _) (.int .i64 (a : Int))
  have c30 := b3.c0
  have c31 := b3.c1
  have K3 := Lib.hid k3
  have R3 := Lib.hid r3
  have B3 := Lib.hid b3
  clear b2 r2 k2 b3 r3 k3
  have r30 := R3.out.c0
  have r31 := R3.out.c1
  have q30 := R3.out.f0
  have q31 := R3.out.f1
  go_wp2
  refine bodyPost_ret (results_bx2 rfl _ _ (w.heap.size + 1) (.string (bs m)) (.int .i64 (a : Int)) 25 rfl ((R3.out.set0 _).set1 _) Tryd.underlying25 (sizeBuf _)) rfl ?_
  exact ⟨rfl, (K3.out.setCell (p := ⟨w.heap.size + 1, 0, none⟩) (Nat.le_succ _) _).setCell (p := ⟨w.heap.size + 1, 1, none⟩) (Nat.le_succ _) _⟩
end Go.Proofs.YtifdgaklchihbaaDoor
