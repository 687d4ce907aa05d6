/-
  The walk of JournalUnpacks (layer 12).
-/
import Derived.Test.YteafcaambnfdoaaDoorPa39
import Derived.Laws.StructEq
namespace Go.Proofs.YteafcaambnfdoaaDoor
open Go Go.RowKit
set_option maxRecDepth 100000

set_option maxHeartbeats 4000000 in
theorem lunpacks12_calls (A : Option Addr) (c : Nat) (p : List UInt8) (w : World) (hb : Byt w A p) (hc : p.length ≤ c) (ht : LaysR w) : Calls Tryd.prog 4 #[.slice A p.length c] w fun x w' => x = .returned (.bool true) ∧ Below w.heap.size w w' := by
  by_cases hlong : 1500 < p.length
  · have q1 : decide ((1500 : Int) < (p.length : Int)) = true := decide_eq_true (by omega)
    have HA := Lib.hid (jalive12_calls w ht)
    clear hlong hb hc ht
    go_enter Tryd.func4, Tryd.ntmps4
    go_wp2_with fail
    refine HA.out.mono ?_
    rintro x w1 ⟨rfl, hb1⟩
    have HB1 := Lib.hid hb1
    clear hb1 HA
    go_wp2_with fail
    go_ret
    exact ⟨rfl, HB1.out⟩
  · have q1 : decide ((1500 : Int) < (p.length : Int)) = false := decide_eq_false (by omega)
    have H1 := Lib.hid (junpack12_calls A c p w hb hc (by omega))
    have H2 := Lib.hid (fun y hy => runpack12_calls A c p y (hb.below (w' := y) hy) hc (by omega))
    have HT := Lib.hid ht
    clear hlong hb hc ht
    generalize (unpackJ p).getD EnJ.none_ = e at *
    generalize (unpackJ p).isSome = s at *
    obtain ⟨t, d, c'⟩ := e
    go_enter Tryd.func4, Tryd.ntmps4
    go_wp2_with fail
    refine H1.out.mono ?_
    rintro x w1 ⟨rfl, hb1⟩
    have hbx : Below w.heap.size w (w1.alloc (.cells (enC ⟨t, d, c'⟩).toArray 29)) := hb1.alloc hb1.size _
    have HB1 := Lib.hid hbx
    have HV1 := Lib.hid (BxA.new w1 29 (enC ⟨t, d, c'⟩))
    have H2' := Lib.hid (H2.out _ hbx)
    clear hb1 H1 H2 hbx
    go_wp2_with fail
    refine H2'.out.mono ?_
    rintro x w2 ⟨rfl, hb2⟩
    have HB2 : Hid (Below w.heap.size w (w2.alloc (.cells (enC ⟨t, d, c'⟩).toArray 23))) := Lib.hid ((HB1.out.trans (hb2.mono HB1.out.size)).alloc (Nat.le_trans HB1.out.size hb2.size) _)
    have HV2 := Lib.hid ((HV1.out.below hb2).alloc (.cells (enC ⟨t, d, c'⟩).toArray 23))
    have HU2 := Lib.hid (BxA.new w2 23 (enC ⟨t, d, c'⟩))
    have HA := Lib.hid (jalive12_calls (w2.alloc (.cells (enC ⟨t, d, c'⟩).toArray 23)) (HT.out.on HB2.out))
    clear hb2 H2' HB1 HV1
    go_wp2_with fail
    refine HA.out.mono ?_
    rintro x w3 ⟨rfl, hb3⟩
    obtain ⟨x0, x1, x2⟩ := (HV2.out.below hb3).three
    obtain ⟨z0, z1, z2⟩ := (HU2.out.below hb3).three
    have HB3 := Lib.hid (HB2.out.trans (hb3.mono HB2.out.size))
    have t1 : (t == t) = true := beq_self_eq_true _
    have t2 : (d == d) = true := beq_self_eq_true _
    have t3 : (c' == c') = true := beq_self_eq_true _
    have t4 : (s == s) = true := beq_self_eq_true _
    clear hb3 HA
    simp only at x0 x1 x2 z0 z1 z2
    go_wp2_with fail
    go_ret
    exact ⟨rfl, HB3.out⟩
end Go.Proofs.YteafcaambnfdoaaDoor
