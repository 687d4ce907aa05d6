/-
  Layer 7 and what it stands on, part 42 (FKnownD FKnownC FDo RJHas RJClear).
-/
import Derived.Test.YteafcaambnfdoaaGreatDoorPq41
import Derived.Deep.Cut
import Derived.Lib.MinMax
namespace Go.Proofs.YteafcaambnfdoaaGreatDoor
section
open Go Go.RowKit
open Go.Lib (hid)
set_option maxRecDepth 100000
set_option maxHeartbeats 16000000 in
theorem rknown10_remove (w : World) (D : Nat → Prop) (v : Value) (S : FS) (o : OpF) (BA : Option Addr) (bc : Nat) (KA : Option Addr) (kc : Nat) (h : StAt w D v S) (hS : S.Fit) (hd : S.down = false) (hkd : o.k = 3) :
  Calls Tryz.prog 75 #[v, .agg (opC o BA bc KA kc).toArray] w fun e w' => ∃ v', e = .returned (.tuple #[v', .int .i64 (S.remove o.n).2]) ∧ StAt w' (DW D w) v' (S.remove o.n).1 ∧ Below w.heap.size w w' := by
 have hcap := h.cap
 obtain ⟨A, c, vs, rfl, hr, ha⟩ := hcap
 have hb := (((Below.refl _ w).alloc (Nat.le_refl _) (.cells (stC A vs.length c S).toArray 51)).alloc (by simp) (.cells (opC o BA bc KA kc).toArray 76)).alloc (by simp; omega) (.cells zeroSt.toArray 51)
 have hx := ((BxA.new w 51 (stC A vs.length c S)).alloc (.cells (opC o BA bc KA kc).toArray 76)).alloc (.cells zeroSt.toArray 51)
 have hy := (bx_new2 w (.cells (stC A vs.length c S).toArray 51) 76 (opC o BA bc KA kc)).alloc (.cells zeroSt.toArray 51)
 have hz := bx_new3 w (.cells (stC A vs.length c S).toArray 51) (.cells (opC o BA bc KA kc).toArray 76) 51 zeroSt
 have hst : StAt (((w.alloc (.cells (stC A vs.length c S).toArray 51)).alloc (.cells (opC o BA bc KA kc).toArray 76)).alloc (.cells zeroSt.toArray 51)) (fun k => D k ∧ k < w.heap.size) (stV A vs.length c S) S := StAt.below ⟨A, c, vs, rfl, hr, ha⟩ hb
 have HF := hid (rfind10_calls _ _ _ S o.n hst (by have := hS.ok.few; omega))
 have HR := hid (hr.below hb)
 have HA := hid (all2_imp (fun _ _ h => FileR.below h hb) ha)
 have HB := hid hb
 have HX := hid hx
 have HY := hid hy
 have HZ := hid hz
 have HS := hid hS
 have HVl := hid (all2_len ha)
 have HDn := hid hd
 clear hd
 have hfew : vs.length ≤ 8 := by rw [HVl.out]; exact hS.ok.few
 obtain ⟨W, hW⟩ : ∃ W, (((w.alloc (.cells (stC A vs.length c S).toArray 51)).alloc (.cells (opC o BA bc KA kc).toArray 76)).alloc (.cells zeroSt.toArray 51)) = W := ⟨_, rfl⟩
 rw [hW] at HF HR HA HB HX HY HZ
 have HWs : Hid (W.heap.size = w.heap.size + 1 + 1 + 1) := hid (by rw [← hW]; simp)
 clear hr ha hb hx hy hz hst hS h
 unfold stV stC at *
 go_enter Tryz.func75, Tryz.ntmps75
 have x0 := HX.out.c 0 rfl
 have x1 := HX.out.c 1 rfl
 have x2 := HX.out.c 2 rfl
 have x3 := HX.out.c 3 rfl
 have x4 := HX.out.c 4 rfl
 have x5 := HX.out.c 5 rfl
 have y0 := HY.out.c 0 rfl
 have y1 := HY.out.c 1 rfl
 have y2 := HY.out.c 2 rfl
 have y3 := HY.out.c 3 rfl
 have y4 := HY.out.c 4 rfl
 have y5 := HY.out.c 5 rfl
 rw [hkd] at y0
 have HE : Hid ((S.remove o.n) = match findF S.l o.n with
  | none => (S, (101 : Int))
  | some f => if true = false then (S, (101 : Int)) else if S.count.down then (S.count, (100 : Int)) else ({ S.count with l := (fun _ => withoutF S.l o.n) f }, (0 : Int))) := hid (by
  show FS.known S o.n true _ = _
  unfold FS.known
  rw [HDn.out, if_neg (by simp)]
  rfl)
 go_wp2_with fail
 clear hW x0 x1 x2 x3 x4 x5 y0 y1 y2 y3 y4 y5
 refine HF.out.mono ?_
 rintro e w1 ⟨z, rfl, hz, hb1⟩
 have HB1 := hid hb1
 clear hb1 HF
 rcases hz with ⟨rfl, hfn⟩ | ⟨k, f, rfl, hk, hf, hfd⟩
 ·have m0 : decide ((-1 : Int) < 0) = true := rfl
  have HEE : Hid ((S.remove o.n) = (S, 101)) := hid (by have := HE.out; rw [hfn] at this; exact this)
  have hws := HWs.out
  have hsz := HB1.out.size
  have Fin := hid (fin10e (f := Tryz.f75) (z := 101) (D := fun k => D k ∧ k < w.heap.size) (D' := DW D w) (c := c) (HB.out.trans (HB1.out.mono HB.out.size)) (Nat.le_add_right _ 2) (fun k hk => by have := hk.2; omega) (fun k hk => .inl hk.1) (HZ.out.below HB1.out) (HR.out.below HB1.out) (all2_imp (fun _ _ h => FileR.below h HB1.out) HA.out) rfl rfl)
  have hg0 : w.heap.size + 1 + 1 < w1.heap.size := by omega
  have hx := HX.out.below HB1.out
  have hy := HY.out.below HB1.out
  have hz := HZ.out.below HB1.out
  have x0 := hx.c 0 rfl
  have x1 := hx.c 1 rfl
  have x2 := hx.c 2 rfl
  have x3 := hx.c 3 rfl
  have x4 := hx.c 4 rfl
  have x5 := hx.c 5 rfl
  have y0 := hy.c 0 rfl
  have y1 := hy.c 1 rfl
  have y2 := hy.c 2 rfl
  have y3 := hy.c 3 rfl
  have y4 := hy.c 4 rfl
  have y5 := hy.c 5 rfl
  have q0 := hz.c 0 rfl
  have q1 := hz.c 1 rfl
  have q2 := hz.c 2 rfl
  have q3 := hz.c 3 rfl
  have q4 := hz.c 4 rfl
  have q5 := hz.c 5 rfl
  have r0 := hz.free 0
  have r1 := hz.free 1
  have r2 := hz.free 2
  have r3 := hz.free 3
  have r4 := hz.free 4
  have r5 := hz.free 5
  clear hx hy hz
  rw [hkd] at y0
  clear hws hsz
  go_wp2_with fail
  rw [HEE.out]
  exact Fin.out _ rfl rfl _ rfl
 ·rw [hfd] at HE
  simp only at HE
  have m0 : decide ((k : Int) < 0) = false := decide_eq_false (by omega)
  rw [if_neg (by simp)] at HE
  have hst : StAt w1 (fun k => D k ∧ k < w.heap.size) (.agg #[.slice A vs.length c, .int .i64 (S.no : Int), .int .i64 (S.ops : Int), .int .i64 S.fuse, .int .i64 S.fault, .bool S.down]) S := ⟨A, c, vs, rfl, HR.out.below HB1.out, all2_imp (fun _ _ h => FileR.below h HB1.out) HA.out⟩
  have HCt := hid (rcount10_calls w1 _ _ S hst (by have := HS.out.ops; omega) HS.out.ok.fus HS.out.fuse)
  have HX1 := hid (HX.out.below HB1.out)
  have HY1 := hid (HY.out.below HB1.out)
  have HZ1 := hid (HZ.out.below HB1.out)
  have HG1 := hid (HB.out.trans (HB1.out.mono HB.out.size))
  have hx := HX.out.below HB1.out
  have hy := HY.out.below HB1.out
  have hz := HZ.out.below HB1.out
  have x0 := hx.c 0 rfl
  have x1 := hx.c 1 rfl
  have x2 := hx.c 2 rfl
  have x3 := hx.c 3 rfl
  have x4 := hx.c 4 rfl
  have x5 := hx.c 5 rfl
  have y0 := hy.c 0 rfl
  have y1 := hy.c 1 rfl
  have y2 := hy.c 2 rfl
  have y3 := hy.c 3 rfl
  have y4 := hy.c 4 rfl
  have y5 := hy.c 5 rfl
  have q0 := hz.c 0 rfl
  have q1 := hz.c 1 rfl
  have q2 := hz.c 2 rfl
  have q3 := hz.c 3 rfl
  have q4 := hz.c 4 rfl
  have q5 := hz.c 5 rfl
  clear hx hy hz
  rw [hkd] at y0
  have hg0 : w.heap.size < w1.heap.size := by have := HWs.out; have := HB1.out.size; omega
  clear hst
  go_wp2_with fail
  clear hg0 m0  x0 x1 x2 x3 x4 x5 y0 y1 y2 y3 y4 y5 q0 q1 q2 q3 q4 q5
  refine HCt.out.mono ?_
  rintro e w3 ⟨v3, rfl, hst3, hb3⟩
  clear HCt
  obtain ⟨T, hT⟩ : ∃ T, S.count = T := ⟨_, rfl⟩
  rw [hT] at HE hst3
  have hTl : T.l = S.l := by rw [← hT]; rfl
  have HTl := hid hTl
  have HT := hid hT
  clear hT hTl
  obtain ⟨A3, c3, vs3, rfl, hr3, ha3⟩ := hst3
  have hx3 := HX1.out.below hb3
  have hws := HWs.out
  have hs0 := HG1.out.size
  have hs1 := HB.out.size
  have hs3 := hb3.size
  have hsix := six_only w3 w.heap.size (.slice A3 vs3.length c3) (.int .i64 (T.no : Int)) (.int .i64 (T.ops : Int)) (.int .i64 T.fuse) (.int .i64 T.fault) (.bool T.down)
  have hxx := six_box hx3 (.slice A3 vs3.length c3) (.int .i64 (T.no : Int)) (.int .i64 (T.ops : Int)) (.int .i64 T.fuse) (.int .i64 T.fault) (.bool T.down)
  have hD : ∀ i, (D i ∧ i < w.heap.size) → ¬ i = w.heap.size := fun i hi => by omega
  have HR3 := hid (hr3.keep hsix hD)
  have HA3 := hid (all2_imp (fun _ _ h => FileR.keep h hsix hD) ha3)
  have HY3 := hid ((HY1.out.below hb3).keep hsix (by omega))
  have HZ3 := hid ((HZ1.out.below hb3).keep hsix (by omega))
  have HG3 := hid ((HG1.out.trans (hb3.mono HG1.out.size)).trans (hsix.below (Nat.le_trans HG1.out.size hs3) (fun k e => by omega)))
  have HX3 := hid hxx
  have HS3 : Hid (w3.heap.size ≤ (six w3 w.heap.size (.slice A3 vs3.length c3) (.int .i64 (T.no : Int)) (.int .i64 (T.ops : Int)) (.int .i64 T.fuse) (.int .i64 T.fault) (.bool T.down)).heap.size) := hid hsix.size
  have HSP3 : Hid (w1.heap.size ≤ w3.heap.size) := hid hs3
  have x0 := hx3.c 0 rfl
  have x1 := hx3.c 1 rfl
  have x2 := hx3.c 2 rfl
  have x3 := hx3.c 3 rfl
  have x4 := hx3.c 4 rfl
  have x5 := hx3.c 5 rfl
  have f0 := hx3.free 0
  have f1 := hx3.free 1
  have f2 := hx3.free 2
  have f3 := hx3.free 3
  have f4 := hx3.free 4
  have f5 := hx3.free 5
  have hgl3 : w.heap.size < w3.heap.size := hx3.lt
  obtain ⟨W3, hW3⟩ : ∃ W3, six w3 w.heap.size (.slice A3 vs3.length c3) (.int .i64 (T.no : Int)) (.int .i64 (T.ops : Int)) (.int .i64 T.fuse) (.int .i64 T.fault) (.bool T.down) = W3 := ⟨_, rfl⟩
  rw [hW3] at HR3 HA3 HY3 HZ3 HG3 HX3 HS3
  unfold six at hW3
  clear hws hs0 hs1 hs3 hsix hxx hx3 hD hr3 ha3 hb3
  unfold stV
  have hz := HZ3.out
  have hy := HY3.out
  have hx := HX3.out
  have x40 := hx.c 0 rfl
  have x41 := hx.c 1 rfl
  have x42 := hx.c 2 rfl
  have x43 := hx.c 3 rfl
  have x44 := hx.c 4 rfl
  have x45 := hx.c 5 rfl
  have f40 := hx.free 0
  have f41 := hx.free 1
  have f42 := hx.free 2
  have f43 := hx.free 3
  have f44 := hx.free 4
  have f45 := hx.free 5
  have y40 := hy.c 0 rfl
  have y41 := hy.c 1 rfl
  have y42 := hy.c 2 rfl
  have y43 := hy.c 3 rfl
  have y44 := hy.c 4 rfl
  have y45 := hy.c 5 rfl
  have q40 := hz.c 0 rfl
  have q41 := hz.c 1 rfl
  have q42 := hz.c 2 rfl
  have q43 := hz.c 3 rfl
  have q44 := hz.c 4 rfl
  have q45 := hz.c 5 rfl
  have r40 := hz.free 0
  have r41 := hz.free 1
  have r42 := hz.free 2
  have r43 := hz.free 3
  have r44 := hz.free 4
  have r45 := hz.free 5
  rw [hkd] at y40
  clear hx hy hz
  have hg4 : w.heap.size + 1 + 1 < W3.heap.size := HZ3.out.lt
  cases hTd : T.down with
  | true =>
   rw [hTd, if_pos rfl] at HE
   have Fin := hid (fin10e (f := Tryz.f75) (z := 100) (S := T) (D := fun k => D k ∧ k < w.heap.size) (D' := DW D w) (c := c3) HG3.out (Nat.le_add_right _ 2) (fun k hk => by have := hk.2; omega) (fun k hk => .inl hk.1) HZ3.out HR3.out HA3.out rfl rfl)
   rw [hTd] at hW3 x45 Fin
   go_wp2_with fail
   rw [HE.out]
   exact Fin.out _ rfl rfl _ rfl
  | false =>
   rw [hTd, if_neg (by simp)] at HE
   rw [hTd] at hW3 x45
   obtain ⟨g, o0, q, rfl, hg, hkv, hfr, e0, e1, e2⟩ := file_of HR3.out HA3.out (by rw [HTl.out]; exact hf)
   have hkl : (k : Int) < (vs3.length : Int) := by omega
   have hqn : q.name = o.n := by rw [hfr.name]; exact ((findF_some HS.out.ok.ris).1 hfd).2
   have hfm : f ∈ S.l := List.mem_of_getElem? hf
   have HQn := hid hqn
   have HFm := hid hfm
   have hbF := (Below.refl W3.heap.size W3).alloc (Nat.le_refl _) (.cells #[.string q.name, .slice q.A q.n q.c, .slice q.R q.rn q.rc] 130)
   have hst5 : StAt (W3.alloc (.cells #[.string q.name, .slice q.A q.n q.c, .slice q.R q.rn q.rc] 130)) (fun k => D k ∧ k < w.heap.size) (.agg #[.slice (some ⟨g, o0, none⟩) vs3.length c3, .int .i64 (T.no : Int), .int .i64 (T.ops : Int), .int .i64 T.fuse, .int .i64 T.fault, .bool false]) T := ⟨some ⟨g, o0, none⟩, c3, vs3, by unfold stV; rw [hTd], HR3.out.below hbF, all2_imp (fun _ _ h => FileR.below h hbF) HA3.out⟩
   have HX5 := hid (HX3.out.below hbF)
   have HY5 := hid (HY3.out.below hbF)
   have HZ5 := hid (HZ3.out.below hbF)
   have HG5 := hid (HG3.out.trans (hbF.mono HG3.out.size))
   have HXF5 : Hid (BxA (W3.alloc (.cells #[.string q.name, .slice q.A q.n q.c, .slice q.R q.rn q.rc] 130)) W3.heap.size 130 [.string q.name, .slice q.A q.n q.c, .slice q.R q.rn q.rc]) := hid (BxA.new W3 130 [.string q.name, .slice q.A q.n q.c, .slice q.R q.rn q.rc])
   have HFr5 := hid (hfr.below hbF)
   have hg40 : w.heap.size < W3.heap.size := by omega
   have hg41 : w.heap.size + 1 < W3.heap.size := by omega
   have HT8 : Hid (T.l.length ≤ 8) := hid (by rw [HTl.out]; exact HS.out.ok.few)
   have HSW : Hid (w.heap.size + 3 ≤ W3.heap.size) := hid (by omega)
   have HW5s : Hid ((W3.alloc (.cells #[.string q.name, .slice q.A q.n q.c, .slice q.R q.rn q.rc] 130)).heap.size = W3.heap.size + 1) := hid (by simp)
   have HTd := hid hTd
   clear hqn hfm hbF hfr hTd hf hfd hk
   have HWo := hid (rwithout10_calls (W3.alloc (.cells #[.string q.name, .slice q.A q.n q.c, .slice q.R q.rn q.rc] 130)) _ _ T q.name hst5 (by have := HT8.out; omega))
   clear hst5
   go_wp2_with fail
   clear hW3 x40 x41 x42 x43 x44 x45 f40 f41 f42 f43 f44 f45 y40 y41 y42 y43 y44 y45 q40 q41 q42 q43 q44 q45 r40 r41 r42 r43 r44 r45 e0 e1 e2
   refine HWo.out.mono ?_
   rintro e w6 ⟨v6, rfl, hst6, hb6⟩
   clear HWo
   obtain ⟨S6, hS6⟩ : ∃ S6, ({ T with l := withoutF T.l q.name } : FS) = S6 := ⟨_, rfl⟩
   rw [hS6] at hst6
   have HDw6 : Hid (S6.down = T.down) := hid (by rw [← hS6])
   have HE6 : Hid ((S.remove o.n) = (S6, 0)) := hid (by rw [HE.out, ← hS6, HTl.out, HQn.out, HTd.out])
   clear hS6
   have hsw := HSW.out
   obtain ⟨A6, c6, vs6, rfl, hr6, ha6⟩ := hst6
   have hx6 := HX5.out.below hb6
   have hws := HWs.out
   have hs0 := HG5.out.size
   have hs1 := HB.out.size
   have hs6 := hb6.size
   have hsq0 := (show (W3.alloc (.cells #[.string q.name, .slice q.A q.n q.c, .slice q.R q.rn q.rc] 130)).heap.size = W3.heap.size + 1 by simp)
   have hsix := six_only w6 w.heap.size (.slice A6 vs6.length c6) (.int .i64 (S6.no : Int)) (.int .i64 (S6.ops : Int)) (.int .i64 S6.fuse) (.int .i64 S6.fault) (.bool S6.down)
   have hxx := six_box hx6 (.slice A6 vs6.length c6) (.int .i64 (S6.no : Int)) (.int .i64 (S6.ops : Int)) (.int .i64 S6.fuse) (.int .i64 S6.fault) (.bool S6.down)
   have hD : ∀ i, ((D i ∧ i < w.heap.size) ∨ (W3.alloc (.cells #[.string q.name, .slice q.A q.n q.c, .slice q.R q.rn q.rc] 130)).heap.size ≤ i) → ¬ i = w.heap.size := fun i hi => by omega
   have HR6 := hid (hr6.keep hsix hD)
   have HA6 := hid (all2_imp (fun _ _ h => FileR.keep h hsix hD) ha6)
   have HZ6 := hid ((HZ5.out.below hb6).keep hsix (by omega))
   have HG6 := hid ((HG5.out.trans (hb6.mono HG5.out.size)).trans (hsix.below (Nat.le_trans HG5.out.size hs6) (fun k e => by omega)))
   have HX6 := hid hxx
   have HS6 : Hid (w6.heap.size ≤ (six w6 w.heap.size (.slice A6 vs6.length c6) (.int .i64 (S6.no : Int)) (.int .i64 (S6.ops : Int)) (.int .i64 S6.fuse) (.int .i64 S6.fault) (.bool S6.down)).heap.size) := hid hsix.size
   have HSP6 : Hid ((W3.alloc (.cells #[.string q.name, .slice q.A q.n q.c, .slice q.R q.rn q.rc] 130)).heap.size ≤ w6.heap.size) := hid hs6
   have x0 := hx6.c 0 rfl
   have x1 := hx6.c 1 rfl
   have x2 := hx6.c 2 rfl
   have x3 := hx6.c 3 rfl
   have x4 := hx6.c 4 rfl
   have x5 := hx6.c 5 rfl
   have f0 := hx6.free 0
   have f1 := hx6.free 1
   have f2 := hx6.free 2
   have f3 := hx6.free 3
   have f4 := hx6.free 4
   have f5 := hx6.free 5
   have hgl6 : w.heap.size < w6.heap.size := hx6.lt
   obtain ⟨W6, hW6⟩ : ∃ W6, six w6 w.heap.size (.slice A6 vs6.length c6) (.int .i64 (S6.no : Int)) (.int .i64 (S6.ops : Int)) (.int .i64 S6.fuse) (.int .i64 S6.fault) (.bool S6.down) = W6 := ⟨_, rfl⟩
   rw [hW6] at HR6 HA6 HZ6 HG6 HX6 HS6
   unfold six at hW6
   clear hws hs0 hs1 hs6 hsix hxx hx6 hD hr6 ha6 hb6 hsq0
   unfold stV
   clear hsw
   have hx := HX6.out
   have x40 := hx.c 0 rfl
   have x41 := hx.c 1 rfl
   have x42 := hx.c 2 rfl
   have x43 := hx.c 3 rfl
   have x44 := hx.c 4 rfl
   have x45 := hx.c 5 rfl
   have f40 := hx.free 0
   have f41 := hx.free 1
   have f42 := hx.free 2
   have f43 := hx.free 3
   have f44 := hx.free 4
   have f45 := hx.free 5
   have hz := HZ6.out
   have q40 := hz.c 0 rfl
   have q41 := hz.c 1 rfl
   have q42 := hz.c 2 rfl
   have q43 := hz.c 3 rfl
   have q44 := hz.c 4 rfl
   have q45 := hz.c 5 rfl
   have r40 := hz.free 0
   have r41 := hz.free 1
   have r42 := hz.free 2
   have r43 := hz.free 3
   have r44 := hz.free 4
   have r45 := hz.free 5
   clear hx hz
   have hgz : w.heap.size + 1 + 1 < W6.heap.size := HZ6.out.lt
   have Fin := hid (fin10e (f := Tryz.f75) (z := 0) (S := S6) (D := fun i => (D i ∧ i < w.heap.size) ∨ (W3.alloc (.cells #[.string q.name, .slice q.A q.n q.c, .slice q.R q.rn q.rc] 130)).heap.size ≤ i) (D' := DW D w) (c := c6) HG6.out (Nat.le_add_right _ 2) (fun k hk => by have hk' : (D k ∧ k < w.heap.size) ∨ (W3.alloc (.cells #[.string q.name, .slice q.A q.n q.c, .slice q.R q.rn q.rc] 130)).heap.size ≤ k := hk; have := HSW.out; have := HW5s.out; omega) (fun k hk => by
    have hk' : (D k ∧ k < w.heap.size) ∨ (W3.alloc (.cells #[.string q.name, .slice q.A q.n q.c, .slice q.R q.rn q.rc] 130)).heap.size ≤ k := hk
    have := HSW.out
    have := HW5s.out
    by_cases hw : k < w.heap.size
    ·exact .inl (by rcases hk' with h | h <;> first | exact h.1 | omega)
    ·exact .inr (by omega)) HZ6.out HR6.out HA6.out rfl rfl)
   go_wp2_with fail
   rw [HE6.out]
   exact Fin.out _ rfl rfl _ rfl
end
section
open Go Go.RowKit
open Go.Lib (hid)
set_option maxRecDepth 100000
set_option maxHeartbeats 16000000 in
theorem rknown10_cut (w : World) (D : Nat → Prop) (v : Value) (S : FS) (o : OpF) (BA : Option Addr) (bc : Nat) (KA : Option Addr) (kc : Nat) (h : StAt w D v S) (hS : S.Fit) (hd : S.down = false) (hkd : o.k = 4) :
  Calls Tryz.prog 75 #[v, .agg (opC o BA bc KA kc).toArray] w fun e w' => ∃ v', e = .returned (.tuple #[v', .int .i64 (S.cut o.n o.i).2]) ∧ StAt w' (DW D w) v' (S.cut o.n o.i).1 ∧ Below w.heap.size w w' := by
 have hcap := h.cap
 obtain ⟨A, c, vs, rfl, hr, ha⟩ := hcap
 have hb := (((Below.refl _ w).alloc (Nat.le_refl _) (.cells (stC A vs.length c S).toArray 51)).alloc (by simp) (.cells (opC o BA bc KA kc).toArray 76)).alloc (by simp; omega) (.cells zeroSt.toArray 51)
 have hx := ((BxA.new w 51 (stC A vs.length c S)).alloc (.cells (opC o BA bc KA kc).toArray 76)).alloc (.cells zeroSt.toArray 51)
 have hy := (bx_new2 w (.cells (stC A vs.length c S).toArray 51) 76 (opC o BA bc KA kc)).alloc (.cells zeroSt.toArray 51)
 have hz := bx_new3 w (.cells (stC A vs.length c S).toArray 51) (.cells (opC o BA bc KA kc).toArray 76) 51 zeroSt
 have hst : StAt (((w.alloc (.cells (stC A vs.length c S).toArray 51)).alloc (.cells (opC o BA bc KA kc).toArray 76)).alloc (.cells zeroSt.toArray 51)) (fun k => D k ∧ k < w.heap.size) (stV A vs.length c S) S := StAt.below ⟨A, c, vs, rfl, hr, ha⟩ hb
 have HF := hid (rfind10_calls _ _ _ S o.n hst (by have := hS.ok.few; omega))
 have HR := hid (hr.below hb)
 have HA := hid (all2_imp (fun _ _ h => FileR.below h hb) ha)
 have HB := hid hb
 have HX := hid hx
 have HY := hid hy
 have HZ := hid hz
 have HS := hid hS
 have HVl := hid (all2_len ha)
 have HDn := hid hd
 clear hd
 have hfew : vs.length ≤ 8 := by rw [HVl.out]; exact hS.ok.few
 obtain ⟨W, hW⟩ : ∃ W, (((w.alloc (.cells (stC A vs.length c S).toArray 51)).alloc (.cells (opC o BA bc KA kc).toArray 76)).alloc (.cells zeroSt.toArray 51)) = W := ⟨_, rfl⟩
 rw [hW] at HF HR HA HB HX HY HZ
 have HWs : Hid (W.heap.size = w.heap.size + 1 + 1 + 1) := hid (by rw [← hW]; simp)
 clear hr ha hb hx hy hz hst hS h
 unfold stV stC at *
 go_enter Tryz.func75, Tryz.ntmps75
 have x0 := HX.out.c 0 rfl
 have x1 := HX.out.c 1 rfl
 have x2 := HX.out.c 2 rfl
 have x3 := HX.out.c 3 rfl
 have x4 := HX.out.c 4 rfl
 have x5 := HX.out.c 5 rfl
 have y0 := HY.out.c 0 rfl
 have y1 := HY.out.c 1 rfl
 have y2 := HY.out.c 2 rfl
 have y3 := HY.out.c 3 rfl
 have y4 := HY.out.c 4 rfl
 have y5 := HY.out.c 5 rfl
 rw [hkd] at y0
 have HE : Hid ((S.cut o.n o.i) = match findF S.l o.n with
  | none => (S, (101 : Int))
  | some f => if true = false then (S, (101 : Int)) else if S.count.down then (S.count, (100 : Int)) else ({ S.count with l := (fun f => withF S.l { f with b := f.all.take o.i.toNat, row := [] }) f }, (0 : Int))) := hid (by
  show FS.known S o.n true _ = _
  unfold FS.known
  rw [HDn.out, if_neg (by simp)]
  rfl)
 go_wp2_with fail
 clear hW x0 x1 x2 x3 x4 x5 y0 y1 y2 y3 y4 y5
 refine HF.out.mono ?_
 rintro e w1 ⟨z, rfl, hz, hb1⟩
 have HB1 := hid hb1
 clear hb1 HF
 rcases hz with ⟨rfl, hfn⟩ | ⟨k, f, rfl, hk, hf, hfd⟩
 ·have m0 : decide ((-1 : Int) < 0) = true := rfl
  have HEE : Hid ((S.cut o.n o.i) = (S, 101)) := hid (by have := HE.out; rw [hfn] at this; exact this)
  have hws := HWs.out
  have hsz := HB1.out.size
  have Fin := hid (fin10e (f := Tryz.f75) (z := 101) (D := fun k => D k ∧ k < w.heap.size) (D' := DW D w) (c := c) (HB.out.trans (HB1.out.mono HB.out.size)) (Nat.le_add_right _ 2) (fun k hk => by have := hk.2; omega) (fun k hk => .inl hk.1) (HZ.out.below HB1.out) (HR.out.below HB1.out) (all2_imp (fun _ _ h => FileR.below h HB1.out) HA.out) rfl rfl)
  have hg0 : w.heap.size + 1 + 1 < w1.heap.size := by omega
  have hx := HX.out.below HB1.out
  have hy := HY.out.below HB1.out
  have hz := HZ.out.below HB1.out
  have x0 := hx.c 0 rfl
  have x1 := hx.c 1 rfl
  have x2 := hx.c 2 rfl
  have x3 := hx.c 3 rfl
  have x4 := hx.c 4 rfl
  have x5 := hx.c 5 rfl
  have y0 := hy.c 0 rfl
  have y1 := hy.c 1 rfl
  have y2 := hy.c 2 rfl
  have y3 := hy.c 3 rfl
  have y4 := hy.c 4 rfl
  have y5 := hy.c 5 rfl
  have q0 := hz.c 0 rfl
  have q1 := hz.c 1 rfl
  have q2 := hz.c 2 rfl
  have q3 := hz.c 3 rfl
  have q4 := hz.c 4 rfl
  have q5 := hz.c 5 rfl
  have r0 := hz.free 0
  have r1 := hz.free 1
  have r2 := hz.free 2
  have r3 := hz.free 3
  have r4 := hz.free 4
  have r5 := hz.free 5
  clear hx hy hz
  rw [hkd] at y0
  clear hws hsz
  go_wp2_with fail
  rw [HEE.out]
  exact Fin.out _ rfl rfl _ rfl
 ·rw [hfd] at HE
  simp only at HE
  have m0 : decide ((k : Int) < 0) = false := decide_eq_false (by omega)
  rw [if_neg (by simp)] at HE
  have hst : StAt w1 (fun k => D k ∧ k < w.heap.size) (.agg #[.slice A vs.length c, .int .i64 (S.no : Int), .int .i64 (S.ops : Int), .int .i64 S.fuse, .int .i64 S.fault, .bool S.down]) S := ⟨A, c, vs, rfl, HR.out.below HB1.out, all2_imp (fun _ _ h => FileR.below h HB1.out) HA.out⟩
  have HCt := hid (rcount10_calls w1 _ _ S hst (by have := HS.out.ops; omega) HS.out.ok.fus HS.out.fuse)
  have HX1 := hid (HX.out.below HB1.out)
  have HY1 := hid (HY.out.below HB1.out)
  have HZ1 := hid (HZ.out.below HB1.out)
  have HG1 := hid (HB.out.trans (HB1.out.mono HB.out.size))
  have hx := HX.out.below HB1.out
  have hy := HY.out.below HB1.out
  have hz := HZ.out.below HB1.out
  have x0 := hx.c 0 rfl
  have x1 := hx.c 1 rfl
  have x2 := hx.c 2 rfl
  have x3 := hx.c 3 rfl
  have x4 := hx.c 4 rfl
  have x5 := hx.c 5 rfl
  have y0 := hy.c 0 rfl
  have y1 := hy.c 1 rfl
  have y2 := hy.c 2 rfl
  have y3 := hy.c 3 rfl
  have y4 := hy.c 4 rfl
  have y5 := hy.c 5 rfl
  have q0 := hz.c 0 rfl
  have q1 := hz.c 1 rfl
  have q2 := hz.c 2 rfl
  have q3 := hz.c 3 rfl
  have q4 := hz.c 4 rfl
  have q5 := hz.c 5 rfl
  clear hx hy hz
  rw [hkd] at y0
  have hg0 : w.heap.size < w1.heap.size := by have := HWs.out; have := HB1.out.size; omega
  clear hst
  go_wp2_with fail
  clear hg0 m0  x0 x1 x2 x3 x4 x5 y0 y1 y2 y3 y4 y5 q0 q1 q2 q3 q4 q5
  refine HCt.out.mono ?_
  rintro e w3 ⟨v3, rfl, hst3, hb3⟩
  clear HCt
  obtain ⟨T, hT⟩ : ∃ T, S.count = T := ⟨_, rfl⟩
  rw [hT] at HE hst3
  have hTl : T.l = S.l := by rw [← hT]; rfl
  have HTl := hid hTl
  have HT := hid hT
  clear hT hTl
  obtain ⟨A3, c3, vs3, rfl, hr3, ha3⟩ := hst3
  have hx3 := HX1.out.below hb3
  have hws := HWs.out
  have hs0 := HG1.out.size
  have hs1 := HB.out.size
  have hs3 := hb3.size
  have hsix := six_only w3 w.heap.size (.slice A3 vs3.length c3) (.int .i64 (T.no : Int)) (.int .i64 (T.ops : Int)) (.int .i64 T.fuse) (.int .i64 T.fault) (.bool T.down)
  have hxx := six_box hx3 (.slice A3 vs3.length c3) (.int .i64 (T.no : Int)) (.int .i64 (T.ops : Int)) (.int .i64 T.fuse) (.int .i64 T.fault) (.bool T.down)
  have hD : ∀ i, (D i ∧ i < w.heap.size) → ¬ i = w.heap.size := fun i hi => by omega
  have HR3 := hid (hr3.keep hsix hD)
  have HA3 := hid (all2_imp (fun _ _ h => FileR.keep h hsix hD) ha3)
  have HY3 := hid ((HY1.out.below hb3).keep hsix (by omega))
  have HZ3 := hid ((HZ1.out.below hb3).keep hsix (by omega))
  have HG3 := hid ((HG1.out.trans (hb3.mono HG1.out.size)).trans (hsix.below (Nat.le_trans HG1.out.size hs3) (fun k e => by omega)))
  have HX3 := hid hxx
  have HS3 : Hid (w3.heap.size ≤ (six w3 w.heap.size (.slice A3 vs3.length c3) (.int .i64 (T.no : Int)) (.int .i64 (T.ops : Int)) (.int .i64 T.fuse) (.int .i64 T.fault) (.bool T.down)).heap.size) := hid hsix.size
  have HSP3 : Hid (w1.heap.size ≤ w3.heap.size) := hid hs3
  have x0 := hx3.c 0 rfl
  have x1 := hx3.c 1 rfl
  have x2 := hx3.c 2 rfl
  have x3 := hx3.c 3 rfl
  have x4 := hx3.c 4 rfl
  have x5 := hx3.c 5 rfl
  have f0 := hx3.free 0
  have f1 := hx3.free 1
  have f2 := hx3.free 2
  have f3 := hx3.free 3
  have f4 := hx3.free 4
  have f5 := hx3.free 5
  have hgl3 : w.heap.size < w3.heap.size := hx3.lt
  obtain ⟨W3, hW3⟩ : ∃ W3, six w3 w.heap.size (.slice A3 vs3.length c3) (.int .i64 (T.no : Int)) (.int .i64 (T.ops : Int)) (.int .i64 T.fuse) (.int .i64 T.fault) (.bool T.down) = W3 := ⟨_, rfl⟩
  rw [hW3] at HR3 HA3 HY3 HZ3 HG3 HX3 HS3
  unfold six at hW3
  clear hws hs0 hs1 hs3 hsix hxx hx3 hD hr3 ha3 hb3
  unfold stV
  have hz := HZ3.out
  have hy := HY3.out
  have hx := HX3.out
  have x40 := hx.c 0 rfl
  have x41 := hx.c 1 rfl
  have x42 := hx.c 2 rfl
  have x43 := hx.c 3 rfl
  have x44 := hx.c 4 rfl
  have x45 := hx.c 5 rfl
  have f40 := hx.free 0
  have f41 := hx.free 1
  have f42 := hx.free 2
  have f43 := hx.free 3
  have f44 := hx.free 4
  have f45 := hx.free 5
  have y40 := hy.c 0 rfl
  have y41 := hy.c 1 rfl
  have y42 := hy.c 2 rfl
  have y43 := hy.c 3 rfl
  have y44 := hy.c 4 rfl
  have y45 := hy.c 5 rfl
  have q40 := hz.c 0 rfl
  have q41 := hz.c 1 rfl
  have q42 := hz.c 2 rfl
  have q43 := hz.c 3 rfl
  have q44 := hz.c 4 rfl
  have q45 := hz.c 5 rfl
  have r40 := hz.free 0
  have r41 := hz.free 1
  have r42 := hz.free 2
  have r43 := hz.free 3
  have r44 := hz.free 4
  have r45 := hz.free 5
  rw [hkd] at y40
  clear hx hy hz
  have hg4 : w.heap.size + 1 + 1 < W3.heap.size := HZ3.out.lt
  cases hTd : T.down with
  | true =>
   rw [hTd, if_pos rfl] at HE
   have Fin := hid (fin10e (f := Tryz.f75) (z := 100) (S := T) (D := fun k => D k ∧ k < w.heap.size) (D' := DW D w) (c := c3) HG3.out (Nat.le_add_right _ 2) (fun k hk => by have := hk.2; omega) (fun k hk => .inl hk.1) HZ3.out HR3.out HA3.out rfl rfl)
   rw [hTd] at hW3 x45 Fin
   go_wp2_with fail
   rw [HE.out]
   exact Fin.out _ rfl rfl _ rfl
  | false =>
   rw [hTd, if_neg (by simp)] at HE
   rw [hTd] at hW3 x45
   obtain ⟨g, o0, q, rfl, hg, hkv, hfr, e0, e1, e2⟩ := file_of HR3.out HA3.out (by rw [HTl.out]; exact hf)
   have hkl : (k : Int) < (vs3.length : Int) := by omega
   have hqn : q.name = o.n := by rw [hfr.name]; exact ((findF_some HS.out.ok.ris).1 hfd).2
   have hfm : f ∈ S.l := List.mem_of_getElem? hf
   have HQn := hid hqn
   have HFm := hid hfm
   have hbF := (Below.refl W3.heap.size W3).alloc (Nat.le_refl _) (.cells #[.string q.name, .slice q.A q.n q.c, .slice q.R q.rn q.rc] 130)
   have hst5 : StAt (W3.alloc (.cells #[.string q.name, .slice q.A q.n q.c, .slice q.R q.rn q.rc] 130)) (fun k => D k ∧ k < w.heap.size) (.agg #[.slice (some ⟨g, o0, none⟩) vs3.length c3, .int .i64 (T.no : Int), .int .i64 (T.ops : Int), .int .i64 T.fuse, .int .i64 T.fault, .bool false]) T := ⟨some ⟨g, o0, none⟩, c3, vs3, by unfold stV; rw [hTd], HR3.out.below hbF, all2_imp (fun _ _ h => FileR.below h hbF) HA3.out⟩
   have HX5 := hid (HX3.out.below hbF)
   have HY5 := hid (HY3.out.below hbF)
   have HZ5 := hid (HZ3.out.below hbF)
   have HG5 := hid (HG3.out.trans (hbF.mono HG3.out.size))
   have HXF5 : Hid (BxA (W3.alloc (.cells #[.string q.name, .slice q.A q.n q.c, .slice q.R q.rn q.rc] 130)) W3.heap.size 130 [.string q.name, .slice q.A q.n q.c, .slice q.R q.rn q.rc]) := hid (BxA.new W3 130 [.string q.name, .slice q.A q.n q.c, .slice q.R q.rn q.rc])
   have HFr5 := hid (hfr.below hbF)
   have hg40 : w.heap.size < W3.heap.size := by omega
   have hg41 : w.heap.size + 1 < W3.heap.size := by omega
   have HT8 : Hid (T.l.length ≤ 8) := hid (by rw [HTl.out]; exact HS.out.ok.few)
   have HSW : Hid (w.heap.size + 3 ≤ W3.heap.size) := hid (by omega)
   have HW5s : Hid ((W3.alloc (.cells #[.string q.name, .slice q.A q.n q.c, .slice q.R q.rn q.rc] 130)).heap.size = W3.heap.size + 1) := hid (by simp)
   have HTd := hid hTd
   clear hqn hfm hbF hfr hTd hf hfd hk
   have HST0 := hid hst5
   have HCb := hid (rbytes10_calls (W3.alloc (.cells #[.string q.name, .slice q.A q.n q.c, .slice q.R q.rn q.rc] 130)) _ q f HFr5.out (HS.out.ok.beh f HFm.out) (by have := HS.out.ok.siz f HFm.out; omega) (by have := HS.out.rows f HFm.out; omega))
   clear hst5
   go_wp2_with fail
   clear hW3 x40 x41 x42 x43 x44 x45 f40 f41 f42 f43 f44 f45 y40 y41 y42 y43 y44 y45 q40 q41 q42 q43 q44 q45 r40 r41 r42 r43 r44 r45 e0 e1 e2
   refine HCb.out.mono ?_
   rintro e w6 ⟨u, rfl, hown, hb6⟩
   clear HCb
   obtain ⟨UA, uc, rfl⟩ := own_form hown
   have HB6 := hid hb6
   have HO6 := hid hown
   have HUn : Hid (UA = none → uc = 0) := hid (fun e => by
    subst e
    rcases hown.2 with ⟨hv, _⟩ | ⟨_, _, _, hv, _⟩
    ·injection hv
    ·injection hv with h1; cases h1)
   have hlc : f.all.length ≤ uc := (byt_of_own hown).2.2.1
   have hal : f.all.length ≤ 65536 := HS.out.ok.siz f HFm.out
   have HST := hid ((HST0.out.below hb6).mono (D' := fun i => (D i ∧ i < w.heap.size) ∨ (W3.alloc (.cells #[.string q.name, .slice q.A q.n q.c, .slice q.R q.rn q.rc] 130)).heap.size ≤ i) (fun _ h => .inl h))
   have HX6 := hid (HX5.out.below hb6)
   have HY6 := hid (HY5.out.below hb6)
   have HZ6 := hid (HZ5.out.below hb6)
   have HXF6 := hid (HXF5.out.below hb6)
   have HFr6 := hid (HFr5.out.below hb6)
   have HG6 := hid (HG5.out.trans (hb6.mono HG5.out.size))
   have HKeep : Hid (∀ W', Below w6.heap.size w6 W' → (fun w' => w'.cell? ⟨w.heap.size, 0, none⟩ = some (.slice (some ⟨g, o0, none⟩) vs3.length c3) ∧ w'.cell? ⟨w.heap.size, 1, none⟩ = some (.int .i64 (T.no : Int)) ∧ w'.cell? ⟨w.heap.size, 2, none⟩ = some (.int .i64 (T.ops : Int)) ∧ w'.cell? ⟨w.heap.size, 3, none⟩ = some (.int .i64 T.fuse) ∧ w'.cell? ⟨w.heap.size, 4, none⟩ = some (.int .i64 T.fault) ∧ w'.cell? ⟨w.heap.size, 5, none⟩ = some (.bool false) ∧ w'.cell? ⟨W3.heap.size, 0, none⟩ = some (.string q.name) ∧ w'.cell? ⟨W3.heap.size, 1, none⟩ = some (.slice q.A q.n q.c) ∧ w'.cell? ⟨W3.heap.size, 2, none⟩ = some (.slice q.R q.rn q.rc)) W') := hid (fun W' hb => ⟨(HX6.out.below hb).c 0 rfl, (HX6.out.below hb).c 1 rfl, (HX6.out.below hb).c 2 rfl, (HX6.out.below hb).c 3 rfl, (HX6.out.below hb).c 4 rfl, by rw [(HX6.out.below hb).c 5 rfl, HTd.out], (HXF6.out.below hb).c 0 rfl, (HXF6.out.below hb).c 1 rfl, (HXF6.out.below hb).c 2 rfl⟩)
   clear hown hb6
   have hx := HX6.out
   have x40 := hx.c 0 rfl
   have x41 := hx.c 1 rfl
   have x42 := hx.c 2 rfl
   have x43 := hx.c 3 rfl
   have x44 := hx.c 4 rfl
   have x45 := hx.c 5 rfl
   have f40 := hx.free 0
   have f41 := hx.free 1
   have f42 := hx.free 2
   have f43 := hx.free 3
   have f44 := hx.free 4
   have f45 := hx.free 5
   have hz := HZ6.out
   have q40 := hz.c 0 rfl
   have q41 := hz.c 1 rfl
   have q42 := hz.c 2 rfl
   have q43 := hz.c 3 rfl
   have q44 := hz.c 4 rfl
   have q45 := hz.c 5 rfl
   have r40 := hz.free 0
   have r41 := hz.free 1
   have r42 := hz.free 2
   have r43 := hz.free 3
   have r44 := hz.free 4
   have r45 := hz.free 5
   have hy := HY6.out
   have y40 := hy.c 0 rfl
   have y41 := hy.c 1 rfl
   have y42 := hy.c 2 rfl
   have y43 := hy.c 3 rfl
   have y44 := hy.c 4 rfl
   have y45 := hy.c 5 rfl
   rw [hkd] at y40
   clear hy
   have hxf := HXF6.out
   have c40 := hxf.c 0 rfl
   have c41 := hxf.c 1 rfl
   have c42 := hxf.c 2 rfl
   have d40 := hxf.free 0
   have d41 := hxf.free 1
   have d42 := hxf.free 2
   clear hxf
   clear hx hz
   by_cases hi0 : o.i < 0
   ·have hin : o.i.toNat = 0 := by omega
    have hme : f.all.take o.i.toNat = f.all.take 0 := by rw [hin]
    have hml : 0 ≤ f.all.length := Nat.zero_le _
    have hmll : (f.all.take 0).length = 0 := by rw [List.length_take]; omega
    have hfr6 : FileR w6 (fun i => (D i ∧ i < w.heap.size) ∨ (W3.alloc (.cells #[.string q.name, .slice q.A q.n q.c, .slice q.R q.rn q.rc] 130)).heap.size ≤ i) ⟨q.name, UA, 0, uc, none, 0, 0⟩ { f with b := f.all.take o.i.toNat, row := [] } := by
     rw [hme]
     exact ⟨HFr6.out.name, hmll.symm, (byR_of_own HO6.out (fun gg hg => .inr (HO6.out.lt gg hg).1)).take u8C_length _, HUn.out, rfl, fun _ => rfl, [], fun h => absurd h (Nat.lt_irrefl 0), .nil⟩
    have hcap : 0 ≤ uc := by omega
    have HWi := hid (rwith10_calls w6.drew _ _ T _ _ (HST.out.below ((Below.refl _ w6).drew)) (hfr6.below ((Below.refl _ w6).drew)) (by have := HT8.out; omega))
    clear hme hmll hfr6
    have hgt : ¬ (f.all.length : Int) < 0 := by omega
    have hc0 : 0 ≤ uc := Nat.zero_le _
    go_upto_region 24 with fail
    refine wp_region_last (S := (fun w' => w'.cell? ⟨w.heap.size, 0, none⟩ = some (.slice (some ⟨g, o0, none⟩) vs3.length c3) ∧ w'.cell? ⟨w.heap.size, 1, none⟩ = some (.int .i64 (T.no : Int)) ∧ w'.cell? ⟨w.heap.size, 2, none⟩ = some (.int .i64 (T.ops : Int)) ∧ w'.cell? ⟨w.heap.size, 3, none⟩ = some (.int .i64 T.fuse) ∧ w'.cell? ⟨w.heap.size, 4, none⟩ = some (.int .i64 T.fault) ∧ w'.cell? ⟨w.heap.size, 5, none⟩ = some (.bool false) ∧ w'.cell? ⟨W3.heap.size, 0, none⟩ = some (.string q.name) ∧ w'.cell? ⟨W3.heap.size, 1, none⟩ = some (.slice q.A q.n q.c) ∧ w'.cell? ⟨W3.heap.size, 2, none⟩ = some (.slice q.R q.rn q.rc))) 8 (by kernel_rfl) (HKeep.out _ (Below.refl _ _).drew) (fun hHeld => ?_)
    refine tkL 0 ?_
    refine tkL 1 ?_
    refine tkL 2 ?_
    refine tkL 3 ?_
    refine tkL 4 ?_
    refine tkL 5 ?_
    refine tkL 6 ?_
    refine rdL 7 fun K hK => ?_
    go_simp
    refine HWi.out.mono ?_
    rintro e w7 ⟨v7, rfl, hst7, hb7x⟩
    clear HWi
    have hb7 : Below w6.heap.size w6 w7 := (Below.refl _ w6).drew.trans hb7x
    have hB67 := hid hb7
    obtain ⟨S7, hS7⟩ : ∃ S7, ({ T with l := withF T.l { f with b := f.all.take o.i.toNat, row := [] } } : FS) = S7 := ⟨_, rfl⟩
    rw [hS7] at hst7
    have HE6 : Hid ((S.cut o.n o.i) = (S7, 0)) := hid (by rw [HE.out, ← hS7, HTl.out, HTd.out])
    clear hS7 hb7x
    have hsw := HSW.out
    have h5s := HW5s.out
    obtain ⟨A7, c7, vs7, rfl, hr7, ha7⟩ := hst7
    have hx7 := HX6.out.below hb7
    have hws := HWs.out
    have hs0 := HG6.out.size
    have hs1 := HB.out.size
    have hs7 := hb7.size
    have hsq0 := HB6.out.size
    have hsix := six_only w7 w.heap.size (.slice A7 vs7.length c7) (.int .i64 (S7.no : Int)) (.int .i64 (S7.ops : Int)) (.int .i64 S7.fuse) (.int .i64 S7.fault) (.bool S7.down)
    have hxx := six_box hx7 (.slice A7 vs7.length c7) (.int .i64 (S7.no : Int)) (.int .i64 (S7.ops : Int)) (.int .i64 S7.fuse) (.int .i64 S7.fault) (.bool S7.down)
    have hD : ∀ i, (((D i ∧ i < w.heap.size) ∨ (W3.alloc (.cells #[.string q.name, .slice q.A q.n q.c, .slice q.R q.rn q.rc] 130)).heap.size ≤ i) ∨ w6.heap.size ≤ i) → ¬ i = w.heap.size := fun i hi => by omega
    have HR7 := hid (hr7.keep hsix hD)
    have HA7 := hid (all2_imp (fun _ _ h => FileR.keep h hsix hD) ha7)
    have HZ7 := hid ((HZ6.out.below hb7).keep hsix (by omega))
    have HG7 := hid ((HG6.out.trans (hb7.mono HG6.out.size)).trans (hsix.below (Nat.le_trans HG6.out.size hs7) (fun k e => by omega)))
    have HX7 := hid hxx
    have HS7 : Hid (w7.heap.size ≤ (six w7 w.heap.size (.slice A7 vs7.length c7) (.int .i64 (S7.no : Int)) (.int .i64 (S7.ops : Int)) (.int .i64 S7.fuse) (.int .i64 S7.fault) (.bool S7.down)).heap.size) := hid hsix.size
    have HSP7 : Hid (w6.heap.size ≤ w7.heap.size) := hid hs7
    have x0 := hx7.c 0 rfl
    have x1 := hx7.c 1 rfl
    have x2 := hx7.c 2 rfl
    have x3 := hx7.c 3 rfl
    have x4 := hx7.c 4 rfl
    have x5 := hx7.c 5 rfl
    have f0 := hx7.free 0
    have f1 := hx7.free 1
    have f2 := hx7.free 2
    have f3 := hx7.free 3
    have f4 := hx7.free 4
    have f5 := hx7.free 5
    have hgl7 : w.heap.size < w7.heap.size := hx7.lt
    obtain ⟨W7, hW7⟩ : ∃ W7, six w7 w.heap.size (.slice A7 vs7.length c7) (.int .i64 (S7.no : Int)) (.int .i64 (S7.ops : Int)) (.int .i64 S7.fuse) (.int .i64 S7.fault) (.bool S7.down) = W7 := ⟨_, rfl⟩
    rw [hW7] at HR7 HA7 HZ7 HG7 HX7 HS7
    unfold six at hW7
    clear hws hs0 hs1 hs7 hsix hxx hx7 hD hr7 ha7 hb7 hsq0
    unfold stV
    clear hsw h5s
    refine hK.out _ _ (HKeep.out _ hB67.out) (fun hHeld => ?_)
    clear hK K
    refine enL fun K hK => ?_
    go_simp
    refine hK.out _ _ ?_
    clear hK K
    have hx := HX7.out
    have x40 := hx.c 0 rfl
    have x41 := hx.c 1 rfl
    have x42 := hx.c 2 rfl
    have x43 := hx.c 3 rfl
    have x44 := hx.c 4 rfl
    have x45 := hx.c 5 rfl
    have f40 := hx.free 0
    have f41 := hx.free 1
    have f42 := hx.free 2
    have f43 := hx.free 3
    have f44 := hx.free 4
    have f45 := hx.free 5
    have hz := HZ7.out
    have q40 := hz.c 0 rfl
    have q41 := hz.c 1 rfl
    have q42 := hz.c 2 rfl
    have q43 := hz.c 3 rfl
    have q44 := hz.c 4 rfl
    have q45 := hz.c 5 rfl
    have r40 := hz.free 0
    have r41 := hz.free 1
    have r42 := hz.free 2
    have r43 := hz.free 3
    have r44 := hz.free 4
    have r45 := hz.free 5
    clear hx hz
    have hgz : w.heap.size + 1 + 1 < W7.heap.size := HZ7.out.lt
    have Fin := hid (fin10e (f := Tryz.f75) (z := 0) (S := S7) (D := fun i => ((D i ∧ i < w.heap.size) ∨ (W3.alloc (.cells #[.string q.name, .slice q.A q.n q.c, .slice q.R q.rn q.rc] 130)).heap.size ≤ i) ∨ w6.heap.size ≤ i) (D' := DW D w) (c := c7) HG7.out (Nat.le_add_right _ 2) (fun k hk => by have hk' : ((D k ∧ k < w.heap.size) ∨ (W3.alloc (.cells #[.string q.name, .slice q.A q.n q.c, .slice q.R q.rn q.rc] 130)).heap.size ≤ k) ∨ w6.heap.size ≤ k := hk; have := HSW.out; have := HW5s.out; have := HB6.out.size; omega) (fun k hk => by
     have hk' : ((D k ∧ k < w.heap.size) ∨ (W3.alloc (.cells #[.string q.name, .slice q.A q.n q.c, .slice q.R q.rn q.rc] 130)).heap.size ≤ k) ∨ w6.heap.size ≤ k := hk
     have := HSW.out
     have := HW5s.out
     have := HB6.out.size
     by_cases hw : k < w.heap.size
     ·exact .inl (by rcases hk' with (h | h) | h <;> first | exact h.1 | omega)
     ·exact .inr (by omega)) HZ7.out HR7.out HA7.out rfl rfl)
    go_wp2_with fail
    rw [HE6.out]
    exact Fin.out _ rfl rfl _ rfl
   ·by_cases hi1 : (f.all.length : Int) < o.i
    ·skip
     have hme : f.all.take o.i.toNat = f.all.take f.all.length := by rw [List.take_length, List.take_of_length_le (by omega)]
     have hml : f.all.length ≤ f.all.length := Nat.le_refl _
     have hmll : (f.all.take f.all.length).length = f.all.length := by rw [List.length_take]; omega
     have hfr6 : FileR w6 (fun i => (D i ∧ i < w.heap.size) ∨ (W3.alloc (.cells #[.string q.name, .slice q.A q.n q.c, .slice q.R q.rn q.rc] 130)).heap.size ≤ i) ⟨q.name, UA, f.all.length, uc, none, 0, 0⟩ { f with b := f.all.take o.i.toNat, row := [] } := by
      rw [hme]
      exact ⟨HFr6.out.name, hmll.symm, (byR_of_own HO6.out (fun gg hg => .inr (HO6.out.lt gg hg).1)).take u8C_length _, HUn.out, rfl, fun _ => rfl, [], fun h => absurd h (Nat.lt_irrefl 0), .nil⟩
     have hcap : f.all.length ≤ uc := by omega
     have HWi := hid (rwith10_calls w6.drew _ _ T _ _ (HST.out.below ((Below.refl _ w6).drew)) (hfr6.below ((Below.refl _ w6).drew)) (by have := HT8.out; omega))
     clear hme hmll hfr6
     go_upto_region 24 with fail
     refine wp_region_last (S := (fun w' => w'.cell? ⟨w.heap.size, 0, none⟩ = some (.slice (some ⟨g, o0, none⟩) vs3.length c3) ∧ w'.cell? ⟨w.heap.size, 1, none⟩ = some (.int .i64 (T.no : Int)) ∧ w'.cell? ⟨w.heap.size, 2, none⟩ = some (.int .i64 (T.ops : Int)) ∧ w'.cell? ⟨w.heap.size, 3, none⟩ = some (.int .i64 T.fuse) ∧ w'.cell? ⟨w.heap.size, 4, none⟩ = some (.int .i64 T.fault) ∧ w'.cell? ⟨w.heap.size, 5, none⟩ = some (.bool false) ∧ w'.cell? ⟨W3.heap.size, 0, none⟩ = some (.string q.name) ∧ w'.cell? ⟨W3.heap.size, 1, none⟩ = some (.slice q.A q.n q.c) ∧ w'.cell? ⟨W3.heap.size, 2, none⟩ = some (.slice q.R q.rn q.rc))) 8 (by kernel_rfl) (HKeep.out _ (Below.refl _ _).drew) (fun hHeld => ?_)
     refine tkL 0 ?_
     refine tkL 1 ?_
     refine tkL 2 ?_
     refine tkL 3 ?_
     refine tkL 4 ?_
     refine tkL 5 ?_
     refine tkL 6 ?_
     refine rdL 7 fun K hK => ?_
     go_simp
     refine HWi.out.mono ?_
     rintro e w7 ⟨v7, rfl, hst7, hb7x⟩
     clear HWi
     have hb7 : Below w6.heap.size w6 w7 := (Below.refl _ w6).drew.trans hb7x
     have hB67 := hid hb7
     obtain ⟨S7, hS7⟩ : ∃ S7, ({ T with l := withF T.l { f with b := f.all.take o.i.toNat, row := [] } } : FS) = S7 := ⟨_, rfl⟩
     rw [hS7] at hst7
     have HE6 : Hid ((S.cut o.n o.i) = (S7, 0)) := hid (by rw [HE.out, ← hS7, HTl.out, HTd.out])
     clear hS7 hb7x
     have hsw := HSW.out
     have h5s := HW5s.out
     obtain ⟨A7, c7, vs7, rfl, hr7, ha7⟩ := hst7
     have hx7 := HX6.out.below hb7
     have hws := HWs.out
     have hs0 := HG6.out.size
     have hs1 := HB.out.size
     have hs7 := hb7.size
     have hsq0 := HB6.out.size
     have hsix := six_only w7 w.heap.size (.slice A7 vs7.length c7) (.int .i64 (S7.no : Int)) (.int .i64 (S7.ops : Int)) (.int .i64 S7.fuse) (.int .i64 S7.fault) (.bool S7.down)
     have hxx := six_box hx7 (.slice A7 vs7.length c7) (.int .i64 (S7.no : Int)) (.int .i64 (S7.ops : Int)) (.int .i64 S7.fuse) (.int .i64 S7.fault) (.bool S7.down)
     have hD : ∀ i, (((D i ∧ i < w.heap.size) ∨ (W3.alloc (.cells #[.string q.name, .slice q.A q.n q.c, .slice q.R q.rn q.rc] 130)).heap.size ≤ i) ∨ w6.heap.size ≤ i) → ¬ i = w.heap.size := fun i hi => by omega
     have HR7 := hid (hr7.keep hsix hD)
     have HA7 := hid (all2_imp (fun _ _ h => FileR.keep h hsix hD) ha7)
     have HZ7 := hid ((HZ6.out.below hb7).keep hsix (by omega))
     have HG7 := hid ((HG6.out.trans (hb7.mono HG6.out.size)).trans (hsix.below (Nat.le_trans HG6.out.size hs7) (fun k e => by omega)))
     have HX7 := hid hxx
     have HS7 : Hid (w7.heap.size ≤ (six w7 w.heap.size (.slice A7 vs7.length c7) (.int .i64 (S7.no : Int)) (.int .i64 (S7.ops : Int)) (.int .i64 S7.fuse) (.int .i64 S7.fault) (.bool S7.down)).heap.size) := hid hsix.size
     have HSP7 : Hid (w6.heap.size ≤ w7.heap.size) := hid hs7
     have x0 := hx7.c 0 rfl
     have x1 := hx7.c 1 rfl
     have x2 := hx7.c 2 rfl
     have x3 := hx7.c 3 rfl
     have x4 := hx7.c 4 rfl
     have x5 := hx7.c 5 rfl
     have f0 := hx7.free 0
     have f1 := hx7.free 1
     have f2 := hx7.free 2
     have f3 := hx7.free 3
     have f4 := hx7.free 4
     have f5 := hx7.free 5
     have hgl7 : w.heap.size < w7.heap.size := hx7.lt
     obtain ⟨W7, hW7⟩ : ∃ W7, six w7 w.heap.size (.slice A7 vs7.length c7) (.int .i64 (S7.no : Int)) (.int .i64 (S7.ops : Int)) (.int .i64 S7.fuse) (.int .i64 S7.fault) (.bool S7.down) = W7 := ⟨_, rfl⟩
     rw [hW7] at HR7 HA7 HZ7 HG7 HX7 HS7
     unfold six at hW7
     clear hws hs0 hs1 hs7 hsix hxx hx7 hD hr7 ha7 hb7 hsq0
     unfold stV
     clear hsw h5s
     refine hK.out _ _ (HKeep.out _ hB67.out) (fun hHeld => ?_)
     clear hK K
     refine enL fun K hK => ?_
     go_simp
     refine hK.out _ _ ?_
     clear hK K
     have hx := HX7.out
     have x40 := hx.c 0 rfl
     have x41 := hx.c 1 rfl
     have x42 := hx.c 2 rfl
     have x43 := hx.c 3 rfl
     have x44 := hx.c 4 rfl
     have x45 := hx.c 5 rfl
     have f40 := hx.free 0
     have f41 := hx.free 1
     have f42 := hx.free 2
     have f43 := hx.free 3
     have f44 := hx.free 4
     have f45 := hx.free 5
     have hz := HZ7.out
     have q40 := hz.c 0 rfl
     have q41 := hz.c 1 rfl
     have q42 := hz.c 2 rfl
     have q43 := hz.c 3 rfl
     have q44 := hz.c 4 rfl
     have q45 := hz.c 5 rfl
     have r40 := hz.free 0
     have r41 := hz.free 1
     have r42 := hz.free 2
     have r43 := hz.free 3
     have r44 := hz.free 4
     have r45 := hz.free 5
     clear hx hz
     have hgz : w.heap.size + 1 + 1 < W7.heap.size := HZ7.out.lt
     have Fin := hid (fin10e (f := Tryz.f75) (z := 0) (S := S7) (D := fun i => ((D i ∧ i < w.heap.size) ∨ (W3.alloc (.cells #[.string q.name, .slice q.A q.n q.c, .slice q.R q.rn q.rc] 130)).heap.size ≤ i) ∨ w6.heap.size ≤ i) (D' := DW D w) (c := c7) HG7.out (Nat.le_add_right _ 2) (fun k hk => by have hk' : ((D k ∧ k < w.heap.size) ∨ (W3.alloc (.cells #[.string q.name, .slice q.A q.n q.c, .slice q.R q.rn q.rc] 130)).heap.size ≤ k) ∨ w6.heap.size ≤ k := hk; have := HSW.out; have := HW5s.out; have := HB6.out.size; omega) (fun k hk => by
      have hk' : ((D k ∧ k < w.heap.size) ∨ (W3.alloc (.cells #[.string q.name, .slice q.A q.n q.c, .slice q.R q.rn q.rc] 130)).heap.size ≤ k) ∨ w6.heap.size ≤ k := hk
      have := HSW.out
      have := HW5s.out
      have := HB6.out.size
      by_cases hw : k < w.heap.size
      ·exact .inl (by rcases hk' with (h | h) | h <;> first | exact h.1 | omega)
      ·exact .inr (by omega)) HZ7.out HR7.out HA7.out rfl rfl)
     go_wp2_with fail
     rw [HE6.out]
     exact Fin.out _ rfl rfl _ rfl
    ·obtain ⟨m, hm⟩ : ∃ m : Nat, o.i = (m : Int) := ⟨o.i.toNat, by omega⟩
     have hmm : o.i.toNat = m := by omega
     rw [hm] at y44 hi0 hi1
     have HM := hid hm
     have HMM := hid hmm
     clear hm hmm
     have hme : f.all.take o.i.toNat = f.all.take m := by rw [HMM.out]
     have hml : m ≤ f.all.length := by omega
     have hmll : (f.all.take m).length = m := by rw [List.length_take]; omega
     have hfr6 : FileR w6 (fun i => (D i ∧ i < w.heap.size) ∨ (W3.alloc (.cells #[.string q.name, .slice q.A q.n q.c, .slice q.R q.rn q.rc] 130)).heap.size ≤ i) ⟨q.name, UA, m, uc, none, 0, 0⟩ { f with b := f.all.take o.i.toNat, row := [] } := by
      rw [hme]
      exact ⟨HFr6.out.name, hmll.symm, (byR_of_own HO6.out (fun gg hg => .inr (HO6.out.lt gg hg).1)).take u8C_length _, HUn.out, rfl, fun _ => rfl, [], fun h => absurd h (Nat.lt_irrefl 0), .nil⟩
     have hcap : m ≤ uc := by omega
     have HWi := hid (rwith10_calls w6.drew _ _ T _ _ (HST.out.below ((Below.refl _ w6).drew)) (hfr6.below ((Below.refl _ w6).drew)) (by have := HT8.out; omega))
     clear hme hmll hfr6
     go_upto_region 24 with fail
     refine wp_region_last (S := (fun w' => w'.cell? ⟨w.heap.size, 0, none⟩ = some (.slice (some ⟨g, o0, none⟩) vs3.length c3) ∧ w'.cell? ⟨w.heap.size, 1, none⟩ = some (.int .i64 (T.no : Int)) ∧ w'.cell? ⟨w.heap.size, 2, none⟩ = some (.int .i64 (T.ops : Int)) ∧ w'.cell? ⟨w.heap.size, 3, none⟩ = some (.int .i64 T.fuse) ∧ w'.cell? ⟨w.heap.size, 4, none⟩ = some (.int .i64 T.fault) ∧ w'.cell? ⟨w.heap.size, 5, none⟩ = some (.bool false) ∧ w'.cell? ⟨W3.heap.size, 0, none⟩ = some (.string q.name) ∧ w'.cell? ⟨W3.heap.size, 1, none⟩ = some (.slice q.A q.n q.c) ∧ w'.cell? ⟨W3.heap.size, 2, none⟩ = some (.slice q.R q.rn q.rc))) 8 (by kernel_rfl) (HKeep.out _ (Below.refl _ _).drew) (fun hHeld => ?_)
     refine tkL 0 ?_
     refine tkL 1 ?_
     refine tkL 2 ?_
     refine tkL 3 ?_
     refine tkL 4 ?_
     refine tkL 5 ?_
     refine tkL 6 ?_
     refine rdL 7 fun K hK => ?_
     go_simp
     refine HWi.out.mono ?_
     rintro e w7 ⟨v7, rfl, hst7, hb7x⟩
     clear HWi
     have hb7 : Below w6.heap.size w6 w7 := (Below.refl _ w6).drew.trans hb7x
     have hB67 := hid hb7
     obtain ⟨S7, hS7⟩ : ∃ S7, ({ T with l := withF T.l { f with b := f.all.take o.i.toNat, row := [] } } : FS) = S7 := ⟨_, rfl⟩
     rw [hS7] at hst7
     have HE6 : Hid ((S.cut o.n o.i) = (S7, 0)) := hid (by rw [HE.out, ← hS7, HTl.out, HTd.out])
     clear hS7 hb7x
     have hsw := HSW.out
     have h5s := HW5s.out
     obtain ⟨A7, c7, vs7, rfl, hr7, ha7⟩ := hst7
     have hx7 := HX6.out.below hb7
     have hws := HWs.out
     have hs0 := HG6.out.size
     have hs1 := HB.out.size
     have hs7 := hb7.size
     have hsq0 := HB6.out.size
     have hsix := six_only w7 w.heap.size (.slice A7 vs7.length c7) (.int .i64 (S7.no : Int)) (.int .i64 (S7.ops : Int)) (.int .i64 S7.fuse) (.int .i64 S7.fault) (.bool S7.down)
     have hxx := six_box hx7 (.slice A7 vs7.length c7) (.int .i64 (S7.no : Int)) (.int .i64 (S7.ops : Int)) (.int .i64 S7.fuse) (.int .i64 S7.fault) (.bool S7.down)
     have hD : ∀ i, (((D i ∧ i < w.heap.size) ∨ (W3.alloc (.cells #[.string q.name, .slice q.A q.n q.c, .slice q.R q.rn q.rc] 130)).heap.size ≤ i) ∨ w6.heap.size ≤ i) → ¬ i = w.heap.size := fun i hi => by omega
     have HR7 := hid (hr7.keep hsix hD)
     have HA7 := hid (all2_imp (fun _ _ h => FileR.keep h hsix hD) ha7)
     have HZ7 := hid ((HZ6.out.below hb7).keep hsix (by omega))
     have HG7 := hid ((HG6.out.trans (hb7.mono HG6.out.size)).trans (hsix.below (Nat.le_trans HG6.out.size hs7) (fun k e => by omega)))
     have HX7 := hid hxx
     have HS7 : Hid (w7.heap.size ≤ (six w7 w.heap.size (.slice A7 vs7.length c7) (.int .i64 (S7.no : Int)) (.int .i64 (S7.ops : Int)) (.int .i64 S7.fuse) (.int .i64 S7.fault) (.bool S7.down)).heap.size) := hid hsix.size
     have HSP7 : Hid (w6.heap.size ≤ w7.heap.size) := hid hs7
     have x0 := hx7.c 0 rfl
     have x1 := hx7.c 1 rfl
     have x2 := hx7.c 2 rfl
     have x3 := hx7.c 3 rfl
     have x4 := hx7.c 4 rfl
     have x5 := hx7.c 5 rfl
     have f0 := hx7.free 0
     have f1 := hx7.free 1
     have f2 := hx7.free 2
     have f3 := hx7.free 3
     have f4 := hx7.free 4
     have f5 := hx7.free 5
     have hgl7 : w.heap.size < w7.heap.size := hx7.lt
     obtain ⟨W7, hW7⟩ : ∃ W7, six w7 w.heap.size (.slice A7 vs7.length c7) (.int .i64 (S7.no : Int)) (.int .i64 (S7.ops : Int)) (.int .i64 S7.fuse) (.int .i64 S7.fault) (.bool S7.down) = W7 := ⟨_, rfl⟩
     rw [hW7] at HR7 HA7 HZ7 HG7 HX7 HS7
     unfold six at hW7
     clear hws hs0 hs1 hs7 hsix hxx hx7 hD hr7 ha7 hb7 hsq0
     unfold stV
     clear hsw h5s
     refine hK.out _ _ (HKeep.out _ hB67.out) (fun hHeld => ?_)
     clear hK K
     refine enL fun K hK => ?_
     go_simp
     refine hK.out _ _ ?_
     clear hK K
     have hx := HX7.out
     have x40 := hx.c 0 rfl
     have x41 := hx.c 1 rfl
     have x42 := hx.c 2 rfl
     have x43 := hx.c 3 rfl
     have x44 := hx.c 4 rfl
     have x45 := hx.c 5 rfl
     have f40 := hx.free 0
     have f41 := hx.free 1
     have f42 := hx.free 2
     have f43 := hx.free 3
     have f44 := hx.free 4
     have f45 := hx.free 5
     have hz := HZ7.out
     have q40 := hz.c 0 rfl
     have q41 := hz.c 1 rfl
     have q42 := hz.c 2 rfl
     have q43 := hz.c 3 rfl
     have q44 := hz.c 4 rfl
     have q45 := hz.c 5 rfl
     have r40 := hz.free 0
     have r41 := hz.free 1
     have r42 := hz.free 2
     have r43 := hz.free 3
     have r44 := hz.free 4
     have r45 := hz.free 5
     clear hx hz
     have hgz : w.heap.size + 1 + 1 < W7.heap.size := HZ7.out.lt
     have Fin := hid (fin10e (f := Tryz.f75) (z := 0) (S := S7) (D := fun i => ((D i ∧ i < w.heap.size) ∨ (W3.alloc (.cells #[.string q.name, .slice q.A q.n q.c, .slice q.R q.rn q.rc] 130)).heap.size ≤ i) ∨ w6.heap.size ≤ i) (D' := DW D w) (c := c7) HG7.out (Nat.le_add_right _ 2) (fun k hk => by have hk' : ((D k ∧ k < w.heap.size) ∨ (W3.alloc (.cells #[.string q.name, .slice q.A q.n q.c, .slice q.R q.rn q.rc] 130)).heap.size ≤ k) ∨ w6.heap.size ≤ k := hk; have := HSW.out; have := HW5s.out; have := HB6.out.size; omega) (fun k hk => by
      have hk' : ((D k ∧ k < w.heap.size) ∨ (W3.alloc (.cells #[.string q.name, .slice q.A q.n q.c, .slice q.R q.rn q.rc] 130)).heap.size ≤ k) ∨ w6.heap.size ≤ k := hk
      have := HSW.out
      have := HW5s.out
      have := HB6.out.size
      by_cases hw : k < w.heap.size
      ·exact .inl (by rcases hk' with (h | h) | h <;> first | exact h.1 | omega)
      ·exact .inr (by omega)) HZ7.out HR7.out HA7.out rfl rfl)
     go_wp2_with fail
     rw [HE6.out]
     exact Fin.out _ rfl rfl _ rfl
end
section
open Go Go.RowKit
open Go.Lib (hid)
set_option maxRecDepth 100000
set_option maxHeartbeats 4000000 in
theorem rdo10_arm (w : World) (D : Nat → Prop) (v : Value) (S : FS) (o : OpF) (BA : Option Addr) (bc : Nat) (KA : Option Addr) (kc : Nat) (h : StAt w D v S) (hS : S.Fit) (hkd : o.k = 5) :
  Calls Tryz.prog 36 #[v, .agg (opC o BA bc KA kc).toArray] w fun e w' => ∃ v', e = .returned (.tuple #[v', .int .i64 0]) ∧ StAt w' (DW D w) v' (S.arm o.i) ∧ Below w.heap.size w w' := by
 obtain ⟨A, c, vs, rfl, hr, ha⟩ := h
 have HR := hid hr
 have HA := hid ha
 have hbel : ∀ o1 o2 o3 : Obj, Below w.heap.size w (((w.alloc o1).alloc o2).alloc o3) := fun o1 o2 o3 => (((Below.refl _ w).alloc (Nat.le_refl _) o1).alloc (by simp) o2).alloc (by simp; omega) o3
 have HBel := hid hbel
 clear hr ha hbel
 obtain ⟨ok, on, ot, ob, oi, oks⟩ := o
 simp only at *
 subst hkd
 obtain ⟨l, no, ops, fuse, fault, down⟩ := S
 unfold stV opC
 simp only
 go_enter Tryz.func36, Tryz.ntmps36
 by_cases hm : -1 ≤ oi
 ·have hmx : max oi (-1) = oi := by omega
  go_wp2_with fail
  refine bodyPost_ret (results_st2 rfl _ _ (w.heap.size + 2) _ _ _ _ _ _ _ 51 rfl rfl (bx_new3 w _ _ 51 [.slice A vs.length c, .int .i64 (no : Int), .int .i64 (ops : Int), .int .i64 oi, .int .i64 fault, .bool down]) Tryz.underlying51 (sizeState10 _)) rfl ?_
  exact ⟨_, rfl, ⟨A, c, vs, by unfold stV FS.arm; simp only; rw [hmx], (HR.out.below (HBel.out _ _ _)).mono (fun _ h => .inl h), all2_imp (fun _ _ h => (FileR.below h (HBel.out _ _ _)).mono (fun _ h => .inl h)) HA.out⟩, HBel.out _ _ _⟩
 ·have hmx : max oi (-1) = -1 := by omega
  go_wp2_with fail
  refine bodyPost_ret (results_st2 rfl _ _ (w.heap.size + 2) _ _ _ _ _ _ _ 51 rfl rfl (bx_new3 w _ _ 51 [.slice A vs.length c, .int .i64 (no : Int), .int .i64 (ops : Int), .int .i64 (-1), .int .i64 fault, .bool down]) Tryz.underlying51 (sizeState10 _)) rfl ?_
  exact ⟨_, rfl, ⟨A, c, vs, by unfold stV FS.arm; simp only; rw [hmx], (HR.out.below (HBel.out _ _ _)).mono (fun _ h => .inl h), all2_imp (fun _ _ h => (FileR.below h (HBel.out _ _ _)).mono (fun _ h => .inl h)) HA.out⟩, HBel.out _ _ _⟩
set_option maxHeartbeats 4000000 in
theorem rdo10_fault (w : World) (D : Nat → Prop) (v : Value) (S : FS) (o : OpF) (BA : Option Addr) (bc : Nat) (KA : Option Addr) (kc : Nat) (h : StAt w D v S) (hS : S.Fit) (hkd : o.k = 6) :
  Calls Tryz.prog 36 #[v, .agg (opC o BA bc KA kc).toArray] w fun e w' => ∃ v', e = .returned (.tuple #[v', .int .i64 0]) ∧ StAt w' (DW D w) v' (S.fault_ o.i) ∧ Below w.heap.size w w' := by
 obtain ⟨A, c, vs, rfl, hr, ha⟩ := h
 have HR := hid hr
 have HA := hid ha
 have hbel : ∀ o1 o2 o3 : Obj, Below w.heap.size w (((w.alloc o1).alloc o2).alloc o3) := fun o1 o2 o3 => (((Below.refl _ w).alloc (Nat.le_refl _) o1).alloc (by simp) o2).alloc (by simp; omega) o3
 have HBel := hid hbel
 clear hr ha hbel
 obtain ⟨ok, on, ot, ob, oi, oks⟩ := o
 simp only at *
 subst hkd
 obtain ⟨l, no, ops, fuse, fault, down⟩ := S
 unfold stV opC
 simp only
 go_enter Tryz.func36, Tryz.ntmps36
 by_cases hm : -1 ≤ oi
 ·have hmx : max oi (-1) = oi := by omega
  go_wp2_with fail
  refine bodyPost_ret (results_st2 rfl _ _ (w.heap.size + 2) _ _ _ _ _ _ _ 51 rfl rfl (bx_new3 w _ _ 51 [.slice A vs.length c, .int .i64 (no : Int), .int .i64 (ops : Int), .int .i64 fuse, .int .i64 oi, .bool down]) Tryz.underlying51 (sizeState10 _)) rfl ?_
  exact ⟨_, rfl, ⟨A, c, vs, by unfold stV FS.fault_; simp only; rw [hmx], (HR.out.below (HBel.out _ _ _)).mono (fun _ h => .inl h), all2_imp (fun _ _ h => (FileR.below h (HBel.out _ _ _)).mono (fun _ h => .inl h)) HA.out⟩, HBel.out _ _ _⟩
 ·have hmx : max oi (-1) = -1 := by omega
  go_wp2_with fail
  refine bodyPost_ret (results_st2 rfl _ _ (w.heap.size + 2) _ _ _ _ _ _ _ 51 rfl rfl (bx_new3 w _ _ 51 [.slice A vs.length c, .int .i64 (no : Int), .int .i64 (ops : Int), .int .i64 fuse, .int .i64 (-1), .bool down]) Tryz.underlying51 (sizeState10 _)) rfl ?_
  exact ⟨_, rfl, ⟨A, c, vs, by unfold stV FS.fault_; simp only; rw [hmx], (HR.out.below (HBel.out _ _ _)).mono (fun _ h => .inl h), all2_imp (fun _ _ h => (FileR.below h (HBel.out _ _ _)).mono (fun _ h => .inl h)) HA.out⟩, HBel.out _ _ _⟩
set_option maxHeartbeats 4000000 in
theorem rdo10_copy (w : World) (D : Nat → Prop) (v : Value) (S : FS) (o : OpF) (BA : Option Addr) (bc : Nat) (KA : Option Addr) (kc : Nat) (h : StAt w D v S) (hS : S.Fit) (hkd : o.k = 8) :
  Calls Tryz.prog 36 #[v, .agg (opC o BA bc KA kc).toArray] w fun e w' => ∃ v', e = .returned (.tuple #[v', .int .i64 0]) ∧ StAt w' (DW D w) v' S ∧ Below w.heap.size w w' := by
 obtain ⟨A, c, vs, rfl, hr, ha⟩ := h
 have HR := hid hr
 have HA := hid ha
 have hbel : ∀ o1 o2 o3 : Obj, Below w.heap.size w (((w.alloc o1).alloc o2).alloc o3) := fun o1 o2 o3 => (((Below.refl _ w).alloc (Nat.le_refl _) o1).alloc (by simp) o2).alloc (by simp; omega) o3
 have HBel := hid hbel
 clear hr ha hbel
 obtain ⟨ok, on, ot, ob, oi, oks⟩ := o
 simp only at *
 subst hkd
 obtain ⟨l, no, ops, fuse, fault, down⟩ := S
 unfold stV opC
 simp only
 go_enter Tryz.func36, Tryz.ntmps36
 go_wp2_with fail
 refine bodyPost_ret (results_st2 rfl _ _ (w.heap.size + 2) _ _ _ _ _ _ _ 51 rfl rfl (bx_new3 w _ _ 51 [.slice A vs.length c, .int .i64 (no : Int), .int .i64 (ops : Int), .int .i64 fuse, .int .i64 fault, .bool down]) Tryz.underlying51 (sizeState10 _)) rfl ?_
 exact ⟨_, rfl, ⟨A, c, vs, rfl, (HR.out.below (HBel.out _ _ _)).mono (fun _ h => .inl h), all2_imp (fun _ _ h => (FileR.below h (HBel.out _ _ _)).mono (fun _ h => .inl h)) HA.out⟩, HBel.out _ _ _⟩
set_option maxHeartbeats 4000000 in
theorem rdo10_down (w : World) (D : Nat → Prop) (v : Value) (S : FS) (o : OpF) (BA : Option Addr) (bc : Nat) (KA : Option Addr) (kc : Nat) (h : StAt w D v S) (hS : S.Fit) (h0 : 0 ≤ o.k) (h4 : o.k ≤ 4) (hd : S.down = true) :
  Calls Tryz.prog 36 #[v, .agg (opC o BA bc KA kc).toArray] w fun e w' => ∃ v', e = .returned (.tuple #[v', .int .i64 100]) ∧ StAt w' (DW D w) v' S ∧ Below w.heap.size w w' := by
 obtain ⟨A, c, vs, rfl, hr, ha⟩ := h
 have HR := hid hr
 have HA := hid ha
 have hbel : ∀ o1 o2 o3 : Obj, Below w.heap.size w (((w.alloc o1).alloc o2).alloc o3) := fun o1 o2 o3 => (((Below.refl _ w).alloc (Nat.le_refl _) o1).alloc (by simp) o2).alloc (by simp; omega) o3
 have HBel := hid hbel
 clear hr ha hbel
 obtain ⟨ok, on, ot, ob, oi, oks⟩ := o
 simp only at *
 have k5 : (ok == 5) = false := beq_eq_false_iff_ne.2 (by omega)
 have k6 : (ok == 6) = false := beq_eq_false_iff_ne.2 (by omega)
 have k7 : (ok == 7) = false := beq_eq_false_iff_ne.2 (by omega)
 have k8 : (ok == 8) = false := beq_eq_false_iff_ne.2 (by omega)
 obtain ⟨l, no, ops, fuse, fault, down⟩ := S
 simp only at hd
 subst hd
 unfold stV opC
 simp only
 go_enter Tryz.func36, Tryz.ntmps36
 go_wp2_with fail
 refine bodyPost_ret (results_st2 rfl _ _ (w.heap.size + 2) _ _ _ _ _ _ _ 51 rfl rfl (bx_new3 w _ _ 51 [.slice A vs.length c, .int .i64 (no : Int), .int .i64 (ops : Int), .int .i64 fuse, .int .i64 fault, .bool true]) Tryz.underlying51 (sizeState10 _)) rfl ?_
 exact ⟨_, rfl, ⟨A, c, vs, rfl, (HR.out.below (HBel.out _ _ _)).mono (fun _ h => .inl h), all2_imp (fun _ _ h => (FileR.below h (HBel.out _ _ _)).mono (fun _ h => .inl h)) HA.out⟩, HBel.out _ _ _⟩
set_option maxHeartbeats 4000000 in
theorem rdo10_crash (w : World) (D : Nat → Prop) (v : Value) (S : FS) (o : OpF) (BA : Option Addr) (bc : Nat) (KA : Option Addr) (kc : Nat) (h : StAt w D v S) (hS : S.Fit) (hkd : o.k = 7) (hK : RowT boolC w D KA o.ks) (hkl : o.ks.length ≤ 100000) :
  Calls Tryz.prog 36 #[v, .agg (opC o BA bc KA kc).toArray] w fun e w' => ∃ v', e = .returned (.tuple #[v', .int .i64 0]) ∧ StAt w' (DW D w) v' (S.crash o.ks) ∧ Below w.heap.size w w' := by
 have hcap := h.cap
 obtain ⟨A, c, vs, rfl, hr, ha⟩ := hcap
 have hb := (((Below.refl _ w).alloc (Nat.le_refl _) (.cells (stC A vs.length c S).toArray 51)).alloc (by simp) (.cells (opC o BA bc KA kc).toArray 76)).alloc (by simp; omega) (.cells zeroSt.toArray 51)
 have hx := ((BxA.new w 51 (stC A vs.length c S)).alloc (.cells (opC o BA bc KA kc).toArray 76)).alloc (.cells zeroSt.toArray 51)
 have hy := (bx_new2 w (.cells (stC A vs.length c S).toArray 51) 76 (opC o BA bc KA kc)).alloc (.cells zeroSt.toArray 51)
 have hz := bx_new3 w (.cells (stC A vs.length c S).toArray 51) (.cells (opC o BA bc KA kc).toArray 76) 51 zeroSt
 have hst : StAt (((w.alloc (.cells (stC A vs.length c S).toArray 51)).alloc (.cells (opC o BA bc KA kc).toArray 76)).alloc (.cells zeroSt.toArray 51)) (fun k => D k ∧ k < w.heap.size) (stV A vs.length c S) S := StAt.below ⟨A, c, vs, rfl, hr, ha⟩ hb
 have HC := hid (rcrash10_calls _ _ _ S KA kc o.ks hst hS (hK.cap.below hb) hkl)
 have HR := hid (hr.below hb)
 have HA := hid (all2_imp (fun _ _ h => FileR.below h hb) ha)
 have HB := hid hb
 have HX := hid hx
 have HY := hid hy
 have HZ := hid hz
 have HS := hid hS
 have HVl := hid (all2_len ha)
 have hfew : vs.length ≤ 8 := by rw [HVl.out]; exact hS.ok.few
 obtain ⟨W, hW⟩ : ∃ W, (((w.alloc (.cells (stC A vs.length c S).toArray 51)).alloc (.cells (opC o BA bc KA kc).toArray 76)).alloc (.cells zeroSt.toArray 51)) = W := ⟨_, rfl⟩
 rw [hW] at HC HR HA HB HX HY HZ
 have HWs : Hid (W.heap.size = w.heap.size + 1 + 1 + 1) := hid (by rw [← hW]; simp)
 clear hr ha hb hx hy hz hst hS h
 obtain ⟨S6, hS6⟩ : ∃ S6, (S.crash o.ks) = S6 := ⟨_, rfl⟩
 rw [hS6] at HC ⊢
 clear hS6
 unfold stV stC at *
 go_enter Tryz.func36, Tryz.ntmps36
 have x0 := HX.out.c 0 rfl
 have x1 := HX.out.c 1 rfl
 have x2 := HX.out.c 2 rfl
 have x3 := HX.out.c 3 rfl
 have x4 := HX.out.c 4 rfl
 have x5 := HX.out.c 5 rfl
 have y0 := HY.out.c 0 rfl
 have y1 := HY.out.c 1 rfl
 have y2 := HY.out.c 2 rfl
 have y3 := HY.out.c 3 rfl
 have y4 := HY.out.c 4 rfl
 have y5 := HY.out.c 5 rfl
 rw [hkd] at y0
 go_wp2_with fail
 clear hW x0 x1 x2 x3 x4 x5 y0 y1 y2 y3 y4 y5
 refine HC.out.mono ?_
 rintro e w1 ⟨v1, rfl, ⟨A1, c1, vs1, rfl, hr1, ha1⟩, hb1⟩
 have hz1 := HZ.out.below hb1
 have hws := HWs.out
 have Fin := hid (fin10e (f := Tryz.f36) (z := 0) (S := S6) (D' := DW D w) (c := c1) (HB.out.trans (hb1.mono HB.out.size)) (Nat.le_add_right _ 2) (fun k hk => by have hk' : (D k ∧ k < w.heap.size) ∨ W.heap.size ≤ k := hk; omega) (fun k hk => by
  have hk' : (D k ∧ k < w.heap.size) ∨ W.heap.size ≤ k := hk
  rcases hk' with h | h
  ·exact .inl h.1
  ·exact .inr (by omega)) hz1 hr1 ha1 rfl rfl)
 have hg0 : w.heap.size + 1 + 1 < w1.heap.size := hz1.lt
 have q0 := hz1.c 0 rfl
 have q1 := hz1.c 1 rfl
 have q2 := hz1.c 2 rfl
 have q3 := hz1.c 3 rfl
 have q4 := hz1.c 4 rfl
 have q5 := hz1.c 5 rfl
 have r0 := hz1.free 0
 have r1 := hz1.free 1
 have r2 := hz1.free 2
 have r3 := hz1.free 3
 have r4 := hz1.free 4
 have r5 := hz1.free 5
 unfold stV
 clear hz1 hr1 ha1 hb1 hws HC
 go_wp2_with fail
 exact Fin.out _ rfl rfl _ rfl
set_option maxHeartbeats 4000000 in
theorem rdo10_write (w : World) (D : Nat → Prop) (v : Value) (S : FS) (o : OpF) (BA : Option Addr) (bc : Nat) (KA : Option Addr) (kc : Nat) (h : StAt w D v S) (hS : S.Fit) (hkd : o.k = 0) (hd : S.down = false) (hBy : ByR w D BA o.b) (hBn : BA = none → bc = 0) (hbl : o.b.length ≤ 1000000) :
  Calls Tryz.prog 36 #[v, .agg (opC o BA bc KA kc).toArray] w fun e w' => ∃ v', e = .returned (.tuple #[v', .int .i64 (S.write o.n o.b).2]) ∧ StAt w' (DW D w) v' (S.write o.n o.b).1 ∧ Below w.heap.size w w' := by
 have hcap := h.cap
 obtain ⟨A, c, vs, rfl, hr, ha⟩ := hcap
 have hb := (((Below.refl _ w).alloc (Nat.le_refl _) (.cells (stC A vs.length c S).toArray 51)).alloc (by simp) (.cells (opC o BA bc KA kc).toArray 76)).alloc (by simp; omega) (.cells zeroSt.toArray 51)
 have hx := ((BxA.new w 51 (stC A vs.length c S)).alloc (.cells (opC o BA bc KA kc).toArray 76)).alloc (.cells zeroSt.toArray 51)
 have hy := (bx_new2 w (.cells (stC A vs.length c S).toArray 51) 76 (opC o BA bc KA kc)).alloc (.cells zeroSt.toArray 51)
 have hz := bx_new3 w (.cells (stC A vs.length c S).toArray 51) (.cells (opC o BA bc KA kc).toArray 76) 51 zeroSt
 have hst : StAt (((w.alloc (.cells (stC A vs.length c S).toArray 51)).alloc (.cells (opC o BA bc KA kc).toArray 76)).alloc (.cells zeroSt.toArray 51)) (fun k => D k ∧ k < w.heap.size) (stV A vs.length c S) S := StAt.below ⟨A, c, vs, rfl, hr, ha⟩ hb
 have HC := hid (rwrite10_calls _ _ _ S o BA bc KA kc hst hS hd (hBy.cap.below hb) hBn hbl)
 have HR := hid (hr.below hb)
 have HA := hid (all2_imp (fun _ _ h => FileR.below h hb) ha)
 have HB := hid hb
 have HX := hid hx
 have HY := hid hy
 have HZ := hid hz
 have HS := hid hS
 have HVl := hid (all2_len ha)
 have hfew : vs.length ≤ 8 := by rw [HVl.out]; exact hS.ok.few
 obtain ⟨W, hW⟩ : ∃ W, (((w.alloc (.cells (stC A vs.length c S).toArray 51)).alloc (.cells (opC o BA bc KA kc).toArray 76)).alloc (.cells zeroSt.toArray 51)) = W := ⟨_, rfl⟩
 rw [hW] at HC HR HA HB HX HY HZ
 have HWs : Hid (W.heap.size = w.heap.size + 1 + 1 + 1) := hid (by rw [← hW]; simp)
 clear hr ha hb hx hy hz hst hS h
 obtain ⟨S6, hS6⟩ : ∃ S6, (S.write o.n o.b).1 = S6 := ⟨_, rfl⟩
 rw [hS6] at HC ⊢
 clear hS6
 obtain ⟨zz, hzz⟩ : ∃ zz, (S.write o.n o.b).2 = zz := ⟨_, rfl⟩
 rw [hzz] at HC ⊢
 clear hzz
 unfold stV stC at *
 rw [hd] at HX HC hW ⊢
 clear hd
 go_enter Tryz.func36, Tryz.ntmps36
 have x0 := HX.out.c 0 rfl
 have x1 := HX.out.c 1 rfl
 have x2 := HX.out.c 2 rfl
 have x3 := HX.out.c 3 rfl
 have x4 := HX.out.c 4 rfl
 have x5 := HX.out.c 5 rfl
 have y0 := HY.out.c 0 rfl
 have y1 := HY.out.c 1 rfl
 have y2 := HY.out.c 2 rfl
 have y3 := HY.out.c 3 rfl
 have y4 := HY.out.c 4 rfl
 have y5 := HY.out.c 5 rfl
 have k5 : (o.k == 5) = false := beq_eq_false_iff_ne.2 (by omega)
 have k6 : (o.k == 6) = false := beq_eq_false_iff_ne.2 (by omega)
 have k7 : (o.k == 7) = false := beq_eq_false_iff_ne.2 (by omega)
 have k8 : (o.k == 8) = false := beq_eq_false_iff_ne.2 (by omega)
 have k0 : (o.k == 0) = true := beq_iff_eq.2 hkd
 clear hkd
 go_wp2_with fail
 clear hW x0 x1 x2 x3 x4 x5 y0 y1 y2 y3 y4 y5
 refine HC.out.mono ?_
 rintro e w1 ⟨v1, rfl, ⟨A1, c1, vs1, rfl, hr1, ha1⟩, hb1⟩
 have hz1 := HZ.out.below hb1
 have hws := HWs.out
 have Fin := hid (fin10e (f := Tryz.f36) (z := zz) (S := S6) (D' := DW D w) (c := c1) (HB.out.trans (hb1.mono HB.out.size)) (Nat.le_add_right _ 2) (fun k hk => by have hk' : (D k ∧ k < w.heap.size) ∨ W.heap.size ≤ k := hk; omega) (fun k hk => by
  have hk' : (D k ∧ k < w.heap.size) ∨ W.heap.size ≤ k := hk
  rcases hk' with h | h
  ·exact .inl h.1
  ·exact .inr (by omega)) hz1 hr1 ha1 rfl rfl)
 have hg0 : w.heap.size + 1 + 1 < w1.heap.size := hz1.lt
 have q0 := hz1.c 0 rfl
 have q1 := hz1.c 1 rfl
 have q2 := hz1.c 2 rfl
 have q3 := hz1.c 3 rfl
 have q4 := hz1.c 4 rfl
 have q5 := hz1.c 5 rfl
 have r0 := hz1.free 0
 have r1 := hz1.free 1
 have r2 := hz1.free 2
 have r3 := hz1.free 3
 have r4 := hz1.free 4
 have r5 := hz1.free 5
 unfold stV
 clear hz1 hr1 ha1 hb1 hws HC
 go_wp2_with fail
 exact Fin.out _ rfl rfl _ rfl
set_option maxHeartbeats 4000000 in
theorem rdo10_sync (w : World) (D : Nat → Prop) (v : Value) (S : FS) (o : OpF) (BA : Option Addr) (bc : Nat) (KA : Option Addr) (kc : Nat) (h : StAt w D v S) (hS : S.Fit) (hkd : o.k = 1) (hd : S.down = false) :
  Calls Tryz.prog 36 #[v, .agg (opC o BA bc KA kc).toArray] w fun e w' => ∃ v', e = .returned (.tuple #[v', .int .i64 (S.sync o.n).2]) ∧ StAt w' (DW D w) v' (S.sync o.n).1 ∧ Below w.heap.size w w' := by
 have hcap := h.cap
 obtain ⟨A, c, vs, rfl, hr, ha⟩ := hcap
 have hb := (((Below.refl _ w).alloc (Nat.le_refl _) (.cells (stC A vs.length c S).toArray 51)).alloc (by simp) (.cells (opC o BA bc KA kc).toArray 76)).alloc (by simp; omega) (.cells zeroSt.toArray 51)
 have hx := ((BxA.new w 51 (stC A vs.length c S)).alloc (.cells (opC o BA bc KA kc).toArray 76)).alloc (.cells zeroSt.toArray 51)
 have hy := (bx_new2 w (.cells (stC A vs.length c S).toArray 51) 76 (opC o BA bc KA kc)).alloc (.cells zeroSt.toArray 51)
 have hz := bx_new3 w (.cells (stC A vs.length c S).toArray 51) (.cells (opC o BA bc KA kc).toArray 76) 51 zeroSt
 have hst : StAt (((w.alloc (.cells (stC A vs.length c S).toArray 51)).alloc (.cells (opC o BA bc KA kc).toArray 76)).alloc (.cells zeroSt.toArray 51)) (fun k => D k ∧ k < w.heap.size) (stV A vs.length c S) S := StAt.below ⟨A, c, vs, rfl, hr, ha⟩ hb
 have HC := hid (rknown10_sync _ _ _ S o BA bc KA kc hst hS hd hkd)
 have HR := hid (hr.below hb)
 have HA := hid (all2_imp (fun _ _ h => FileR.below h hb) ha)
 have HB := hid hb
 have HX := hid hx
 have HY := hid hy
 have HZ := hid hz
 have HS := hid hS
 have HVl := hid (all2_len ha)
 have hfew : vs.length ≤ 8 := by rw [HVl.out]; exact hS.ok.few
 obtain ⟨W, hW⟩ : ∃ W, (((w.alloc (.cells (stC A vs.length c S).toArray 51)).alloc (.cells (opC o BA bc KA kc).toArray 76)).alloc (.cells zeroSt.toArray 51)) = W := ⟨_, rfl⟩
 rw [hW] at HC HR HA HB HX HY HZ
 have HWs : Hid (W.heap.size = w.heap.size + 1 + 1 + 1) := hid (by rw [← hW]; simp)
 clear hr ha hb hx hy hz hst hS h
 obtain ⟨S6, hS6⟩ : ∃ S6, (S.sync o.n).1 = S6 := ⟨_, rfl⟩
 rw [hS6] at HC ⊢
 clear hS6
 obtain ⟨zz, hzz⟩ : ∃ zz, (S.sync o.n).2 = zz := ⟨_, rfl⟩
 rw [hzz] at HC ⊢
 clear hzz
 unfold stV stC at *
 rw [hd] at HX HC hW ⊢
 clear hd
 go_enter Tryz.func36, Tryz.ntmps36
 have x0 := HX.out.c 0 rfl
 have x1 := HX.out.c 1 rfl
 have x2 := HX.out.c 2 rfl
 have x3 := HX.out.c 3 rfl
 have x4 := HX.out.c 4 rfl
 have x5 := HX.out.c 5 rfl
 have y0 := HY.out.c 0 rfl
 have y1 := HY.out.c 1 rfl
 have y2 := HY.out.c 2 rfl
 have y3 := HY.out.c 3 rfl
 have y4 := HY.out.c 4 rfl
 have y5 := HY.out.c 5 rfl
 have k5 : (o.k == 5) = false := beq_eq_false_iff_ne.2 (by omega)
 have k6 : (o.k == 6) = false := beq_eq_false_iff_ne.2 (by omega)
 have k7 : (o.k == 7) = false := beq_eq_false_iff_ne.2 (by omega)
 have k8 : (o.k == 8) = false := beq_eq_false_iff_ne.2 (by omega)
 have k0 : (o.k == 0) = false := beq_eq_false_iff_ne.2 (by omega)
 clear hkd
 go_wp2_with fail
 clear hW x0 x1 x2 x3 x4 x5 y0 y1 y2 y3 y4 y5
 refine HC.out.mono ?_
 rintro e w1 ⟨v1, rfl, ⟨A1, c1, vs1, rfl, hr1, ha1⟩, hb1⟩
 have hz1 := HZ.out.below hb1
 have hws := HWs.out
 have Fin := hid (fin10e (f := Tryz.f36) (z := zz) (S := S6) (D' := DW D w) (c := c1) (HB.out.trans (hb1.mono HB.out.size)) (Nat.le_add_right _ 2) (fun k hk => by have hk' : (D k ∧ k < w.heap.size) ∨ W.heap.size ≤ k := hk; omega) (fun k hk => by
  have hk' : (D k ∧ k < w.heap.size) ∨ W.heap.size ≤ k := hk
  rcases hk' with h | h
  ·exact .inl h.1
  ·exact .inr (by omega)) hz1 hr1 ha1 rfl rfl)
 have hg0 : w.heap.size + 1 + 1 < w1.heap.size := hz1.lt
 have q0 := hz1.c 0 rfl
 have q1 := hz1.c 1 rfl
 have q2 := hz1.c 2 rfl
 have q3 := hz1.c 3 rfl
 have q4 := hz1.c 4 rfl
 have q5 := hz1.c 5 rfl
 have r0 := hz1.free 0
 have r1 := hz1.free 1
 have r2 := hz1.free 2
 have r3 := hz1.free 3
 have r4 := hz1.free 4
 have r5 := hz1.free 5
 unfold stV
 clear hz1 hr1 ha1 hb1 hws HC
 go_wp2_with fail
 exact Fin.out _ rfl rfl _ rfl
set_option maxHeartbeats 4000000 in
theorem rdo10_rename (w : World) (D : Nat → Prop) (v : Value) (S : FS) (o : OpF) (BA : Option Addr) (bc : Nat) (KA : Option Addr) (kc : Nat) (h : StAt w D v S) (hS : S.Fit) (hkd : o.k = 2) (hd : S.down = false) :
  Calls Tryz.prog 36 #[v, .agg (opC o BA bc KA kc).toArray] w fun e w' => ∃ v', e = .returned (.tuple #[v', .int .i64 (S.rename o.n o.t).2]) ∧ StAt w' (DW D w) v' (S.rename o.n o.t).1 ∧ Below w.heap.size w w' := by
 have hcap := h.cap
 obtain ⟨A, c, vs, rfl, hr, ha⟩ := hcap
 have hb := (((Below.refl _ w).alloc (Nat.le_refl _) (.cells (stC A vs.length c S).toArray 51)).alloc (by simp) (.cells (opC o BA bc KA kc).toArray 76)).alloc (by simp; omega) (.cells zeroSt.toArray 51)
 have hx := ((BxA.new w 51 (stC A vs.length c S)).alloc (.cells (opC o BA bc KA kc).toArray 76)).alloc (.cells zeroSt.toArray 51)
 have hy := (bx_new2 w (.cells (stC A vs.length c S).toArray 51) 76 (opC o BA bc KA kc)).alloc (.cells zeroSt.toArray 51)
 have hz := bx_new3 w (.cells (stC A vs.length c S).toArray 51) (.cells (opC o BA bc KA kc).toArray 76) 51 zeroSt
 have hst : StAt (((w.alloc (.cells (stC A vs.length c S).toArray 51)).alloc (.cells (opC o BA bc KA kc).toArray 76)).alloc (.cells zeroSt.toArray 51)) (fun k => D k ∧ k < w.heap.size) (stV A vs.length c S) S := StAt.below ⟨A, c, vs, rfl, hr, ha⟩ hb
 have HC := hid (rknown10_rename _ _ _ S o BA bc KA kc hst hS hd hkd)
 have HR := hid (hr.below hb)
 have HA := hid (all2_imp (fun _ _ h => FileR.below h hb) ha)
 have HB := hid hb
 have HX := hid hx
 have HY := hid hy
 have HZ := hid hz
 have HS := hid hS
 have HVl := hid (all2_len ha)
 have hfew : vs.length ≤ 8 := by rw [HVl.out]; exact hS.ok.few
 obtain ⟨W, hW⟩ : ∃ W, (((w.alloc (.cells (stC A vs.length c S).toArray 51)).alloc (.cells (opC o BA bc KA kc).toArray 76)).alloc (.cells zeroSt.toArray 51)) = W := ⟨_, rfl⟩
 rw [hW] at HC HR HA HB HX HY HZ
 have HWs : Hid (W.heap.size = w.heap.size + 1 + 1 + 1) := hid (by rw [← hW]; simp)
 clear hr ha hb hx hy hz hst hS h
 obtain ⟨S6, hS6⟩ : ∃ S6, (S.rename o.n o.t).1 = S6 := ⟨_, rfl⟩
 rw [hS6] at HC ⊢
 clear hS6
 obtain ⟨zz, hzz⟩ : ∃ zz, (S.rename o.n o.t).2 = zz := ⟨_, rfl⟩
 rw [hzz] at HC ⊢
 clear hzz
 unfold stV stC at *
 rw [hd] at HX HC hW ⊢
 clear hd
 go_enter Tryz.func36, Tryz.ntmps36
 have x0 := HX.out.c 0 rfl
 have x1 := HX.out.c 1 rfl
 have x2 := HX.out.c 2 rfl
 have x3 := HX.out.c 3 rfl
 have x4 := HX.out.c 4 rfl
 have x5 := HX.out.c 5 rfl
 have y0 := HY.out.c 0 rfl
 have y1 := HY.out.c 1 rfl
 have y2 := HY.out.c 2 rfl
 have y3 := HY.out.c 3 rfl
 have y4 := HY.out.c 4 rfl
 have y5 := HY.out.c 5 rfl
 have k5 : (o.k == 5) = false := beq_eq_false_iff_ne.2 (by omega)
 have k6 : (o.k == 6) = false := beq_eq_false_iff_ne.2 (by omega)
 have k7 : (o.k == 7) = false := beq_eq_false_iff_ne.2 (by omega)
 have k8 : (o.k == 8) = false := beq_eq_false_iff_ne.2 (by omega)
 have k0 : (o.k == 0) = false := beq_eq_false_iff_ne.2 (by omega)
 clear hkd
 go_wp2_with fail
 clear hW x0 x1 x2 x3 x4 x5 y0 y1 y2 y3 y4 y5
 refine HC.out.mono ?_
 rintro e w1 ⟨v1, rfl, ⟨A1, c1, vs1, rfl, hr1, ha1⟩, hb1⟩
 have hz1 := HZ.out.below hb1
 have hws := HWs.out
 have Fin := hid (fin10e (f := Tryz.f36) (z := zz) (S := S6) (D' := DW D w) (c := c1) (HB.out.trans (hb1.mono HB.out.size)) (Nat.le_add_right _ 2) (fun k hk => by have hk' : (D k ∧ k < w.heap.size) ∨ W.heap.size ≤ k := hk; omega) (fun k hk => by
  have hk' : (D k ∧ k < w.heap.size) ∨ W.heap.size ≤ k := hk
  rcases hk' with h | h
  ·exact .inl h.1
  ·exact .inr (by omega)) hz1 hr1 ha1 rfl rfl)
 have hg0 : w.heap.size + 1 + 1 < w1.heap.size := hz1.lt
 have q0 := hz1.c 0 rfl
 have q1 := hz1.c 1 rfl
 have q2 := hz1.c 2 rfl
 have q3 := hz1.c 3 rfl
 have q4 := hz1.c 4 rfl
 have q5 := hz1.c 5 rfl
 have r0 := hz1.free 0
 have r1 := hz1.free 1
 have r2 := hz1.free 2
 have r3 := hz1.free 3
 have r4 := hz1.free 4
 have r5 := hz1.free 5
 unfold stV
 clear hz1 hr1 ha1 hb1 hws HC
 go_wp2_with fail
 exact Fin.out _ rfl rfl _ rfl
set_option maxHeartbeats 4000000 in
theorem rdo10_remove (w : World) (D : Nat → Prop) (v : Value) (S : FS) (o : OpF) (BA : Option Addr) (bc : Nat) (KA : Option Addr) (kc : Nat) (h : StAt w D v S) (hS : S.Fit) (hkd : o.k = 3) (hd : S.down = false) :
  Calls Tryz.prog 36 #[v, .agg (opC o BA bc KA kc).toArray] w fun e w' => ∃ v', e = .returned (.tuple #[v', .int .i64 (S.remove o.n).2]) ∧ StAt w' (DW D w) v' (S.remove o.n).1 ∧ Below w.heap.size w w' := by
 have hcap := h.cap
 obtain ⟨A, c, vs, rfl, hr, ha⟩ := hcap
 have hb := (((Below.refl _ w).alloc (Nat.le_refl _) (.cells (stC A vs.length c S).toArray 51)).alloc (by simp) (.cells (opC o BA bc KA kc).toArray 76)).alloc (by simp; omega) (.cells zeroSt.toArray 51)
 have hx := ((BxA.new w 51 (stC A vs.length c S)).alloc (.cells (opC o BA bc KA kc).toArray 76)).alloc (.cells zeroSt.toArray 51)
 have hy := (bx_new2 w (.cells (stC A vs.length c S).toArray 51) 76 (opC o BA bc KA kc)).alloc (.cells zeroSt.toArray 51)
 have hz := bx_new3 w (.cells (stC A vs.length c S).toArray 51) (.cells (opC o BA bc KA kc).toArray 76) 51 zeroSt
 have hst : StAt (((w.alloc (.cells (stC A vs.length c S).toArray 51)).alloc (.cells (opC o BA bc KA kc).toArray 76)).alloc (.cells zeroSt.toArray 51)) (fun k => D k ∧ k < w.heap.size) (stV A vs.length c S) S := StAt.below ⟨A, c, vs, rfl, hr, ha⟩ hb
 have HC := hid (rknown10_remove _ _ _ S o BA bc KA kc hst hS hd hkd)
 have HR := hid (hr.below hb)
 have HA := hid (all2_imp (fun _ _ h => FileR.below h hb) ha)
 have HB := hid hb
 have HX := hid hx
 have HY := hid hy
 have HZ := hid hz
 have HS := hid hS
 have HVl := hid (all2_len ha)
 have hfew : vs.length ≤ 8 := by rw [HVl.out]; exact hS.ok.few
 obtain ⟨W, hW⟩ : ∃ W, (((w.alloc (.cells (stC A vs.length c S).toArray 51)).alloc (.cells (opC o BA bc KA kc).toArray 76)).alloc (.cells zeroSt.toArray 51)) = W := ⟨_, rfl⟩
 rw [hW] at HC HR HA HB HX HY HZ
 have HWs : Hid (W.heap.size = w.heap.size + 1 + 1 + 1) := hid (by rw [← hW]; simp)
 clear hr ha hb hx hy hz hst hS h
 obtain ⟨S6, hS6⟩ : ∃ S6, (S.remove o.n).1 = S6 := ⟨_, rfl⟩
 rw [hS6] at HC ⊢
 clear hS6
 obtain ⟨zz, hzz⟩ : ∃ zz, (S.remove o.n).2 = zz := ⟨_, rfl⟩
 rw [hzz] at HC ⊢
 clear hzz
 unfold stV stC at *
 rw [hd] at HX HC hW ⊢
 clear hd
 go_enter Tryz.func36, Tryz.ntmps36
 have x0 := HX.out.c 0 rfl
 have x1 := HX.out.c 1 rfl
 have x2 := HX.out.c 2 rfl
 have x3 := HX.out.c 3 rfl
 have x4 := HX.out.c 4 rfl
 have x5 := HX.out.c 5 rfl
 have y0 := HY.out.c 0 rfl
 have y1 := HY.out.c 1 rfl
 have y2 := HY.out.c 2 rfl
 have y3 := HY.out.c 3 rfl
 have y4 := HY.out.c 4 rfl
 have y5 := HY.out.c 5 rfl
 have k5 : (o.k == 5) = false := beq_eq_false_iff_ne.2 (by omega)
 have k6 : (o.k == 6) = false := beq_eq_false_iff_ne.2 (by omega)
 have k7 : (o.k == 7) = false := beq_eq_false_iff_ne.2 (by omega)
 have k8 : (o.k == 8) = false := beq_eq_false_iff_ne.2 (by omega)
 have k0 : (o.k == 0) = false := beq_eq_false_iff_ne.2 (by omega)
 clear hkd
 go_wp2_with fail
 clear hW x0 x1 x2 x3 x4 x5 y0 y1 y2 y3 y4 y5
 refine HC.out.mono ?_
 rintro e w1 ⟨v1, rfl, ⟨A1, c1, vs1, rfl, hr1, ha1⟩, hb1⟩
 have hz1 := HZ.out.below hb1
 have hws := HWs.out
 have Fin := hid (fin10e (f := Tryz.f36) (z := zz) (S := S6) (D' := DW D w) (c := c1) (HB.out.trans (hb1.mono HB.out.size)) (Nat.le_add_right _ 2) (fun k hk => by have hk' : (D k ∧ k < w.heap.size) ∨ W.heap.size ≤ k := hk; omega) (fun k hk => by
  have hk' : (D k ∧ k < w.heap.size) ∨ W.heap.size ≤ k := hk
  rcases hk' with h | h
  ·exact .inl h.1
  ·exact .inr (by omega)) hz1 hr1 ha1 rfl rfl)
 have hg0 : w.heap.size + 1 + 1 < w1.heap.size := hz1.lt
 have q0 := hz1.c 0 rfl
 have q1 := hz1.c 1 rfl
 have q2 := hz1.c 2 rfl
 have q3 := hz1.c 3 rfl
 have q4 := hz1.c 4 rfl
 have q5 := hz1.c 5 rfl
 have r0 := hz1.free 0
 have r1 := hz1.free 1
 have r2 := hz1.free 2
 have r3 := hz1.free 3
 have r4 := hz1.free 4
 have r5 := hz1.free 5
 unfold stV
 clear hz1 hr1 ha1 hb1 hws HC
 go_wp2_with fail
 exact Fin.out _ rfl rfl _ rfl
set_option maxHeartbeats 4000000 in
theorem rdo10_cut (w : World) (D : Nat → Prop) (v : Value) (S : FS) (o : OpF) (BA : Option Addr) (bc : Nat) (KA : Option Addr) (kc : Nat) (h : StAt w D v S) (hS : S.Fit) (hkd : o.k = 4) (hd : S.down = false) :
  Calls Tryz.prog 36 #[v, .agg (opC o BA bc KA kc).toArray] w fun e w' => ∃ v', e = .returned (.tuple #[v', .int .i64 (S.cut o.n o.i).2]) ∧ StAt w' (DW D w) v' (S.cut o.n o.i).1 ∧ Below w.heap.size w w' := by
 have hcap := h.cap
 obtain ⟨A, c, vs, rfl, hr, ha⟩ := hcap
 have hb := (((Below.refl _ w).alloc (Nat.le_refl _) (.cells (stC A vs.length c S).toArray 51)).alloc (by simp) (.cells (opC o BA bc KA kc).toArray 76)).alloc (by simp; omega) (.cells zeroSt.toArray 51)
 have hx := ((BxA.new w 51 (stC A vs.length c S)).alloc (.cells (opC o BA bc KA kc).toArray 76)).alloc (.cells zeroSt.toArray 51)
 have hy := (bx_new2 w (.cells (stC A vs.length c S).toArray 51) 76 (opC o BA bc KA kc)).alloc (.cells zeroSt.toArray 51)
 have hz := bx_new3 w (.cells (stC A vs.length c S).toArray 51) (.cells (opC o BA bc KA kc).toArray 76) 51 zeroSt
 have hst : StAt (((w.alloc (.cells (stC A vs.length c S).toArray 51)).alloc (.cells (opC o BA bc KA kc).toArray 76)).alloc (.cells zeroSt.toArray 51)) (fun k => D k ∧ k < w.heap.size) (stV A vs.length c S) S := StAt.below ⟨A, c, vs, rfl, hr, ha⟩ hb
 have HC := hid (rknown10_cut _ _ _ S o BA bc KA kc hst hS hd hkd)
 have HR := hid (hr.below hb)
 have HA := hid (all2_imp (fun _ _ h => FileR.below h hb) ha)
 have HB := hid hb
 have HX := hid hx
 have HY := hid hy
 have HZ := hid hz
 have HS := hid hS
 have HVl := hid (all2_len ha)
 have hfew : vs.length ≤ 8 := by rw [HVl.out]; exact hS.ok.few
 obtain ⟨W, hW⟩ : ∃ W, (((w.alloc (.cells (stC A vs.length c S).toArray 51)).alloc (.cells (opC o BA bc KA kc).toArray 76)).alloc (.cells zeroSt.toArray 51)) = W := ⟨_, rfl⟩
 rw [hW] at HC HR HA HB HX HY HZ
 have HWs : Hid (W.heap.size = w.heap.size + 1 + 1 + 1) := hid (by rw [← hW]; simp)
 clear hr ha hb hx hy hz hst hS h
 obtain ⟨S6, hS6⟩ : ∃ S6, (S.cut o.n o.i).1 = S6 := ⟨_, rfl⟩
 rw [hS6] at HC ⊢
 clear hS6
 obtain ⟨zz, hzz⟩ : ∃ zz, (S.cut o.n o.i).2 = zz := ⟨_, rfl⟩
 rw [hzz] at HC ⊢
 clear hzz
 unfold stV stC at *
 rw [hd] at HX HC hW ⊢
 clear hd
 go_enter Tryz.func36, Tryz.ntmps36
 have x0 := HX.out.c 0 rfl
 have x1 := HX.out.c 1 rfl
 have x2 := HX.out.c 2 rfl
 have x3 := HX.out.c 3 rfl
 have x4 := HX.out.c 4 rfl
 have x5 := HX.out.c 5 rfl
 have y0 := HY.out.c 0 rfl
 have y1 := HY.out.c 1 rfl
 have y2 := HY.out.c 2 rfl
 have y3 := HY.out.c 3 rfl
 have y4 := HY.out.c 4 rfl
 have y5 := HY.out.c 5 rfl
 have k5 : (o.k == 5) = false := beq_eq_false_iff_ne.2 (by omega)
 have k6 : (o.k == 6) = false := beq_eq_false_iff_ne.2 (by omega)
 have k7 : (o.k == 7) = false := beq_eq_false_iff_ne.2 (by omega)
 have k8 : (o.k == 8) = false := beq_eq_false_iff_ne.2 (by omega)
 have k0 : (o.k == 0) = false := beq_eq_false_iff_ne.2 (by omega)
 clear hkd
 go_wp2_with fail
 clear hW x0 x1 x2 x3 x4 x5 y0 y1 y2 y3 y4 y5
 refine HC.out.mono ?_
 rintro e w1 ⟨v1, rfl, ⟨A1, c1, vs1, rfl, hr1, ha1⟩, hb1⟩
 have hz1 := HZ.out.below hb1
 have hws := HWs.out
 have Fin := hid (fin10e (f := Tryz.f36) (z := zz) (S := S6) (D' := DW D w) (c := c1) (HB.out.trans (hb1.mono HB.out.size)) (Nat.le_add_right _ 2) (fun k hk => by have hk' : (D k ∧ k < w.heap.size) ∨ W.heap.size ≤ k := hk; omega) (fun k hk => by
  have hk' : (D k ∧ k < w.heap.size) ∨ W.heap.size ≤ k := hk
  rcases hk' with h | h
  ·exact .inl h.1
  ·exact .inr (by omega)) hz1 hr1 ha1 rfl rfl)
 have hg0 : w.heap.size + 1 + 1 < w1.heap.size := hz1.lt
 have q0 := hz1.c 0 rfl
 have q1 := hz1.c 1 rfl
 have q2 := hz1.c 2 rfl
 have q3 := hz1.c 3 rfl
 have q4 := hz1.c 4 rfl
 have q5 := hz1.c 5 rfl
 have r0 := hz1.free 0
 have r1 := hz1.free 1
 have r2 := hz1.free 2
 have r3 := hz1.free 3
 have r4 := hz1.free 4
 have r5 := hz1.free 5
 unfold stV
 clear hz1 hr1 ha1 hb1 hws HC
 go_wp2_with fail
 exact Fin.out _ rfl rfl _ rfl
theorem rdo10_calls (w : World) (D : Nat → Prop) (v : Value) (S : FS) (o : OpF) (BA : Option Addr) (bc : Nat) (KA : Option Addr) (kc : Nat) (h : StAt w D v S) (hS : S.Fit) (h0 : 0 ≤ o.k) (h8 : o.k ≤ 8) (hBy : ByR w D BA o.b) (hBn : BA = none → bc = 0) (hbl : o.b.length ≤ 1000000) (hK : RowT boolC w D KA o.ks) (hkl : o.ks.length ≤ 100000) :
  Calls Tryz.prog 36 #[v, .agg (opC o BA bc KA kc).toArray] w fun e w' => ∃ v', e = .returned (.tuple #[v', .int .i64 (doF S o).2]) ∧ StAt w' (DW D w) v' (doF S o).1 ∧ Below w.heap.size w w' := by
 have hdown : S.down = true → ∀ n x t i, (S.write n x = (S, 100)) ∧ S.sync n = (S, 100) ∧ S.rename n t = (S, 100) ∧ S.remove n = (S, 100) ∧ S.cut n i = (S, 100) := fun hd n x t i => by
  unfold FS.write FS.sync FS.rename FS.remove FS.cut FS.known
  simp [hd]
 unfold doF
 by_cases h5 : o.k = 5
 ·rw [if_pos h5]; exact rdo10_arm w D v S o BA bc KA kc h hS h5
 by_cases h6 : o.k = 6
 ·rw [if_neg h5, if_pos h6]; exact rdo10_fault w D v S o BA bc KA kc h hS h6
 by_cases h7 : o.k = 7
 ·rw [if_neg h5, if_neg h6, if_pos h7]; exact rdo10_crash w D v S o BA bc KA kc h hS h7 hK hkl
 by_cases h9 : o.k = 8
 ·rw [if_neg h5, if_neg h6, if_neg h7, if_pos h9]; exact rdo10_copy w D v S o BA bc KA kc h hS h9
 rw [if_neg h5, if_neg h6, if_neg h7, if_neg h9]
 cases hd : S.down with
 | true =>
  obtain ⟨e1, e2, e3, e4, e5⟩ := hdown hd o.n o.b o.t o.i
  rw [e1, e2, e3, e4, e5]
  have : (if o.k = 0 then (S, (100 : Int)) else if o.k = 1 then (S, 100) else if o.k = 2 then (S, 100) else if o.k = 3 then (S, 100) else (S, 100)) = (S, 100) := by
   repeat' split
   all_goals rfl
  rw [this]
  exact rdo10_down w D v S o BA bc KA kc h hS h0 (by omega) hd
 | false =>
  by_cases k0 : o.k = 0
  ·rw [if_pos k0]; exact rdo10_write w D v S o BA bc KA kc h hS k0 hd hBy hBn hbl
  by_cases k1 : o.k = 1
  ·rw [if_neg k0, if_pos k1]; exact rdo10_sync w D v S o BA bc KA kc h hS k1 hd
  by_cases k2 : o.k = 2
  ·rw [if_neg k0, if_neg k1, if_pos k2]; exact rdo10_rename w D v S o BA bc KA kc h hS k2 hd
  by_cases k3 : o.k = 3
  ·rw [if_neg k0, if_neg k1, if_neg k2, if_pos k3]; exact rdo10_remove w D v S o BA bc KA kc h hS k3 hd
  ·rw [if_neg k0, if_neg k1, if_neg k2, if_neg k3]; exact rdo10_cut w D v S o BA bc KA kc h hS (by omega) hd
end
section
open Go Go.RowKit
open Go.Lib (hid)
set_option maxRecDepth 100000
set_option maxHeartbeats 2000000 in
theorem rhas12_calls (w : World) (D : Nat → Prop) (v : Value) (S : FS) (n : ByteArray) (h : StAt w D v S) (hl : S.l.length ≤ 1000) :
  Calls Tryz.prog 71 #[v, .string n] w fun e w' => e = .returned (.bool (hasJ S n)) ∧ Below w.heap.size w w' := by
 obtain ⟨A, c, vs, rfl, hr, ha⟩ := h
 have HLen := hid (all2_len ha)
 have hvl : vs.length ≤ 1000 := by have := HLen.out; omega
 clear hl
 have hb := (Below.refl _ w).alloc (Nat.le_refl _) (.cells (stC A vs.length c S).toArray 51)
 have hx := BxA.new w 51 (stC A vs.length c S)
 have x0 := hx.c 0 rfl
 have H := hid (hr.below hb)
 have HA := hid ha
 have HB := hid hb
 clear hr ha hb hx
 unfold stV
 go_enter Tryz.func71, Tryz.ntmps71
 obtain ⟨W, hW⟩ : ∃ W, w.alloc (.cells (stC A vs.length c S).toArray 51) = W := ⟨_, rfl⟩
 rw [hW] at H HB x0
 go_wp2_with fail
 clear hW
 go_loopw [5] (fun v5 wr => ∃ k : Nat, k ≤ vs.length ∧ v5 = .int .i64 (k : Int) ∧ Hid (∀ j g, j < k → S.l[j]? = some g → g.name ≠ n) ∧ wr = W) (fun v5 _ => vs.length - (intOf v5).toNat)
 case atStart => exact ⟨0, Nat.zero_le _, rfl, hid (fun j g hj => by omega), rfl⟩
 case round =>
  obtain ⟨k, hk, rfl, hno, rfl⟩ := hrel
  by_cases hlt : k < vs.length
  ·obtain ⟨g, o, q, rfl, hg, hq, c0, c1, c2⟩ := file_at H.out hlt
   obtain ⟨f, hf, hfr⟩ := all2_get HA.out hq
   have hkl : (k : Int) < (vs.length : Int) := by omega
   have hname := hfr.name
   have HF := hid hf
   clear hq hf hfr c1 c2
   by_cases hn : q.name = n
   ·have t1 : (q.name.toList == n.toList) = true := by rw [tl_beq]; exact decide_eq_true hn
    have HFd : Hid (hasJ S n = true) := hid (by unfold hasJ; rw [found_here HF.out (by rw [← hname, hn]) hno.out]; rfl)
    clear hn hname hno
    go_wp2_with fail
    go_ret
    exact ⟨by rw [HFd.out]; rfl, HB.out⟩
   ·have t1 : (q.name.toList == n.toList) = false := by rw [tl_beq]; exact decide_eq_false hn
    have HN : Hid (∀ j g, j < k + 1 → S.l[j]? = some g → g.name ≠ n) := hid (fun j g hj hg => by
     by_cases e : j = k
     ·subst e
      rw [HF.out] at hg
      injection hg with hg
      rw [← hg, ← hname]
      exact hn
     ·exact hno.out j g (by omega) hg)
    clear hn hname hno
    go_wp2_with fail
    go_roundw
    case rel => exact ⟨k + 1, by omega, by go_num, HN, trivial⟩
    case measure => simp [intOf]; omega
  ·obtain rfl : k = vs.length := by omega
   have HFd : Hid (hasJ S n = false) := hid (by
    unfold hasJ
    rw [findF_none.2 fun f hf => by
     obtain ⟨j, hj, rfl⟩ := List.mem_iff_getElem.1 hf
     exact hno.out j _ (by have := HLen.out; omega) (List.getElem?_eq_getElem hj)]
    rfl)
   clear hno
   go_wp2_with fail
   go_ret
   exact ⟨by rw [HFd.out]; rfl, HB.out⟩
end
section
open Go Go.RowKit
open Go.Lib (hid)
set_option maxRecDepth 100000
set_option maxHeartbeats 4000000 in
theorem rclear12_calls (w : World) (D : Nat → Prop) (v : Value) (S : FS) (n : ByteArray) (hn : n.size ≤ 137438953472) (h : StAt w D v S) (hS : S.Fit) :
  Calls Tryz.prog 72 #[v, .string n] w fun e w' => ∃ v', e = .returned (.tuple #[v', .int .i64 (clearJ S n).2]) ∧ StAt w' (DW D w) v' (clearJ S n).1 ∧ Below w.heap.size w w' := by
 have hcap := h.cap
 obtain ⟨A, c, vs, rfl, hr, ha⟩ := hcap
 have hb := ((Below.refl _ w).alloc (Nat.le_refl _) (.cells (stC A vs.length c S).toArray 51)).alloc (by simp) (.cells zeroSt.toArray 51)
 have hx := (BxA.new w 51 (stC A vs.length c S)).alloc (.cells zeroSt.toArray 51)
 have hz := bx_new2 w (.cells (stC A vs.length c S).toArray 51) 51 zeroSt
 have hst : StAt ((w.alloc (.cells (stC A vs.length c S).toArray 51)).alloc (.cells zeroSt.toArray 51)) (fun k => D k ∧ k < w.heap.size) (stV A vs.length c S) S := StAt.below ⟨A, c, vs, rfl, hr, ha⟩ hb
 have HSt := hid hst
 have HR := hid (hr.below hb)
 have HA := hid (all2_imp (fun _ _ h => FileR.below h hb) ha)
 have HB := hid hb
 have HX := hid hx
 have HZ := hid hz
 have HS := hid hS
 obtain ⟨W, hW⟩ : ∃ W, ((w.alloc (.cells (stC A vs.length c S).toArray 51)).alloc (.cells zeroSt.toArray 51)) = W := ⟨_, rfl⟩
 rw [hW] at HSt HR HA HB HX HZ
 have HWs : Hid (W.heap.size = w.heap.size + 1 + 1) := hid (by rw [← hW]; simp)
 clear hr ha hb hx hz hst hS h
 have HFew : Hid (S.l.length ≤ 1000) := hid (by have := HS.out.ok.few; omega)
 have HH := hid (rhas12_calls W _ _ S (otJ n) HSt.out HFew.out)
 unfold stV stC at *
 go_enter Tryz.func72, Tryz.ntmps72
 have x0 := HX.out.c 0 rfl
 have x1 := HX.out.c 1 rfl
 have x2 := HX.out.c 2 rfl
 have x3 := HX.out.c 3 rfl
 have x4 := HX.out.c 4 rfl
 have x5 := HX.out.c 5 rfl
 go_wp2_with fail
 refine HH.out.mono ?_
 rintro e w1 ⟨rfl, hb1⟩
 have HB1 := hid hb1
 clear x0 x1 x2 x3 x4 x5 hb1 HH hW
 have x0 := (HX.out.below HB1.out).c 0 rfl
 have x1 := (HX.out.below HB1.out).c 1 rfl
 have x2 := (HX.out.below HB1.out).c 2 rfl
 have x3 := (HX.out.below HB1.out).c 3 rfl
 have x4 := (HX.out.below HB1.out).c 4 rfl
 have x5 := (HX.out.below HB1.out).c 5 rfl
 cases hh : hasJ S (otJ n) with
 | false =>
  have HE : Hid (clearJ S n = (S, 0)) := hid (by unfold clearJ; rw [hh]; rfl)
  clear hh
  have z0 := (HZ.out.below HB1.out).c 0 rfl
  have z1 := (HZ.out.below HB1.out).c 1 rfl
  have z2 := (HZ.out.below HB1.out).c 2 rfl
  have z3 := (HZ.out.below HB1.out).c 3 rfl
  have z4 := (HZ.out.below HB1.out).c 4 rfl
  have z5 := (HZ.out.below HB1.out).c 5 rfl
  have f0 := (HZ.out.below HB1.out).free 0
  have f1 := (HZ.out.below HB1.out).free 1
  have f2 := (HZ.out.below HB1.out).free 2
  have f3 := (HZ.out.below HB1.out).free 3
  have f4 := (HZ.out.below HB1.out).free 4
  have f5 := (HZ.out.below HB1.out).free 5
  go_wp2_with fail
  rw [HE.out]
  exact fin10e (HB.out.trans (HB1.out.mono HB.out.size)) (by omega) (D := fun k => D k ∧ k < w.heap.size) (fun k hk => by have := hk.2; omega) (fun k hk => .inl hk.1) (HZ.out.below HB1.out) (HR.out.below HB1.out) (all2_imp (fun _ _ h => FileR.below h HB1.out) HA.out) rfl rfl _ rfl rfl _ rfl
 | true =>
  have HE : Hid (clearJ S n = doF S ⟨3, otJ n, ⟨#[]⟩, [], 0, []⟩) := hid (by unfold clearJ; rw [hh]; rfl)
  clear hh
  go_wp2_with fail
  refine (rdo10_calls w1 (fun k => D k ∧ k < w.heap.size) _ S ⟨3, otJ n, ⟨#[]⟩, [], 0, []⟩ none 0 none 0 (HSt.out.below HB1.out) HS.out (show (0 : Int) ≤ 3 by decide) (show (3 : Int) ≤ 8 by decide) (fun hn => absurd hn (Nat.lt_irrefl 0)) (fun _ => rfl) (by simp) (fun hn => absurd hn (Nat.lt_irrefl 0)) (by simp)).mono ?_
  rintro x wd ⟨vd, rfl, hsd, hbd⟩
  obtain ⟨Ad, cd, vsd, rfl, hrd, had⟩ := hsd
  have HBD : Hid (Below w.heap.size w wd) := hid (HB.out.trans ((HB1.out.trans (hbd.mono HB1.out.size)).mono HB.out.size))
  have HZD := hid (HZ.out.below (HB1.out.trans (hbd.mono HB1.out.size)))
  have HRD := hid hrd
  have HAD := hid had
  clear hrd had hbd
  generalize doF S ⟨3, otJ n, ⟨#[]⟩, [], 0, []⟩ = q at *
  unfold stV
  clear x0 x1 x2 x3 x4 x5
  have z0 := HZD.out.c 0 rfl
  have z1 := HZD.out.c 1 rfl
  have z2 := HZD.out.c 2 rfl
  have z3 := HZD.out.c 3 rfl
  have z4 := HZD.out.c 4 rfl
  have z5 := HZD.out.c 5 rfl
  have f0 := HZD.out.free 0
  have f1 := HZD.out.free 1
  have f2 := HZD.out.free 2
  have f3 := HZD.out.free 3
  have f4 := HZD.out.free 4
  have f5 := HZD.out.free 5
  go_wp2_with fail
  rw [HE.out]
  exact fin10e (HBD.out) (by omega) (D := DW (fun k => D k ∧ k < w.heap.size) w1) (fun k hk => Or.elim hk (fun hk => by have := hk.2; omega) (fun hk => by have h1 := HB1.out.size; have h2 := HWs.out; omega)) (fun k hk => Or.elim hk (fun hk => .inl hk.1) (fun hk => .inr (by have h1 := HB1.out.size; have h2 := HB.out.size; omega))) HZD.out HRD.out HAD.out rfl rfl _ rfl rfl _ rfl
end
end Go.Proofs.YteafcaambnfdoaaGreatDoor
