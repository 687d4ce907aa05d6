/-
  Layer 7 and what it stands on, part 40 (FWriteN).
-/
import Derived.Test.YteafcaambnfdoaaGreatDoorPq1
import Derived.Test.YteafcaambnfdoaaGreatDoorPq20
import Derived.Deep.Cut
namespace Go.Proofs.YteafcaambnfdoaaGreatDoor
section
open Go Go.RowKit
open Go.Lib (hid)
set_option maxRecDepth 100000
set_option maxHeartbeats 16000000 in
theorem rwrite10_new (w : World) (D : Nat → Prop) (v : Value) (S : FS) (o : OpF) (BA : Option Addr) (bc : Nat) (KA : Option Addr) (kc : Nat) (h : StAt w D v S) (hS : S.Fit) (hd : S.down = false) (hB : ByR w D BA o.b) (hBn : BA = none → bc = 0) (hbl : o.b.length ≤ 1000000) (hnm : nameF o.n = true) (hfn : findF S.l o.n = none) (hroom : S.l.length < 8) :
  Calls Tryz.prog 74 #[v, .agg (opC o BA bc KA kc).toArray] w fun e w' => ∃ v', e = .returned (.tuple #[v', .int .i64 (S.write o.n o.b).2]) ∧ StAt w' (DW D w) v' (S.write o.n o.b).1 ∧ Below w.heap.size w w' := by
 have hcap := h.cap
 obtain ⟨A, c, vs, rfl, hr, ha⟩ := hcap
 have hb := (((Below.refl _ w).alloc (Nat.le_refl _) (.cells (stC A vs.length c S).toArray 51)).alloc (by simp) (.cells (opC o BA bc KA kc).toArray 76)).alloc (by simp; omega) (.cells zeroSt.toArray 51)
 have hx := ((BxA.new w 51 (stC A vs.length c S)).alloc (.cells (opC o BA bc KA kc).toArray 76)).alloc (.cells zeroSt.toArray 51)
 have hy := (bx_new2 w (.cells (stC A vs.length c S).toArray 51) 76 (opC o BA bc KA kc)).alloc (.cells zeroSt.toArray 51)
 have hz := bx_new3 w (.cells (stC A vs.length c S).toArray 51) (.cells (opC o BA bc KA kc).toArray 76) 51 zeroSt
 have hst : StAt (((w.alloc (.cells (stC A vs.length c S).toArray 51)).alloc (.cells (opC o BA bc KA kc).toArray 76)).alloc (.cells zeroSt.toArray 51)) (fun k => D k ∧ k < w.heap.size) (stV A vs.length c S) S := StAt.below ⟨A, c, vs, rfl, hr, ha⟩ hb
 have HF := hid (rfind10_calls _ _ _ S o.n hst (by have := hS.ok.few; omega))
 have HR := hid (hr.below hb)
 have HA := hid (all2_imp (fun _ _ h => FileR.below h hb) ha)
 have HB := hid hb
 have HX := hid hx
 have HY := hid hy
 have HZ := hid hz
 have HS := hid hS
 have HVl := hid (all2_len ha)
 have HBr := hid (hB.cap.below hb)
 have HBn := hid hBn
 have HDn := hid hd
 clear hB hBn hd
 have hfew : vs.length ≤ 8 := by rw [HVl.out]; exact hS.ok.few
 obtain ⟨W, hW⟩ : ∃ W, (((w.alloc (.cells (stC A vs.length c S).toArray 51)).alloc (.cells (opC o BA bc KA kc).toArray 76)).alloc (.cells zeroSt.toArray 51)) = W := ⟨_, rfl⟩
 rw [hW] at HBr HF HR HA HB HX HY HZ
 have HWs : Hid (W.heap.size = w.heap.size + 1 + 1 + 1) := hid (by rw [← hW]; simp)
 clear hr ha hb hx hy hz hst hS h
 unfold stV stC at *
 go_enter Tryz.func74, Tryz.ntmps74
 have x0 := HX.out.c 0 rfl
 have x1 := HX.out.c 1 rfl
 have x2 := HX.out.c 2 rfl
 have x3 := HX.out.c 3 rfl
 have x4 := HX.out.c 4 rfl
 have x5 := HX.out.c 5 rfl
 have y0 := HY.out.c 0 rfl
 have y1 := HY.out.c 1 rfl
 have y2 := HY.out.c 2 rfl
 have y3 := HY.out.c 3 rfl
 have y4 := HY.out.c 4 rfl
 have y5 := HY.out.c 5 rfl
 have HE : Hid (S.write o.n o.b = if nameF o.n = false ∨ (findF S.l o.n).isNone ∧ 8 ≤ S.l.length then (S, 101) else if 65536 < (S.found o.n).all.length + o.b.length then (S, 103) else
  if S.fault = 0 then (S.burn.count, if S.burn.count.down then 100 else 102) else (S.burn.count.put (S.found o.n) o.b, if S.burn.count.down then 100 else 0)) := hid (by
  unfold FS.write
  rw [HDn.out, if_neg (by simp)])
 go_wp2_with fail
 clear hW x0 x1 x2 x3 x4 x5 y0 y1 y2 y3 y4 y5
 refine HF.out.mono ?_
 rintro e w1 ⟨z, rfl, hz, hb1⟩
 have HB1 := hid hb1
 clear hb1 HF
 have n12 : ¬ o.n.size < 1 ∧ ¬ 20 < o.n.size := by
  rcases name_cases o.n with ⟨_, n3⟩ | ⟨_, _, n3⟩ | ⟨n1, n2, _⟩
  ·rw [hnm] at n3; cases n3
  ·rw [hnm] at n3; cases n3
  ·exact ⟨n1, n2⟩
 have m1 : decide ((o.n.size : Int) < 1) = false := decide_eq_false (by omega)
 have m2 : decide ((20 : Int) < (o.n.size : Int)) = false := decide_eq_false (by omega)
 rcases hz with ⟨rfl, _⟩ | ⟨k, f, rfl, hk, hf, hfd⟩
 ·have m3 : decide ((8 : Int) ≤ (vs.length : Int)) = false := decide_eq_false (by rw [HVl.out]; omega)
  have HNb : Hid (¬ (nameF o.n = false ∨ (findF S.l o.n).isNone ∧ 8 ≤ S.l.length)) := hid (fun e => by
   rcases e with e | ⟨_, e⟩
   ·rw [hnm] at e; cases e
   ·omega)
  have hfr : FileR w1 (fun k => D k ∧ k < w.heap.size) ⟨o.n, none, 0, 0, none, 0, 0⟩ (S.found o.n) := by
   rw [show S.found o.n = ⟨o.n, [], []⟩ by unfold FS.found; rw [hfn]; rfl]
   exact ⟨rfl, rfl, fun h => absurd h (Nat.lt_irrefl 0), fun _ => rfl, rfl, fun _ => rfl, [], fun h => absurd h (Nat.lt_irrefl 0), .nil⟩
  have hfname : (S.found o.n).name = o.n := by unfold FS.found; rw [hfn]; rfl
  have h8 : vs.length < 8 := by rw [HVl.out]; exact hroom
  have HFnm := hid hfname
  clear hfname hfn hroom hnm n12
  have hbF := (Below.refl w1.heap.size w1).alloc (Nat.le_refl _) (.cells #[.string o.n, .slice none 0 0, .slice none 0 0] 130)
  have hxF := BxA.new w1 130 [.string o.n, .slice none 0 0, .slice none 0 0]
  have hfok : Behind (S.found o.n).b.length (S.found o.n).row ∧ (S.found o.n).all.length ≤ 65536 ∧ (S.found o.n).row.length ≤ 100000 := by
   rcases HS.out.ok.found o.n with ⟨_, h2, _⟩ | ⟨_, h3⟩
   ·exact ⟨HS.out.ok.beh _ h2, HS.out.ok.siz _ h2, HS.out.rows _ h2⟩
   ·rw [h3]; exact ⟨trivial, Nat.zero_le _, Nat.zero_le _⟩
  have HC := hid (rbytes10_calls (w1.alloc (.cells #[.string o.n, .slice none 0 0, .slice none 0 0] 130)) _ ⟨o.n, none, 0, 0, none, 0, 0⟩ (S.found o.n) (hfr.below hbF) hfok.1 (by omega) (by omega))
  have HFr := hid (hfr.below hbF)
  have HXF := hid hxF
  have HOk := hid hfok
  have HBF := hid hbF
  clear hbF hxF hfok hfr
  have hx := HX.out.below HB1.out
  have hy := HY.out.below HB1.out
  have hz := HZ.out.below HB1.out
  have x0 := hx.c 0 rfl
  have x1 := hx.c 1 rfl
  have x2 := hx.c 2 rfl
  have x3 := hx.c 3 rfl
  have x4 := hx.c 4 rfl
  have x5 := hx.c 5 rfl
  have y0 := hy.c 0 rfl
  have y1 := hy.c 1 rfl
  have y2 := hy.c 2 rfl
  have y3 := hy.c 3 rfl
  have y4 := hy.c 4 rfl
  have y5 := hy.c 5 rfl
  have q0 := hz.c 0 rfl
  have q1 := hz.c 1 rfl
  have q2 := hz.c 2 rfl
  have q3 := hz.c 3 rfl
  have q4 := hz.c 4 rfl
  have q5 := hz.c 5 rfl
  clear hx hy hz
  go_wp2_with fail
  clear x0 x1 x2 x3 x4 x5 y0 y1 y2 y3 y4 y5 q0 q1 q2 q3 q4 q5
  refine HC.out.mono ?_
  rintro e w2 ⟨u, rfl, hown, hb2⟩
  obtain ⟨UA, uc, rfl⟩ := own_form hown
  have HB2 := hid ((HB1.out.trans (HBF.out.mono HB1.out.size)).trans (hb2.mono (Nat.le_trans HB1.out.size HBF.out.size)))
  have HXF2 := hid (HXF.out.below hb2)
  have HFr2 := hid (HFr.out.below hb2)
  have HW2s : Hid (w1.heap.size + 1 ≤ w2.heap.size) := hid (by have := hb2.size; simpa using this)
  clear hown hb2 HC
  have hx := HX.out.below HB2.out
  have hy := HY.out.below HB2.out
  have hz := HZ.out.below HB2.out
  have x0 := hx.c 0 rfl
  have x1 := hx.c 1 rfl
  have x2 := hx.c 2 rfl
  have x3 := hx.c 3 rfl
  have x4 := hx.c 4 rfl
  have x5 := hx.c 5 rfl
  have y0 := hy.c 0 rfl
  have y1 := hy.c 1 rfl
  have y2 := hy.c 2 rfl
  have y3 := hy.c 3 rfl
  have y4 := hy.c 4 rfl
  have y5 := hy.c 5 rfl
  have q0 := hz.c 0 rfl
  have q1 := hz.c 1 rfl
  have q2 := hz.c 2 rfl
  have q3 := hz.c 3 rfl
  have q4 := hz.c 4 rfl
  have q5 := hz.c 5 rfl
  have r0 := hz.free 0
  have r1 := hz.free 1
  have r2 := hz.free 2
  have r3 := hz.free 3
  have r4 := hz.free 4
  have r5 := hz.free 5
  have f0 := hx.free 0
  have f1 := hx.free 1
  have f2 := hx.free 2
  have f3 := hx.free 3
  have f4 := hx.free 4
  have f5 := hx.free 5
  clear hx hy hz
  have c0 := HXF2.out.c 0 rfl
  have c1 := HXF2.out.c 1 rfl
  have c2 := HXF2.out.c 2 rfl
  have d0 := HXF2.out.free 0
  have d1 := HXF2.out.free 1
  have d2 := HXF2.out.free 2
  by_cases hsz : 65536 < (S.found o.n).all.length + o.b.length
  ·have hszi : (65536 : Int) < ((S.found o.n).all.length : Int) + (o.b.length : Int) := by omega
   have HEE : Hid (S.write o.n o.b = (S, 103)) := hid (by rw [HE.out, if_neg (HNb.out), if_pos hsz])
   have hws := HWs.out
   have hsz1 := HB2.out.size
   have Fin := hid (fin10e (f := Tryz.f74) (z := 103) (D := fun k => D k ∧ k < w.heap.size) (D' := DW D w) (c := c) (HB.out.trans (HB2.out.mono HB.out.size)) (Nat.le_add_right _ 2) (fun k hk => by have := hk.2; omega) (fun k hk => .inl hk.1) (HZ.out.below HB2.out) (HR.out.below HB2.out) (all2_imp (fun _ _ h => FileR.below h HB2.out) HA.out) rfl rfl)
   have hg0 : w.heap.size + 1 + 1 < w2.heap.size := by omega
   have hal := HOk.out.2.1
   clear hws hsz1
   go_wp2_with fail
   rw [HEE.out]
   exact Fin.out _ rfl rfl _ rfl
  ·have hszi : ¬ (65536 : Int) < ((S.found o.n).all.length : Int) + (o.b.length : Int) := by omega
   rw [if_neg HNb.out, if_neg hsz] at HE
   have hal := HOk.out.2.1
   have hfl := HS.out.ok.flt
   have hfm := HS.out.fault
   have hfu := HS.out.ok.fus
   have hfn2 := HS.out.fuse
   have hop := HS.out.ops
   have hno := HS.out.no
   by_cases hf0 : S.fault = 0
   ·have hbv : S.burn.fault = -1 := by unfold FS.burn; simp only; rw [if_pos (by omega), hf0]; rfl
    rw [if_pos hf0] at HE
    have hob : Only (fun k => k = w.heap.size) w2 (w2.setCell ⟨w.heap.size, 4, none⟩ (.int .i64 (-1))) := ((Only.refl (fun k => k = w.heap.size) w2).set (p := ⟨w.heap.size, 4, none⟩) (.inl rfl) _)
    have hws := HWs.out
    have hs2 := HB2.out.size
    have hD : ∀ i, (D i ∧ i < w.heap.size) → ¬ i = w.heap.size := fun i hi => by omega
    have hst : StAt (w2.setCell ⟨w.heap.size, 4, none⟩ (.int .i64 (-1))) (fun k => D k ∧ k < w.heap.size) (.agg #[.slice A vs.length c, .int .i64 (S.no : Int), .int .i64 (S.ops : Int), .int .i64 S.fuse, .int .i64 (-1), .bool S.down]) S.burn := ⟨A, c, vs, by unfold stV; rw [hbv]; rfl, (HR.out.below HB2.out).keep hob hD, all2_imp (fun _ _ h => (FileR.below h HB2.out).keep hob hD) HA.out⟩
    have HCt := hid (rcount10_calls (w2.setCell ⟨w.heap.size, 4, none⟩ (.int .i64 (-1))) _ _ S.burn hst (by show S.ops ≤ 1000000; omega) hfu hfn2)
    have HFr3 := hid (HFr2.out.keep hob hD)
    have HBr3 := hid ((HBr.out.below HB2.out).keep hob hD)
    have HXF3 := hid (HXF2.out.keep hob (by have := HB1.out.size; omega))
    have HX3 : Hid (BxA (w2.setCell ⟨w.heap.size, 4, none⟩ (.int .i64 (-1))) w.heap.size 51 [.slice A vs.length c, .int .i64 (S.no : Int), .int .i64 (S.ops : Int), .int .i64 S.fuse, .int .i64 (-1), .bool S.down]) := hid ((HX.out.below HB2.out).set 4 _)
    have HY3 := hid ((HY.out.below HB2.out).keep hob (by omega))
    have HZ3 := hid ((HZ.out.below HB2.out).keep hob (by omega))
    have HB3 := hid ((HB.out.trans (HB2.out.mono HB.out.size)).trans (hob.below (Nat.le_trans HB.out.size hs2) (fun k e => by omega)))
    have HS3 : Hid (w2.heap.size ≤ (w2.setCell ⟨w.heap.size, 4, none⟩ (.int .i64 (-1))).heap.size) := hid hob.size
    have hgl : w.heap.size < w2.heap.size := by omega
    clear hws hs2 hob hst hD
    go_wp2_with fail
    clear x0 x1 x2 x3 x4 x5 y0 y1 y2 y3 y4 y5 q0 q1 q2 q3 q4 q5 r0 r1 r2 r3 r4 r5 f0 f1 f2 f3 f4 f5 c0 c1 c2 d0 d1 d2
    refine HCt.out.mono ?_
    rintro e w3 ⟨v3, rfl, ⟨A3, c3, vs3, rfl, hr3, ha3⟩, hb3⟩
    obtain ⟨T, hT⟩ : ∃ T, S.burn.count = T := ⟨_, rfl⟩
    rw [hT] at HE ha3 ⊢
    have HT := hid hT
    have hx3 := HX3.out.below hb3
    have hws := HWs.out
    have hs3 := hb3.size
    have hs2 := HS3.out
    have hs1 := HB2.out.size
    have hsix := six_only w3 w.heap.size (.slice A3 vs3.length c3) (.int .i64 (T.no : Int)) (.int .i64 (T.ops : Int)) (.int .i64 T.fuse) (.int .i64 T.fault) (.bool T.down)
    have hxx := six_box hx3 (.slice A3 vs3.length c3) (.int .i64 (T.no : Int)) (.int .i64 (T.ops : Int)) (.int .i64 T.fuse) (.int .i64 T.fault) (.bool T.down)
    have hD : ∀ i, (D i ∧ i < w.heap.size) → ¬ i = w.heap.size := fun i hi => by omega
    have HR4 := hid (hr3.keep hsix hD)
    have HA4 := hid (all2_imp (fun _ _ h => FileR.keep h hsix hD) ha3)
    have HFr4 := hid ((HFr3.out.below hb3).keep hsix hD)
    have HBr4 := hid ((HBr3.out.below hb3).keep hsix hD)
    have HXF4 := hid ((HXF3.out.below hb3).keep hsix (by have := HB1.out.size; omega))
    have HY4 := hid ((HY3.out.below hb3).keep hsix (by omega))
    have HZ4 := hid ((HZ3.out.below hb3).keep hsix (by omega))
    have HB4 := hid ((HB3.out.trans (hb3.mono HB3.out.size)).trans (hsix.below (Nat.le_trans HB3.out.size hs3) (fun k e => by omega)))
    have HX4 := hid hxx
    have HS4 : Hid (w2.heap.size ≤ w3.heap.size) := hid (Nat.le_trans hs2 hs3)
    have HS5 : Hid (w3.heap.size ≤ (six w3 w.heap.size (.slice A3 vs3.length c3) (.int .i64 (T.no : Int)) (.int .i64 (T.ops : Int)) (.int .i64 T.fuse) (.int .i64 T.fault) (.bool T.down)).heap.size) := hid hsix.size
    have x0 := hx3.c 0 rfl
    have x1 := hx3.c 1 rfl
    have x2 := hx3.c 2 rfl
    have x3 := hx3.c 3 rfl
    have x4 := hx3.c 4 rfl
    have x5 := hx3.c 5 rfl
    have f0 := hx3.free 0
    have f1 := hx3.free 1
    have f2 := hx3.free 2
    have f3 := hx3.free 3
    have f4 := hx3.free 4
    have f5 := hx3.free 5
    have hgl3 : w.heap.size < w3.heap.size := by omega
    obtain ⟨W4, hW4⟩ : ∃ W4, six w3 w.heap.size (.slice A3 vs3.length c3) (.int .i64 (T.no : Int)) (.int .i64 (T.ops : Int)) (.int .i64 T.fuse) (.int .i64 T.fault) (.bool T.down) = W4 := ⟨_, rfl⟩
    rw [hW4] at HR4 HA4 HFr4 HBr4 HXF4 HY4 HZ4 HB4 HX4 HS5
    unfold six at hW4
    clear hws hs1 hs2 hs3 hsix hxx hx3 hD hr3 ha3 hb3 hT HCt HX3 HY3 HZ3 HFr3 HXF3 HBr3
    unfold stV
    have hx := HX4.out
    have hy := HY4.out
    have hz := HZ4.out
    have hxf := HXF4.out
    have x40 := hx.c 0 rfl
    have x41 := hx.c 1 rfl
    have x42 := hx.c 2 rfl
    have x43 := hx.c 3 rfl
    have x44 := hx.c 4 rfl
    have x45 := hx.c 5 rfl
    have f40 := hx.free 0
    have f41 := hx.free 1
    have f42 := hx.free 2
    have f43 := hx.free 3
    have f44 := hx.free 4
    have f45 := hx.free 5
    have y40 := hy.c 0 rfl
    have y41 := hy.c 1 rfl
    have y42 := hy.c 2 rfl
    have y43 := hy.c 3 rfl
    have y44 := hy.c 4 rfl
    have y45 := hy.c 5 rfl
    have q40 := hz.c 0 rfl
    have q41 := hz.c 1 rfl
    have q42 := hz.c 2 rfl
    have q43 := hz.c 3 rfl
    have q44 := hz.c 4 rfl
    have q45 := hz.c 5 rfl
    have r40 := hz.free 0
    have r41 := hz.free 1
    have r42 := hz.free 2
    have r43 := hz.free 3
    have r44 := hz.free 4
    have r45 := hz.free 5
    have c40 := hxf.c 0 rfl
    have c41 := hxf.c 1 rfl
    have c42 := hxf.c 2 rfl
    have d40 := hxf.free 0
    have d41 := hxf.free 1
    have d42 := hxf.free 2
    clear hx hy hz hxf
    have hg4 : w.heap.size + 1 + 1 < W4.heap.size := by have := HS5.out; have := HS4.out; have := HB2.out.size; have := HWs.out; omega
    cases hTd : T.down with
    | true =>
     rw [hTd, if_pos rfl] at HE
     have Fin := hid (fin10e (f := Tryz.f74) (z := 100) (S := T) (D := fun k => D k ∧ k < w.heap.size) (D' := DW D w) (c := c3) HB4.out (Nat.le_add_right _ 2) (fun k hk => by have := hk.2; omega) (fun k hk => .inl hk.1) HZ4.out HR4.out HA4.out rfl rfl)
     rw [hTd] at hW4 x45 Fin
     go_wp2_with fail
     rw [HE.out]
     exact Fin.out _ rfl rfl _ rfl
    | false =>
     rw [hTd, if_neg (by simp)] at HE
     have Fin := hid (fin10e (f := Tryz.f74) (z := 102) (S := T) (D := fun k => D k ∧ k < w.heap.size) (D' := DW D w) (c := c3) HB4.out (Nat.le_add_right _ 2) (fun k hk => by have := hk.2; omega) (fun k hk => .inl hk.1) HZ4.out HR4.out HA4.out rfl rfl)
     rw [hTd] at hW4 x45 Fin
     go_wp2_with fail
     rw [HE.out]
     exact Fin.out _ rfl rfl _ rfl
   ·rw [if_neg hf0] at HE
    have hf0b : (S.fault == 0) = false := beq_eq_false_iff_ne.2 hf0
    by_cases hfp : 0 ≤ S.fault
    ·have hbv : S.burn.fault = S.fault - 1 := by unfold FS.burn; simp only; rw [if_pos hfp]
     have hwr : IntKind.i64.wrap (S.fault - 1) = S.fault - 1 := IntWalk.i64_in _ (by omega)
     have hob : Only (fun k => k = w.heap.size) w2 (w2.setCell ⟨w.heap.size, 4, none⟩ (.int .i64 (S.fault - 1))) := ((Only.refl (fun k => k = w.heap.size) w2).set (p := ⟨w.heap.size, 4, none⟩) (.inl rfl) _)
     have hws := HWs.out
     have hs2 := HB2.out.size
     have hD : ∀ i, (D i ∧ i < w.heap.size) → ¬ i = w.heap.size := fun i hi => by omega
     have hst : StAt (w2.setCell ⟨w.heap.size, 4, none⟩ (.int .i64 (S.fault - 1))) (fun k => D k ∧ k < w.heap.size) (.agg #[.slice A vs.length c, .int .i64 (S.no : Int), .int .i64 (S.ops : Int), .int .i64 S.fuse, .int .i64 (S.fault - 1), .bool S.down]) S.burn := ⟨A, c, vs, by unfold stV; rw [hbv]; rfl, (HR.out.below HB2.out).keep hob hD, all2_imp (fun _ _ h => (FileR.below h HB2.out).keep hob hD) HA.out⟩
     have HCt := hid (rcount10_calls (w2.setCell ⟨w.heap.size, 4, none⟩ (.int .i64 (S.fault - 1))) _ _ S.burn hst (by show S.ops ≤ 1000000; omega) hfu hfn2)
     have HFr3 := hid (HFr2.out.keep hob hD)
     have HBr3 := hid ((HBr.out.below HB2.out).keep hob hD)
     have HXF3 := hid (HXF2.out.keep hob (by have := HB1.out.size; omega))
     have HX3 : Hid (BxA (w2.setCell ⟨w.heap.size, 4, none⟩ (.int .i64 (S.fault - 1))) w.heap.size 51 [.slice A vs.length c, .int .i64 (S.no : Int), .int .i64 (S.ops : Int), .int .i64 S.fuse, .int .i64 (S.fault - 1), .bool S.down]) := hid ((HX.out.below HB2.out).set 4 _)
     have HY3 := hid ((HY.out.below HB2.out).keep hob (by omega))
     have HZ3 := hid ((HZ.out.below HB2.out).keep hob (by omega))
     have HB3 := hid ((HB.out.trans (HB2.out.mono HB.out.size)).trans (hob.below (Nat.le_trans HB.out.size hs2) (fun k e => by omega)))
     have HS3 : Hid (w2.heap.size ≤ (w2.setCell ⟨w.heap.size, 4, none⟩ (.int .i64 (S.fault - 1))).heap.size) := hid hob.size
     have hgl : w.heap.size < w2.heap.size := by omega
     clear hws hs2 hob hst hD
     go_wp2_with fail
     clear x0 x1 x2 x3 x4 x5 y0 y1 y2 y3 y4 y5 q0 q1 q2 q3 q4 q5 r0 r1 r2 r3 r4 r5 f0 f1 f2 f3 f4 f5 c0 c1 c2 d0 d1 d2
     refine HCt.out.mono ?_
     rintro e w3 ⟨v3, rfl, ⟨A3, c3, vs3, rfl, hr3, ha3⟩, hb3⟩
     obtain ⟨T, hT⟩ : ∃ T, S.burn.count = T := ⟨_, rfl⟩
     rw [hT] at HE ha3 ⊢
     have HT := hid hT
     have hx3 := HX3.out.below hb3
     have hws := HWs.out
     have hs3 := hb3.size
     have hs2 := HS3.out
     have hs1 := HB2.out.size
     have hsix := six_only w3 w.heap.size (.slice A3 vs3.length c3) (.int .i64 (T.no : Int)) (.int .i64 (T.ops : Int)) (.int .i64 T.fuse) (.int .i64 T.fault) (.bool T.down)
     have hxx := six_box hx3 (.slice A3 vs3.length c3) (.int .i64 (T.no : Int)) (.int .i64 (T.ops : Int)) (.int .i64 T.fuse) (.int .i64 T.fault) (.bool T.down)
     have hD : ∀ i, (D i ∧ i < w.heap.size) → ¬ i = w.heap.size := fun i hi => by omega
     have HR4 := hid (hr3.keep hsix hD)
     have HA4 := hid (all2_imp (fun _ _ h => FileR.keep h hsix hD) ha3)
     have HFr4 := hid ((HFr3.out.below hb3).keep hsix hD)
     have HBr4 := hid ((HBr3.out.below hb3).keep hsix hD)
     have HXF4 := hid ((HXF3.out.below hb3).keep hsix (by have := HB1.out.size; omega))
     have HY4 := hid ((HY3.out.below hb3).keep hsix (by omega))
     have HZ4 := hid ((HZ3.out.below hb3).keep hsix (by omega))
     have HB4 := hid ((HB3.out.trans (hb3.mono HB3.out.size)).trans (hsix.below (Nat.le_trans HB3.out.size hs3) (fun k e => by omega)))
     have HX4 := hid hxx
     have HS4 : Hid (w2.heap.size ≤ w3.heap.size) := hid (Nat.le_trans hs2 hs3)
     have HS5 : Hid (w3.heap.size ≤ (six w3 w.heap.size (.slice A3 vs3.length c3) (.int .i64 (T.no : Int)) (.int .i64 (T.ops : Int)) (.int .i64 T.fuse) (.int .i64 T.fault) (.bool T.down)).heap.size) := hid hsix.size
     have x0 := hx3.c 0 rfl
     have x1 := hx3.c 1 rfl
     have x2 := hx3.c 2 rfl
     have x3 := hx3.c 3 rfl
     have x4 := hx3.c 4 rfl
     have x5 := hx3.c 5 rfl
     have f0 := hx3.free 0
     have f1 := hx3.free 1
     have f2 := hx3.free 2
     have f3 := hx3.free 3
     have f4 := hx3.free 4
     have f5 := hx3.free 5
     have hgl3 : w.heap.size < w3.heap.size := by omega
     obtain ⟨W4, hW4⟩ : ∃ W4, six w3 w.heap.size (.slice A3 vs3.length c3) (.int .i64 (T.no : Int)) (.int .i64 (T.ops : Int)) (.int .i64 T.fuse) (.int .i64 T.fault) (.bool T.down) = W4 := ⟨_, rfl⟩
     rw [hW4] at HR4 HA4 HFr4 HBr4 HXF4 HY4 HZ4 HB4 HX4 HS5
     unfold six at hW4
     clear hws hs1 hs2 hs3 hsix hxx hx3 hD hr3 ha3 hb3 hT HCt HX3 HY3 HZ3 HFr3 HXF3 HBr3
     unfold stV
     have hx := HX4.out
     have hy := HY4.out
     have hz := HZ4.out
     have hxf := HXF4.out
     have x40 := hx.c 0 rfl
     have x41 := hx.c 1 rfl
     have x42 := hx.c 2 rfl
     have x43 := hx.c 3 rfl
     have x44 := hx.c 4 rfl
     have x45 := hx.c 5 rfl
     have f40 := hx.free 0
     have f41 := hx.free 1
     have f42 := hx.free 2
     have f43 := hx.free 3
     have f44 := hx.free 4
     have f45 := hx.free 5
     have y40 := hy.c 0 rfl
     have y41 := hy.c 1 rfl
     have y42 := hy.c 2 rfl
     have y43 := hy.c 3 rfl
     have y44 := hy.c 4 rfl
     have y45 := hy.c 5 rfl
     have q40 := hz.c 0 rfl
     have q41 := hz.c 1 rfl
     have q42 := hz.c 2 rfl
     have q43 := hz.c 3 rfl
     have q44 := hz.c 4 rfl
     have q45 := hz.c 5 rfl
     have r40 := hz.free 0
     have r41 := hz.free 1
     have r42 := hz.free 2
     have r43 := hz.free 3
     have r44 := hz.free 4
     have r45 := hz.free 5
     have c40 := hxf.c 0 rfl
     have c41 := hxf.c 1 rfl
     have c42 := hxf.c 2 rfl
     have d40 := hxf.free 0
     have d41 := hxf.free 1
     have d42 := hxf.free 2
     clear hx hy hz hxf
     have hg4 : w.heap.size + 1 + 1 < W4.heap.size := by have := HS5.out; have := HS4.out; have := HB2.out.size; have := HWs.out; omega
     obtain ⟨ps, hprow, hpall⟩ := HFr4.out.row
     have hrn : 0 = ps.length := by have h1 := HFr4.out.rn; have h2 := all2_len hpall; (try simp only at h1); omega
     have HRow := hid hprow
     have HPall := hid hpall
     have HNilR : Hid (none = none → 0 = 0) := hid HFr4.out.rnil
     have HPl : Hid (ps.length ≤ 100000) := hid (by have h1 := HOk.out.2.2; have h2 := all2_len hpall; omega)
     have HKeep : Hid (∀ W', Below W4.heap.size W4 W' → (fun w' => w'.cell? ⟨w1.heap.size, 2, none⟩ = some (.slice none 0 0) ∧ w'.cell? ⟨w.heap.size, 1, none⟩ = some (.int .i64 (T.no : Int)) ∧ w'.cell? ⟨w.heap.size + 1, 3, none⟩ = some (.slice BA o.b.length bc)) W') := hid (fun W' hb => ⟨(HXF4.out.below hb).c 2 rfl, (HX4.out.below hb).c 1 rfl, (HY4.out.below hb).c 3 rfl⟩)
     have HRn := hid hrn
     clear hprow hpall hrn
     go_upto_region 15 with fail
     go_cut [81] from 69 (fun s36 wc => ∃ A' c' wz, s36 = .slice A' (ps.length + 1) c' ∧ wc = wz.setCell ⟨w1.heap.size, 2, none⟩ (.slice A' (ps.length + 1) c') ∧ Hid (SnocP W4 ps ⟨T.no, (S.found o.n).all.length, BA, o.b.length, bc⟩ A' c' wz))
     case first =>
      refine wp_region_last (S := (fun w' => w'.cell? ⟨w1.heap.size, 2, none⟩ = some (.slice none 0 0) ∧ w'.cell? ⟨w.heap.size, 1, none⟩ = some (.int .i64 (T.no : Int)) ∧ w'.cell? ⟨w.heap.size + 1, 3, none⟩ = some (.slice BA o.b.length bc))) 14 (by kernel_rfl) (HKeep.out _ (Below.refl _ W4).drew) (fun hHeld => ?_)
      refine tkL 1 ?_
      refine tkL 2 ?_
      refine tkL 4 ?_
      refine tkL 5 ?_
      refine tkL 6 ?_
      refine tkL 7 ?_
      refine tkL 8 ?_
      refine tkL 9 ?_
      refine tkL 10 ?_
      refine lastAny_ready (rs := [0, 11]) (by kernel_rfl) (by simp) ?_
      refine AllReadyL.cons (o := ⟨some 69, _, _, _, _, _⟩) rfl (fun K hK => ?_) (AllReadyL.cons (o := ⟨some 80, _, _, _, _, _⟩) rfl (fun K hK => ?_) AllReadyL.nil)
      ·(rw [if_pos (by kernel_rfl)])
       go_simp
       refine hK.out _ _ (HKeep.out _ ((Below.refl _ W4).drew.alloc (Nat.le_refl _) (.cells #[] 151))) (fun hHeld => ?_)
       clear hK K
       refine lastAny_ready (rs := [3, 11]) (by kernel_rfl) (by simp) ?_
       refine AllReadyL.cons (o := ⟨some 72, _, _, _, _, _⟩) rfl (fun K hK => ?_) (AllReadyL.cons (o := ⟨some 80, _, _, _, _, _⟩) rfl (fun K hK => ?_) AllReadyL.nil)
       ·obtain ⟨v2, wa, hr1, hb2, A', c', wz, hr2, hf⟩ := snocPA W4.drew none 0 ps ⟨T.no, (S.found o.n).all.length, BA, o.b.length, bc⟩ (HRow.out : RowT partC W4.drew (fun k => D k ∧ k < w.heap.size) none ps) (by first | exact HNilR.out | (intro _; rfl)) HPl.out
        rw [show W4.drew.heap.size = W4.heap.size from rfl] at hr1 hb2
        (try rw [show W4.drew.heap.size = W4.heap.size from rfl] at hr2)
        rw [← HRn.out] at hr1
        have Hr1 := hid hr1
        have Hr2 := hid hr2
        have HF := hid hf.undrew
        have HBa : Hid (Below W4.heap.size W4 wa) := hid ⟨hb2.os, hb2.tape, hb2.output, hb2.size, hb2.block⟩
        have hbz : Below W4.heap.size W4 wz := ⟨hf.1.os, hf.1.tape, hf.1.output, hf.1.size, hf.1.block⟩
        have HBz := hid hbz
        have cz := (HXF4.out.below hbz).c 2 rfl
        have fz := (HXF4.out.below hbz).free 2
        clear hr1 hr2 hf hb2 hbz
        refine step_append_g (by kernel_rfl) (.tmp 69) (.tmp 71) 128 rfl _ _ rfl rfl Hr1.out ?_
        refine hK.out _ _ (HKeep.out _ (HBa.out)) (fun hHeld => ?_)
        clear hK K
        refine rdL 11 fun K hK => ?_
        go_simp
        refine hK.out _ _ (HKeep.out _ (HBa.out.alloc HBa.out.size _)) (fun hHeld => ?_)
        clear hK K
        refine lastAny_ready (rs := [12]) (by kernel_rfl) (by simp) ?_
        refine AllReadyL.cons (o := ⟨some 81, _, _, _, _, _⟩) rfl (fun K hK => ?_) AllReadyL.nil
        refine step_append_g (by kernel_rfl) (.tmp 72) (.tmp 80) 128 rfl _ _ rfl rfl Hr2.out ?_
        refine hK.out _ _ (HKeep.out _ (HBz.out)) (fun hHeld => ?_)
        clear hK K
        refine tkL 13 ?_
        refine enL fun K hK => ?_
        go_simp
        refine hK.out _ _ ?_
        clear hK K
        clear Hr1 Hr2
        go_wp2_with fail
        go_meet
        exact ⟨A', c', wz, rfl, rfl, HF⟩
       ·(rw [if_pos (by kernel_rfl)])
        go_simp
        refine hK.out _ _ (HKeep.out _ (((Below.refl _ W4).drew.alloc (Nat.le_refl _) (.cells #[] 151)).alloc (by simp) (.cells #[.int .i64 (T.no : Int), .int .i64 ((S.found o.n).all.length : Int), .slice BA o.b.length bc] 151))) (fun hHeld => ?_)
        clear hK K
        obtain ⟨v2, wa, hr1, hb2, A', c', wz, hr2, hf⟩ := snocPB W4.drew none 0 ps ⟨T.no, (S.found o.n).all.length, BA, o.b.length, bc⟩ (HRow.out : RowT partC W4.drew (fun k => D k ∧ k < w.heap.size) none ps) (by first | exact HNilR.out | (intro _; rfl)) HPl.out
        rw [show W4.drew.heap.size = W4.heap.size from rfl] at hr1 hb2
        (try rw [show W4.drew.heap.size = W4.heap.size from rfl] at hr2)
        rw [← HRn.out] at hr1
        have Hr1 := hid hr1
        have Hr2 := hid hr2
        have HF := hid hf.undrew
        have HBa : Hid (Below W4.heap.size W4 wa) := hid ⟨hb2.os, hb2.tape, hb2.output, hb2.size, hb2.block⟩
        have hbz : Below W4.heap.size W4 wz := ⟨hf.1.os, hf.1.tape, hf.1.output, hf.1.size, hf.1.block⟩
        have HBz := hid hbz
        have cz := (HXF4.out.below hbz).c 2 rfl
        have fz := (HXF4.out.below hbz).free 2
        clear hr1 hr2 hf hb2 hbz
        refine lastAny_ready (rs := [3]) (by kernel_rfl) (by simp) ?_
        refine AllReadyL.cons (o := ⟨some 72, _, _, _, _, _⟩) rfl (fun K hK => ?_) AllReadyL.nil
        refine step_append_g (by kernel_rfl) (.tmp 69) (.tmp 71) 128 rfl _ _ rfl rfl Hr1.out ?_
        refine hK.out _ _ (HKeep.out _ (HBa.out)) (fun hHeld => ?_)
        clear hK K
        refine lastAny_ready (rs := [12]) (by kernel_rfl) (by simp) ?_
        refine AllReadyL.cons (o := ⟨some 81, _, _, _, _, _⟩) rfl (fun K hK => ?_) AllReadyL.nil
        refine step_append_g (by kernel_rfl) (.tmp 72) (.tmp 80) 128 rfl _ _ rfl rfl Hr2.out ?_
        refine hK.out _ _ (HKeep.out _ (HBz.out)) (fun hHeld => ?_)
        clear hK K
        refine tkL 13 ?_
        refine enL fun K hK => ?_
        go_simp
        refine hK.out _ _ ?_
        clear hK K
        clear Hr1 Hr2
        go_wp2_with fail
        go_meet
        exact ⟨A', c', wz, rfl, rfl, HF⟩
      ·(rw [if_pos (by kernel_rfl)])
       go_simp
       refine hK.out _ _ (HKeep.out _ ((Below.refl _ W4).drew.alloc (Nat.le_refl _) (.cells #[.int .i64 (T.no : Int), .int .i64 ((S.found o.n).all.length : Int), .slice BA o.b.length bc] 151))) (fun hHeld => ?_)
       clear hK K
       refine rdL 0 fun K hK => ?_
       go_simp
       refine hK.out _ _ (HKeep.out _ (((Below.refl _ W4).drew.alloc (Nat.le_refl _) (.cells #[.int .i64 (T.no : Int), .int .i64 ((S.found o.n).all.length : Int), .slice BA o.b.length bc] 151)).alloc (by simp) (.cells #[] 151))) (fun hHeld => ?_)
       clear hK K
       obtain ⟨v2, wa, hr1, hb2, A', c', wz, hr2, hf⟩ := snocPC W4.drew none 0 ps ⟨T.no, (S.found o.n).all.length, BA, o.b.length, bc⟩ (HRow.out : RowT partC W4.drew (fun k => D k ∧ k < w.heap.size) none ps) (by first | exact HNilR.out | (intro _; rfl)) HPl.out
       rw [show W4.drew.heap.size = W4.heap.size from rfl] at hr1 hb2
       (try rw [show W4.drew.heap.size = W4.heap.size from rfl] at hr2)
       rw [← HRn.out] at hr1
       have Hr1 := hid hr1
       have Hr2 := hid hr2
       have HF := hid hf.undrew
       have HBa : Hid (Below W4.heap.size W4 wa) := hid ⟨hb2.os, hb2.tape, hb2.output, hb2.size, hb2.block⟩
       have hbz : Below W4.heap.size W4 wz := ⟨hf.1.os, hf.1.tape, hf.1.output, hf.1.size, hf.1.block⟩
       have HBz := hid hbz
       have cz := (HXF4.out.below hbz).c 2 rfl
       have fz := (HXF4.out.below hbz).free 2
       clear hr1 hr2 hf hb2 hbz
       refine lastAny_ready (rs := [3]) (by kernel_rfl) (by simp) ?_
       refine AllReadyL.cons (o := ⟨some 72, _, _, _, _, _⟩) rfl (fun K hK => ?_) AllReadyL.nil
       refine step_append_g (by kernel_rfl) (.tmp 69) (.tmp 71) 128 rfl _ _ rfl rfl Hr1.out ?_
       refine hK.out _ _ (HKeep.out _ (HBa.out)) (fun hHeld => ?_)
       clear hK K
       refine lastAny_ready (rs := [12]) (by kernel_rfl) (by simp) ?_
       refine AllReadyL.cons (o := ⟨some 81, _, _, _, _, _⟩) rfl (fun K hK => ?_) AllReadyL.nil
       refine step_append_g (by kernel_rfl) (.tmp 72) (.tmp 80) 128 rfl _ _ rfl rfl Hr2.out ?_
       refine hK.out _ _ (HKeep.out _ (HBz.out)) (fun hHeld => ?_)
       clear hK K
       refine tkL 13 ?_
       refine enL fun K hK => ?_
       go_simp
       refine hK.out _ _ ?_
       clear hK K
       clear Hr1 Hr2
       go_wp2_with fail
       go_meet
       exact ⟨A', c', wz, rfl, rfl, HF⟩
     case rest =>
      obtain ⟨A', c', wz, rfl, hwc, HF⟩ := hcut
      have hbz := HF.out.1
      have hs5 := HS5.out
      have hs4 := HS4.out
      have hs2 := HW2s.out
      have hs1 := HB1.out.size
      have hws := HWs.out
      have hTno : T.no = S.no := by rw [← HT.out]; rfl
      have hTl : T.l = S.l := by rw [← HT.out]; rfl
      have bX : BxA wc w.heap.size 51 [.slice A3 vs3.length c3, .int .i64 (T.no : Int), .int .i64 (T.ops : Int), .int .i64 T.fuse, .int .i64 T.fault, .bool T.down] := by rw [hwc]; exact (HX4.out.below hbz).other (by omega) _
      have bZ : BxA wc (w.heap.size + 2) 51 zeroSt := by rw [hwc]; exact (HZ4.out.below hbz).other (by omega) _
      have bF : BxA wc w1.heap.size 130 [.string o.n, .slice none 0 0, .slice A' (ps.length + 1) c'] := by rw [hwc]; exact (HXF4.out.below hbz).set 2 _
      have hO5 : Only (fun k => k = w1.heap.size ∨ k = w.heap.size) W4 (wc.setCell ⟨w.heap.size, 1, none⟩ (.int .i64 ((T.no : Int) + 1))) := by
       rw [hwc]
       exact ((Only.of_below (R := fun k => k = w1.heap.size ∨ k = w.heap.size) hbz).set (p := ⟨w1.heap.size, 2, none⟩) (.inl (.inl rfl)) _).set (p := ⟨w.heap.size, 1, none⟩) (.inl (.inr rfl)) _
      have hOz : Only (fun k => k = w1.heap.size ∨ k = w.heap.size) wz (wc.setCell ⟨w.heap.size, 1, none⟩ (.int .i64 ((T.no : Int) + 1))) := by
       rw [hwc]
       exact ((Only.refl (fun k => k = w1.heap.size ∨ k = w.heap.size) wz).set (p := ⟨w1.heap.size, 2, none⟩) (.inl (.inl rfl)) _).set (p := ⟨w.heap.size, 1, none⟩) (.inl (.inr rfl)) _
      have bX5 := bX.set 1 (.int .i64 ((T.no : Int) + 1))
      have bZ5 := bZ.other (g := w.heap.size) (i := 1) (by omega) (.int .i64 ((T.no : Int) + 1))
      have bF5 := bF.other (g := w.heap.size) (i := 1) (by omega) (.int .i64 ((T.no : Int) + 1))
      have hB5 : Below w.heap.size w (wc.setCell ⟨w.heap.size, 1, none⟩ (.int .i64 ((T.no : Int) + 1))) := HB4.out.trans (hO5.below HB4.out.size (fun k e => by omega))
      have hz5 := hOz.size
      have hz4 := hbz.size
      have hd0 : ∀ i, (D i ∧ i < w.heap.size) → ¬ (i = w1.heap.size ∨ i = w.heap.size) := fun i hi => by omega
      have hdz : ∀ i, (W4.heap.size ≤ i ∧ i < wz.heap.size) → ¬ (i = w1.heap.size ∨ i = w.heap.size) := fun i hi => by omega
      have e1 : ((T.no + 1 : Nat) : Int) = (T.no : Int) + 1 := by omega
      have hst5 : StAt (wc.setCell ⟨w.heap.size, 1, none⟩ (.int .i64 ((T.no : Int) + 1))) (fun k => (D k ∧ k < w.heap.size) ∨ W4.heap.size ≤ k) (.agg #[.slice A3 vs3.length c3, .int .i64 ((T.no : Int) + 1), .int .i64 (T.ops : Int), .int .i64 T.fuse, .int .i64 T.fault, .bool T.down]) { T with no := T.no + 1 } :=
       ⟨A3, c3, vs3, congrArg (fun z => Value.agg #[.slice A3 vs3.length c3, .int .i64 z, .int .i64 (T.ops : Int), .int .i64 T.fuse, .int .i64 T.fault, .bool T.down]) e1.symm, (HR4.out.keep hO5 hd0).mono (fun _ h => .inl h), all2_imp (fun _ _ h => (FileR.keep h hO5 hd0).mono (fun _ h => .inl h)) HA4.out⟩
      have hfr5 : FileR (wc.setCell ⟨w.heap.size, 1, none⟩ (.int .i64 ((T.no : Int) + 1))) (fun k => (D k ∧ k < w.heap.size) ∨ W4.heap.size ≤ k) ⟨o.n, none, 0, 0, A', ps.length + 1, c'⟩ { S.found o.n with row := (S.found o.n).row ++ [⟨T.no, (S.found o.n).all.length, o.b⟩] } := by
       have h4 := HFr4.out.keep hO5 hd0
       refine ⟨h4.name, h4.n, h4.rd.mono (fun _ h => .inl h), h4.nil, ?_, HF.out.2.2.2.2.1, ps ++ [⟨T.no, (S.found o.n).all.length, BA, o.b.length, bc⟩], (HF.out.2.1.keep hOz hdz).mono (fun _ h => .inr h.1), all2_append (all2_imp (fun _ _ h => (PartR.keep h hO5 hd0).mono (fun _ h => .inl h)) HPall.out) (.cons ⟨rfl, rfl, rfl, (HBr4.out.keep hO5 hd0).mono (fun _ h => .inl h), HBn.out⟩ .nil)⟩
       show ps.length + 1 = ((S.found o.n).row ++ _).length
       rw [List.length_append, all2_len HPall.out]
       rfl
      have HWi := hid (rwith10_calls _ _ _ _ _ _ hst5 hfr5 (by show T.l.length ≤ 900; rw [hTl]; have := HS.out.ok.few; omega))
      have HX5 := hid bX5
      have HZ5 := hid bZ5
      have HB5 := hid hB5
      have HS6 : Hid (W4.heap.size ≤ (wc.setCell ⟨w.heap.size, 1, none⟩ (.int .i64 ((T.no : Int) + 1))).heap.size) := hid (by omega)
      have hTn : T.no ≤ 100000 := by rw [hTno]; exact hno
      have gl5 : w.heap.size < wc.heap.size := bX.lt
      have k0 := bX.c 0 rfl
      have k1 := bX.c 1 rfl
      have k2 := bX.c 2 rfl
      have k3 := bX.c 3 rfl
      have k4 := bX.c 4 rfl
      have k5 := bX.c 5 rfl
      have l0 := bX.free 0
      have l1 := bX.free 1
      have l2 := bX.free 2
      have l3 := bX.free 3
      have l4 := bX.free 4
      have l5 := bX.free 5
      have m0 := bF.c 0 rfl
      have m1 := bF.c 1 rfl
      have m2 := bF.c 2 rfl
      have u0 := bF5.c 0 rfl
      have u1 := bF5.c 1 rfl
      have u2 := bF5.c 2 rfl
      have t0 := bX5.c 0 rfl
      have t1 := bX5.c 1 rfl
      have t2 := bX5.c 2 rfl
      have t3 := bX5.c 3 rfl
      have t4 := bX5.c 4 rfl
      have t5 := bX5.c 5 rfl
      clear hTno hTl bX bZ bF hO5 hOz bX5 bZ5 bF5 hB5 hz5 hz4 hd0 hdz e1 hst5 hfr5 hbz hs5 hs4 hs2 hs1 hws hwc HF
      go_wp2_with fail
      refine HWi.out.mono ?_
      rintro e w6 ⟨v6, rfl, hst6, hb6⟩
      have hst7 : StAt w6 (DW (fun k => (D k ∧ k < w.heap.size) ∨ W4.heap.size ≤ k) (wc.setCell ⟨w.heap.size, 1, none⟩ (.int .i64 ((T.no : Int) + 1)))) v6 (T.put (S.found o.n) o.b) := hst6
      have hdn : (T.put (S.found o.n) o.b).down = T.down := rfl
      obtain ⟨S6, hS6⟩ : ∃ S6, T.put (S.found o.n) o.b = S6 := ⟨_, rfl⟩
      rw [hS6] at hst7 HE hdn
      rw [← hdn] at HE
      obtain ⟨A6, c6, vs6, rfl, hr6, ha6⟩ := hst7
      have hs6 := hb6.size
      have hss := HS6.out
      have hs5 := HS5.out
      have hs4 := HS4.out
      have hs2 := HW2s.out
      have hs1 := HB1.out.size
      have hws := HWs.out
      have hx6 := HX5.out.below hb6
      have hz6 := HZ5.out.below hb6
      have hsix := six_only w6 w.heap.size (.slice A6 vs6.length c6) (.int .i64 (S6.no : Int)) (.int .i64 (S6.ops : Int)) (.int .i64 S6.fuse) (.int .i64 S6.fault) (.bool S6.down)
      have hxx := six_box hx6 (.slice A6 vs6.length c6) (.int .i64 (S6.no : Int)) (.int .i64 (S6.ops : Int)) (.int .i64 S6.fuse) (.int .i64 S6.fault) (.bool S6.down)
      have hzz := hz6.keep hsix (by omega)
      have hdd : ∀ i, (((D i ∧ i < w.heap.size) ∨ W4.heap.size ≤ i) ∨ (wc.setCell ⟨w.heap.size, 1, none⟩ (.int .i64 ((T.no : Int) + 1))).heap.size ≤ i) → ¬ i = w.heap.size := fun i hi => by omega
      have hrow7 := hr6.keep hsix hdd
      have hall7 := all2_imp (fun _ _ h => FileR.keep h hsix hdd) ha6
      have hB7 := (HB5.out.trans (hb6.mono HB5.out.size)).trans (hsix.below (Nat.le_trans HB5.out.size hs6) (fun k e => by omega))
      have gl6 : w.heap.size < w6.heap.size := hx6.lt
      have kx0 := hx6.c 0 rfl
      have kx1 := hx6.c 1 rfl
      have kx2 := hx6.c 2 rfl
      have kx3 := hx6.c 3 rfl
      have kx4 := hx6.c 4 rfl
      have kx5 := hx6.c 5 rfl
      have lx0 := hx6.free 0
      have lx1 := hx6.free 1
      have lx2 := hx6.free 2
      have lx3 := hx6.free 3
      have lx4 := hx6.free 4
      have lx5 := hx6.free 5
      have hs7 := hsix.size
      have gl7 : w.heap.size + 1 + 1 < (six w6 w.heap.size (.slice A6 vs6.length c6) (.int .i64 (S6.no : Int)) (.int .i64 (S6.ops : Int)) (.int .i64 S6.fuse) (.int .i64 S6.fault) (.bool S6.down)).heap.size := by omega
      obtain ⟨W7, hW7⟩ : ∃ W7, six w6 w.heap.size (.slice A6 vs6.length c6) (.int .i64 (S6.no : Int)) (.int .i64 (S6.ops : Int)) (.int .i64 S6.fuse) (.int .i64 S6.fault) (.bool S6.down) = W7 := ⟨_, rfl⟩
      rw [hW7] at hxx hzz hrow7 hall7 hB7 gl7
      unfold six at hW7
      unfold stV
      have ky0 := hxx.c 0 rfl
      have ky1 := hxx.c 1 rfl
      have ky2 := hxx.c 2 rfl
      have ky3 := hxx.c 3 rfl
      have ky4 := hxx.c 4 rfl
      have ky5 := hxx.c 5 rfl
      have kz0 := hzz.c 0 rfl
      have kz1 := hzz.c 1 rfl
      have kz2 := hzz.c 2 rfl
      have kz3 := hzz.c 3 rfl
      have kz4 := hzz.c 4 rfl
      have kz5 := hzz.c 5 rfl
      have lz0 := hzz.free 0
      have lz1 := hzz.free 1
      have lz2 := hzz.free 2
      have lz3 := hzz.free 3
      have lz4 := hzz.free 4
      have lz5 := hzz.free 5
      have Fin : ∀ z : Int, Hid (∀ (tmps : Array Value), tmps.getD 4 undef = .pointer (some ⟨w.heap.size + 2, 0, none⟩) → tmps.getD 5 undef = .int .i64 z → ∀ z' : Int, z = z' → bodyPost Tryz.prog Tryz.f74 (fun e w' => ∃ v', e = .returned (.tuple #[v', .int .i64 z']) ∧ StAt w' (DW D w) v' S6 ∧ Below w.heap.size w w') Exit.ret { tmps := tmps, defers := [] }
        (six W7 (w.heap.size + 2) (.slice A6 vs6.length c6) (.int .i64 (S6.no : Int)) (.int .i64 (S6.ops : Int)) (.int .i64 S6.fuse) (.int .i64 S6.fault) (.bool S6.down))) := fun z => hid (fin10e (f := Tryz.f74) (z := z) (S := S6) (D' := DW D w) (c := c6) hB7 (Nat.le_add_right _ 2) (fun k hk => by have hk' : ((D k ∧ k < w.heap.size) ∨ W4.heap.size ≤ k) ∨ (wc.setCell ⟨w.heap.size, 1, none⟩ (.int .i64 ((T.no : Int) + 1))).heap.size ≤ k := hk; omega) (fun k hk => by
         have hk' : ((D k ∧ k < w.heap.size) ∨ W4.heap.size ≤ k) ∨ (wc.setCell ⟨w.heap.size, 1, none⟩ (.int .i64 ((T.no : Int) + 1))).heap.size ≤ k := hk
         rcases hk' with (h | h) | h
         ·exact .inl h.1
         ·exact .inr (by omega)
         ·exact .inr (by omega)) hzz hrow7 hall7 rfl rfl)
      clear hs6 hss hs5 hs4 hs2 hs1 hws hx6 hz6 hsix hxx hzz hdd hrow7 hall7 hB7 hs7 hst6 hr6 ha6 hb6 hdn hS6 HWi
      generalize S6.down = d6 at *
      cases d6 with
      | true =>
       rw [if_pos rfl] at HE
       have Fin1 := Fin 100
       clear Fin
       go_wp2_with fail
       rw [HE.out]
       exact Fin1.out _ rfl rfl _ rfl
      | false =>
       rw [if_neg (by simp)] at HE
       have Fin1 := Fin 0
       clear Fin
       go_wp2_with fail
       rw [HE.out]
       exact Fin1.out _ rfl rfl _ rfl
    ·have hbv : S.burn.fault = S.fault := by unfold FS.burn; simp only; rw [if_neg hfp]
     have hob : Only (fun k => k = w.heap.size) w2 w2 := (Only.refl (fun k => k = w.heap.size) w2)
     have hws := HWs.out
     have hs2 := HB2.out.size
     have hD : ∀ i, (D i ∧ i < w.heap.size) → ¬ i = w.heap.size := fun i hi => by omega
     have hst : StAt w2 (fun k => D k ∧ k < w.heap.size) (.agg #[.slice A vs.length c, .int .i64 (S.no : Int), .int .i64 (S.ops : Int), .int .i64 S.fuse, .int .i64 S.fault, .bool S.down]) S.burn := ⟨A, c, vs, by unfold stV; rw [hbv]; rfl, (HR.out.below HB2.out).keep hob hD, all2_imp (fun _ _ h => (FileR.below h HB2.out).keep hob hD) HA.out⟩
     have HCt := hid (rcount10_calls w2 _ _ S.burn hst (by show S.ops ≤ 1000000; omega) hfu hfn2)
     have HFr3 := hid (HFr2.out.keep hob hD)
     have HBr3 := hid ((HBr.out.below HB2.out).keep hob hD)
     have HXF3 := hid (HXF2.out.keep hob (by have := HB1.out.size; omega))
     have HX3 : Hid (BxA w2 w.heap.size 51 [.slice A vs.length c, .int .i64 (S.no : Int), .int .i64 (S.ops : Int), .int .i64 S.fuse, .int .i64 S.fault, .bool S.down]) := hid (HX.out.below HB2.out)
     have HY3 := hid ((HY.out.below HB2.out).keep hob (by omega))
     have HZ3 := hid ((HZ.out.below HB2.out).keep hob (by omega))
     have HB3 := hid ((HB.out.trans (HB2.out.mono HB.out.size)).trans (hob.below (Nat.le_trans HB.out.size hs2) (fun k e => by omega)))
     have HS3 : Hid (w2.heap.size ≤ w2.heap.size) := hid hob.size
     have hgl : w.heap.size < w2.heap.size := by omega
     clear hws hs2 hob hst hD
     go_wp2_with fail
     clear x0 x1 x2 x3 x4 x5 y0 y1 y2 y3 y4 y5 q0 q1 q2 q3 q4 q5 r0 r1 r2 r3 r4 r5 f0 f1 f2 f3 f4 f5 c0 c1 c2 d0 d1 d2
     refine HCt.out.mono ?_
     rintro e w3 ⟨v3, rfl, ⟨A3, c3, vs3, rfl, hr3, ha3⟩, hb3⟩
     obtain ⟨T, hT⟩ : ∃ T, S.burn.count = T := ⟨_, rfl⟩
     rw [hT] at HE ha3 ⊢
     have HT := hid hT
     have hx3 := HX3.out.below hb3
     have hws := HWs.out
     have hs3 := hb3.size
     have hs2 := HS3.out
     have hs1 := HB2.out.size
     have hsix := six_only w3 w.heap.size (.slice A3 vs3.length c3) (.int .i64 (T.no : Int)) (.int .i64 (T.ops : Int)) (.int .i64 T.fuse) (.int .i64 T.fault) (.bool T.down)
     have hxx := six_box hx3 (.slice A3 vs3.length c3) (.int .i64 (T.no : Int)) (.int .i64 (T.ops : Int)) (.int .i64 T.fuse) (.int .i64 T.fault) (.bool T.down)
     have hD : ∀ i, (D i ∧ i < w.heap.size) → ¬ i = w.heap.size := fun i hi => by omega
     have HR4 := hid (hr3.keep hsix hD)
     have HA4 := hid (all2_imp (fun _ _ h => FileR.keep h hsix hD) ha3)
     have HFr4 := hid ((HFr3.out.below hb3).keep hsix hD)
     have HBr4 := hid ((HBr3.out.below hb3).keep hsix hD)
     have HXF4 := hid ((HXF3.out.below hb3).keep hsix (by have := HB1.out.size; omega))
     have HY4 := hid ((HY3.out.below hb3).keep hsix (by omega))
     have HZ4 := hid ((HZ3.out.below hb3).keep hsix (by omega))
     have HB4 := hid ((HB3.out.trans (hb3.mono HB3.out.size)).trans (hsix.below (Nat.le_trans HB3.out.size hs3) (fun k e => by omega)))
     have HX4 := hid hxx
     have HS4 : Hid (w2.heap.size ≤ w3.heap.size) := hid (Nat.le_trans hs2 hs3)
     have HS5 : Hid (w3.heap.size ≤ (six w3 w.heap.size (.slice A3 vs3.length c3) (.int .i64 (T.no : Int)) (.int .i64 (T.ops : Int)) (.int .i64 T.fuse) (.int .i64 T.fault) (.bool T.down)).heap.size) := hid hsix.size
     have x0 := hx3.c 0 rfl
     have x1 := hx3.c 1 rfl
     have x2 := hx3.c 2 rfl
     have x3 := hx3.c 3 rfl
     have x4 := hx3.c 4 rfl
     have x5 := hx3.c 5 rfl
     have f0 := hx3.free 0
     have f1 := hx3.free 1
     have f2 := hx3.free 2
     have f3 := hx3.free 3
     have f4 := hx3.free 4
     have f5 := hx3.free 5
     have hgl3 : w.heap.size < w3.heap.size := by omega
     obtain ⟨W4, hW4⟩ : ∃ W4, six w3 w.heap.size (.slice A3 vs3.length c3) (.int .i64 (T.no : Int)) (.int .i64 (T.ops : Int)) (.int .i64 T.fuse) (.int .i64 T.fault) (.bool T.down) = W4 := ⟨_, rfl⟩
     rw [hW4] at HR4 HA4 HFr4 HBr4 HXF4 HY4 HZ4 HB4 HX4 HS5
     unfold six at hW4
     clear hws hs1 hs2 hs3 hsix hxx hx3 hD hr3 ha3 hb3 hT HCt HX3 HY3 HZ3 HFr3 HXF3 HBr3
     unfold stV
     have hx := HX4.out
     have hy := HY4.out
     have hz := HZ4.out
     have hxf := HXF4.out
     have x40 := hx.c 0 rfl
     have x41 := hx.c 1 rfl
     have x42 := hx.c 2 rfl
     have x43 := hx.c 3 rfl
     have x44 := hx.c 4 rfl
     have x45 := hx.c 5 rfl
     have f40 := hx.free 0
     have f41 := hx.free 1
     have f42 := hx.free 2
     have f43 := hx.free 3
     have f44 := hx.free 4
     have f45 := hx.free 5
     have y40 := hy.c 0 rfl
     have y41 := hy.c 1 rfl
     have y42 := hy.c 2 rfl
     have y43 := hy.c 3 rfl
     have y44 := hy.c 4 rfl
     have y45 := hy.c 5 rfl
     have q40 := hz.c 0 rfl
     have q41 := hz.c 1 rfl
     have q42 := hz.c 2 rfl
     have q43 := hz.c 3 rfl
     have q44 := hz.c 4 rfl
     have q45 := hz.c 5 rfl
     have r40 := hz.free 0
     have r41 := hz.free 1
     have r42 := hz.free 2
     have r43 := hz.free 3
     have r44 := hz.free 4
     have r45 := hz.free 5
     have c40 := hxf.c 0 rfl
     have c41 := hxf.c 1 rfl
     have c42 := hxf.c 2 rfl
     have d40 := hxf.free 0
     have d41 := hxf.free 1
     have d42 := hxf.free 2
     clear hx hy hz hxf
     have hg4 : w.heap.size + 1 + 1 < W4.heap.size := by have := HS5.out; have := HS4.out; have := HB2.out.size; have := HWs.out; omega
     obtain ⟨ps, hprow, hpall⟩ := HFr4.out.row
     have hrn : 0 = ps.length := by have h1 := HFr4.out.rn; have h2 := all2_len hpall; (try simp only at h1); omega
     have HRow := hid hprow
     have HPall := hid hpall
     have HNilR : Hid (none = none → 0 = 0) := hid HFr4.out.rnil
     have HPl : Hid (ps.length ≤ 100000) := hid (by have h1 := HOk.out.2.2; have h2 := all2_len hpall; omega)
     have HKeep : Hid (∀ W', Below W4.heap.size W4 W' → (fun w' => w'.cell? ⟨w1.heap.size, 2, none⟩ = some (.slice none 0 0) ∧ w'.cell? ⟨w.heap.size, 1, none⟩ = some (.int .i64 (T.no : Int)) ∧ w'.cell? ⟨w.heap.size + 1, 3, none⟩ = some (.slice BA o.b.length bc)) W') := hid (fun W' hb => ⟨(HXF4.out.below hb).c 2 rfl, (HX4.out.below hb).c 1 rfl, (HY4.out.below hb).c 3 rfl⟩)
     have HRn := hid hrn
     clear hprow hpall hrn
     go_upto_region 15 with fail
     go_cut [81] from 69 (fun s36 wc => ∃ A' c' wz, s36 = .slice A' (ps.length + 1) c' ∧ wc = wz.setCell ⟨w1.heap.size, 2, none⟩ (.slice A' (ps.length + 1) c') ∧ Hid (SnocP W4 ps ⟨T.no, (S.found o.n).all.length, BA, o.b.length, bc⟩ A' c' wz))
     case first =>
      refine wp_region_last (S := (fun w' => w'.cell? ⟨w1.heap.size, 2, none⟩ = some (.slice none 0 0) ∧ w'.cell? ⟨w.heap.size, 1, none⟩ = some (.int .i64 (T.no : Int)) ∧ w'.cell? ⟨w.heap.size + 1, 3, none⟩ = some (.slice BA o.b.length bc))) 14 (by kernel_rfl) (HKeep.out _ (Below.refl _ W4).drew) (fun hHeld => ?_)
      refine tkL 1 ?_
      refine tkL 2 ?_
      refine tkL 4 ?_
      refine tkL 5 ?_
      refine tkL 6 ?_
      refine tkL 7 ?_
      refine tkL 8 ?_
      refine tkL 9 ?_
      refine tkL 10 ?_
      refine lastAny_ready (rs := [0, 11]) (by kernel_rfl) (by simp) ?_
      refine AllReadyL.cons (o := ⟨some 69, _, _, _, _, _⟩) rfl (fun K hK => ?_) (AllReadyL.cons (o := ⟨some 80, _, _, _, _, _⟩) rfl (fun K hK => ?_) AllReadyL.nil)
      ·(rw [if_pos (by kernel_rfl)])
       go_simp
       refine hK.out _ _ (HKeep.out _ ((Below.refl _ W4).drew.alloc (Nat.le_refl _) (.cells #[] 151))) (fun hHeld => ?_)
       clear hK K
       refine lastAny_ready (rs := [3, 11]) (by kernel_rfl) (by simp) ?_
       refine AllReadyL.cons (o := ⟨some 72, _, _, _, _, _⟩) rfl (fun K hK => ?_) (AllReadyL.cons (o := ⟨some 80, _, _, _, _, _⟩) rfl (fun K hK => ?_) AllReadyL.nil)
       ·obtain ⟨v2, wa, hr1, hb2, A', c', wz, hr2, hf⟩ := snocPA W4.drew none 0 ps ⟨T.no, (S.found o.n).all.length, BA, o.b.length, bc⟩ (HRow.out : RowT partC W4.drew (fun k => D k ∧ k < w.heap.size) none ps) (by first | exact HNilR.out | (intro _; rfl)) HPl.out
        rw [show W4.drew.heap.size = W4.heap.size from rfl] at hr1 hb2
        (try rw [show W4.drew.heap.size = W4.heap.size from rfl] at hr2)
        rw [← HRn.out] at hr1
        have Hr1 := hid hr1
        have Hr2 := hid hr2
        have HF := hid hf.undrew
        have HBa : Hid (Below W4.heap.size W4 wa) := hid ⟨hb2.os, hb2.tape, hb2.output, hb2.size, hb2.block⟩
        have hbz : Below W4.heap.size W4 wz := ⟨hf.1.os, hf.1.tape, hf.1.output, hf.1.size, hf.1.block⟩
        have HBz := hid hbz
        have cz := (HXF4.out.below hbz).c 2 rfl
        have fz := (HXF4.out.below hbz).free 2
        clear hr1 hr2 hf hb2 hbz
        refine step_append_g (by kernel_rfl) (.tmp 69) (.tmp 71) 128 rfl _ _ rfl rfl Hr1.out ?_
        refine hK.out _ _ (HKeep.out _ (HBa.out)) (fun hHeld => ?_)
        clear hK K
        refine rdL 11 fun K hK => ?_
        go_simp
        refine hK.out _ _ (HKeep.out _ (HBa.out.alloc HBa.out.size _)) (fun hHeld => ?_)
        clear hK K
        refine lastAny_ready (rs := [12]) (by kernel_rfl) (by simp) ?_
        refine AllReadyL.cons (o := ⟨some 81, _, _, _, _, _⟩) rfl (fun K hK => ?_) AllReadyL.nil
        refine step_append_g (by kernel_rfl) (.tmp 72) (.tmp 80) 128 rfl _ _ rfl rfl Hr2.out ?_
        refine hK.out _ _ (HKeep.out _ (HBz.out)) (fun hHeld => ?_)
        clear hK K
        refine tkL 13 ?_
        refine enL fun K hK => ?_
        go_simp
        refine hK.out _ _ ?_
        clear hK K
        clear Hr1 Hr2
        go_wp2_with fail
        go_meet
        exact ⟨A', c', wz, rfl, rfl, HF⟩
       ·(rw [if_pos (by kernel_rfl)])
        go_simp
        refine hK.out _ _ (HKeep.out _ (((Below.refl _ W4).drew.alloc (Nat.le_refl _) (.cells #[] 151)).alloc (by simp) (.cells #[.int .i64 (T.no : Int), .int .i64 ((S.found o.n).all.length : Int), .slice BA o.b.length bc] 151))) (fun hHeld => ?_)
        clear hK K
        obtain ⟨v2, wa, hr1, hb2, A', c', wz, hr2, hf⟩ := snocPB W4.drew none 0 ps ⟨T.no, (S.found o.n).all.length, BA, o.b.length, bc⟩ (HRow.out : RowT partC W4.drew (fun k => D k ∧ k < w.heap.size) none ps) (by first | exact HNilR.out | (intro _; rfl)) HPl.out
        rw [show W4.drew.heap.size = W4.heap.size from rfl] at hr1 hb2
        (try rw [show W4.drew.heap.size = W4.heap.size from rfl] at hr2)
        rw [← HRn.out] at hr1
        have Hr1 := hid hr1
        have Hr2 := hid hr2
        have HF := hid hf.undrew
        have HBa : Hid (Below W4.heap.size W4 wa) := hid ⟨hb2.os, hb2.tape, hb2.output, hb2.size, hb2.block⟩
        have hbz : Below W4.heap.size W4 wz := ⟨hf.1.os, hf.1.tape, hf.1.output, hf.1.size, hf.1.block⟩
        have HBz := hid hbz
        have cz := (HXF4.out.below hbz).c 2 rfl
        have fz := (HXF4.out.below hbz).free 2
        clear hr1 hr2 hf hb2 hbz
        refine lastAny_ready (rs := [3]) (by kernel_rfl) (by simp) ?_
        refine AllReadyL.cons (o := ⟨some 72, _, _, _, _, _⟩) rfl (fun K hK => ?_) AllReadyL.nil
        refine step_append_g (by kernel_rfl) (.tmp 69) (.tmp 71) 128 rfl _ _ rfl rfl Hr1.out ?_
        refine hK.out _ _ (HKeep.out _ (HBa.out)) (fun hHeld => ?_)
        clear hK K
        refine lastAny_ready (rs := [12]) (by kernel_rfl) (by simp) ?_
        refine AllReadyL.cons (o := ⟨some 81, _, _, _, _, _⟩) rfl (fun K hK => ?_) AllReadyL.nil
        refine step_append_g (by kernel_rfl) (.tmp 72) (.tmp 80) 128 rfl _ _ rfl rfl Hr2.out ?_
        refine hK.out _ _ (HKeep.out _ (HBz.out)) (fun hHeld => ?_)
        clear hK K
        refine tkL 13 ?_
        refine enL fun K hK => ?_
        go_simp
        refine hK.out _ _ ?_
        clear hK K
        clear Hr1 Hr2
        go_wp2_with fail
        go_meet
        exact ⟨A', c', wz, rfl, rfl, HF⟩
      ·(rw [if_pos (by kernel_rfl)])
       go_simp
       refine hK.out _ _ (HKeep.out _ ((Below.refl _ W4).drew.alloc (Nat.le_refl _) (.cells #[.int .i64 (T.no : Int), .int .i64 ((S.found o.n).all.length : Int), .slice BA o.b.length bc] 151))) (fun hHeld => ?_)
       clear hK K
       refine rdL 0 fun K hK => ?_
       go_simp
       refine hK.out _ _ (HKeep.out _ (((Below.refl _ W4).drew.alloc (Nat.le_refl _) (.cells #[.int .i64 (T.no : Int), .int .i64 ((S.found o.n).all.length : Int), .slice BA o.b.length bc] 151)).alloc (by simp) (.cells #[] 151))) (fun hHeld => ?_)
       clear hK K
       obtain ⟨v2, wa, hr1, hb2, A', c', wz, hr2, hf⟩ := snocPC W4.drew none 0 ps ⟨T.no, (S.found o.n).all.length, BA, o.b.length, bc⟩ (HRow.out : RowT partC W4.drew (fun k => D k ∧ k < w.heap.size) none ps) (by first | exact HNilR.out | (intro _; rfl)) HPl.out
       rw [show W4.drew.heap.size = W4.heap.size from rfl] at hr1 hb2
       (try rw [show W4.drew.heap.size = W4.heap.size from rfl] at hr2)
       rw [← HRn.out] at hr1
       have Hr1 := hid hr1
       have Hr2 := hid hr2
       have HF := hid hf.undrew
       have HBa : Hid (Below W4.heap.size W4 wa) := hid ⟨hb2.os, hb2.tape, hb2.output, hb2.size, hb2.block⟩
       have hbz : Below W4.heap.size W4 wz := ⟨hf.1.os, hf.1.tape, hf.1.output, hf.1.size, hf.1.block⟩
       have HBz := hid hbz
       have cz := (HXF4.out.below hbz).c 2 rfl
       have fz := (HXF4.out.below hbz).free 2
       clear hr1 hr2 hf hb2 hbz
       refine lastAny_ready (rs := [3]) (by kernel_rfl) (by simp) ?_
       refine AllReadyL.cons (o := ⟨some 72, _, _, _, _, _⟩) rfl (fun K hK => ?_) AllReadyL.nil
       refine step_append_g (by kernel_rfl) (.tmp 69) (.tmp 71) 128 rfl _ _ rfl rfl Hr1.out ?_
       refine hK.out _ _ (HKeep.out _ (HBa.out)) (fun hHeld => ?_)
       clear hK K
       refine lastAny_ready (rs := [12]) (by kernel_rfl) (by simp) ?_
       refine AllReadyL.cons (o := ⟨some 81, _, _, _, _, _⟩) rfl (fun K hK => ?_) AllReadyL.nil
       refine step_append_g (by kernel_rfl) (.tmp 72) (.tmp 80) 128 rfl _ _ rfl rfl Hr2.out ?_
       refine hK.out _ _ (HKeep.out _ (HBz.out)) (fun hHeld => ?_)
       clear hK K
       refine tkL 13 ?_
       refine enL fun K hK => ?_
       go_simp
       refine hK.out _ _ ?_
       clear hK K
       clear Hr1 Hr2
       go_wp2_with fail
       go_meet
       exact ⟨A', c', wz, rfl, rfl, HF⟩
     case rest =>
      obtain ⟨A', c', wz, rfl, hwc, HF⟩ := hcut
      have hbz := HF.out.1
      have hs5 := HS5.out
      have hs4 := HS4.out
      have hs2 := HW2s.out
      have hs1 := HB1.out.size
      have hws := HWs.out
      have hTno : T.no = S.no := by rw [← HT.out]; rfl
      have hTl : T.l = S.l := by rw [← HT.out]; rfl
      have bX : BxA wc w.heap.size 51 [.slice A3 vs3.length c3, .int .i64 (T.no : Int), .int .i64 (T.ops : Int), .int .i64 T.fuse, .int .i64 T.fault, .bool T.down] := by rw [hwc]; exact (HX4.out.below hbz).other (by omega) _
      have bZ : BxA wc (w.heap.size + 2) 51 zeroSt := by rw [hwc]; exact (HZ4.out.below hbz).other (by omega) _
      have bF : BxA wc w1.heap.size 130 [.string o.n, .slice none 0 0, .slice A' (ps.length + 1) c'] := by rw [hwc]; exact (HXF4.out.below hbz).set 2 _
      have hO5 : Only (fun k => k = w1.heap.size ∨ k = w.heap.size) W4 (wc.setCell ⟨w.heap.size, 1, none⟩ (.int .i64 ((T.no : Int) + 1))) := by
       rw [hwc]
       exact ((Only.of_below (R := fun k => k = w1.heap.size ∨ k = w.heap.size) hbz).set (p := ⟨w1.heap.size, 2, none⟩) (.inl (.inl rfl)) _).set (p := ⟨w.heap.size, 1, none⟩) (.inl (.inr rfl)) _
      have hOz : Only (fun k => k = w1.heap.size ∨ k = w.heap.size) wz (wc.setCell ⟨w.heap.size, 1, none⟩ (.int .i64 ((T.no : Int) + 1))) := by
       rw [hwc]
       exact ((Only.refl (fun k => k = w1.heap.size ∨ k = w.heap.size) wz).set (p := ⟨w1.heap.size, 2, none⟩) (.inl (.inl rfl)) _).set (p := ⟨w.heap.size, 1, none⟩) (.inl (.inr rfl)) _
      have bX5 := bX.set 1 (.int .i64 ((T.no : Int) + 1))
      have bZ5 := bZ.other (g := w.heap.size) (i := 1) (by omega) (.int .i64 ((T.no : Int) + 1))
      have bF5 := bF.other (g := w.heap.size) (i := 1) (by omega) (.int .i64 ((T.no : Int) + 1))
      have hB5 : Below w.heap.size w (wc.setCell ⟨w.heap.size, 1, none⟩ (.int .i64 ((T.no : Int) + 1))) := HB4.out.trans (hO5.below HB4.out.size (fun k e => by omega))
      have hz5 := hOz.size
      have hz4 := hbz.size
      have hd0 : ∀ i, (D i ∧ i < w.heap.size) → ¬ (i = w1.heap.size ∨ i = w.heap.size) := fun i hi => by omega
      have hdz : ∀ i, (W4.heap.size ≤ i ∧ i < wz.heap.size) → ¬ (i = w1.heap.size ∨ i = w.heap.size) := fun i hi => by omega
      have e1 : ((T.no + 1 : Nat) : Int) = (T.no : Int) + 1 := by omega
      have hst5 : StAt (wc.setCell ⟨w.heap.size, 1, none⟩ (.int .i64 ((T.no : Int) + 1))) (fun k => (D k ∧ k < w.heap.size) ∨ W4.heap.size ≤ k) (.agg #[.slice A3 vs3.length c3, .int .i64 ((T.no : Int) + 1), .int .i64 (T.ops : Int), .int .i64 T.fuse, .int .i64 T.fault, .bool T.down]) { T with no := T.no + 1 } :=
       ⟨A3, c3, vs3, congrArg (fun z => Value.agg #[.slice A3 vs3.length c3, .int .i64 z, .int .i64 (T.ops : Int), .int .i64 T.fuse, .int .i64 T.fault, .bool T.down]) e1.symm, (HR4.out.keep hO5 hd0).mono (fun _ h => .inl h), all2_imp (fun _ _ h => (FileR.keep h hO5 hd0).mono (fun _ h => .inl h)) HA4.out⟩
      have hfr5 : FileR (wc.setCell ⟨w.heap.size, 1, none⟩ (.int .i64 ((T.no : Int) + 1))) (fun k => (D k ∧ k < w.heap.size) ∨ W4.heap.size ≤ k) ⟨o.n, none, 0, 0, A', ps.length + 1, c'⟩ { S.found o.n with row := (S.found o.n).row ++ [⟨T.no, (S.found o.n).all.length, o.b⟩] } := by
       have h4 := HFr4.out.keep hO5 hd0
       refine ⟨h4.name, h4.n, h4.rd.mono (fun _ h => .inl h), h4.nil, ?_, HF.out.2.2.2.2.1, ps ++ [⟨T.no, (S.found o.n).all.length, BA, o.b.length, bc⟩], (HF.out.2.1.keep hOz hdz).mono (fun _ h => .inr h.1), all2_append (all2_imp (fun _ _ h => (PartR.keep h hO5 hd0).mono (fun _ h => .inl h)) HPall.out) (.cons ⟨rfl, rfl, rfl, (HBr4.out.keep hO5 hd0).mono (fun _ h => .inl h), HBn.out⟩ .nil)⟩
       show ps.length + 1 = ((S.found o.n).row ++ _).length
       rw [List.length_append, all2_len HPall.out]
       rfl
      have HWi := hid (rwith10_calls _ _ _ _ _ _ hst5 hfr5 (by show T.l.length ≤ 900; rw [hTl]; have := HS.out.ok.few; omega))
      have HX5 := hid bX5
      have HZ5 := hid bZ5
      have HB5 := hid hB5
      have HS6 : Hid (W4.heap.size ≤ (wc.setCell ⟨w.heap.size, 1, none⟩ (.int .i64 ((T.no : Int) + 1))).heap.size) := hid (by omega)
      have hTn : T.no ≤ 100000 := by rw [hTno]; exact hno
      have gl5 : w.heap.size < wc.heap.size := bX.lt
      have k0 := bX.c 0 rfl
      have k1 := bX.c 1 rfl
      have k2 := bX.c 2 rfl
      have k3 := bX.c 3 rfl
      have k4 := bX.c 4 rfl
      have k5 := bX.c 5 rfl
      have l0 := bX.free 0
      have l1 := bX.free 1
      have l2 := bX.free 2
      have l3 := bX.free 3
      have l4 := bX.free 4
      have l5 := bX.free 5
      have m0 := bF.c 0 rfl
      have m1 := bF.c 1 rfl
      have m2 := bF.c 2 rfl
      have u0 := bF5.c 0 rfl
      have u1 := bF5.c 1 rfl
      have u2 := bF5.c 2 rfl
      have t0 := bX5.c 0 rfl
      have t1 := bX5.c 1 rfl
      have t2 := bX5.c 2 rfl
      have t3 := bX5.c 3 rfl
      have t4 := bX5.c 4 rfl
      have t5 := bX5.c 5 rfl
      clear hTno hTl bX bZ bF hO5 hOz bX5 bZ5 bF5 hB5 hz5 hz4 hd0 hdz e1 hst5 hfr5 hbz hs5 hs4 hs2 hs1 hws hwc HF
      go_wp2_with fail
      refine HWi.out.mono ?_
      rintro e w6 ⟨v6, rfl, hst6, hb6⟩
      have hst7 : StAt w6 (DW (fun k => (D k ∧ k < w.heap.size) ∨ W4.heap.size ≤ k) (wc.setCell ⟨w.heap.size, 1, none⟩ (.int .i64 ((T.no : Int) + 1)))) v6 (T.put (S.found o.n) o.b) := hst6
      have hdn : (T.put (S.found o.n) o.b).down = T.down := rfl
      obtain ⟨S6, hS6⟩ : ∃ S6, T.put (S.found o.n) o.b = S6 := ⟨_, rfl⟩
      rw [hS6] at hst7 HE hdn
      rw [← hdn] at HE
      obtain ⟨A6, c6, vs6, rfl, hr6, ha6⟩ := hst7
      have hs6 := hb6.size
      have hss := HS6.out
      have hs5 := HS5.out
      have hs4 := HS4.out
      have hs2 := HW2s.out
      have hs1 := HB1.out.size
      have hws := HWs.out
      have hx6 := HX5.out.below hb6
      have hz6 := HZ5.out.below hb6
      have hsix := six_only w6 w.heap.size (.slice A6 vs6.length c6) (.int .i64 (S6.no : Int)) (.int .i64 (S6.ops : Int)) (.int .i64 S6.fuse) (.int .i64 S6.fault) (.bool S6.down)
      have hxx := six_box hx6 (.slice A6 vs6.length c6) (.int .i64 (S6.no : Int)) (.int .i64 (S6.ops : Int)) (.int .i64 S6.fuse) (.int .i64 S6.fault) (.bool S6.down)
      have hzz := hz6.keep hsix (by omega)
      have hdd : ∀ i, (((D i ∧ i < w.heap.size) ∨ W4.heap.size ≤ i) ∨ (wc.setCell ⟨w.heap.size, 1, none⟩ (.int .i64 ((T.no : Int) + 1))).heap.size ≤ i) → ¬ i = w.heap.size := fun i hi => by omega
      have hrow7 := hr6.keep hsix hdd
      have hall7 := all2_imp (fun _ _ h => FileR.keep h hsix hdd) ha6
      have hB7 := (HB5.out.trans (hb6.mono HB5.out.size)).trans (hsix.below (Nat.le_trans HB5.out.size hs6) (fun k e => by omega))
      have gl6 : w.heap.size < w6.heap.size := hx6.lt
      have kx0 := hx6.c 0 rfl
      have kx1 := hx6.c 1 rfl
      have kx2 := hx6.c 2 rfl
      have kx3 := hx6.c 3 rfl
      have kx4 := hx6.c 4 rfl
      have kx5 := hx6.c 5 rfl
      have lx0 := hx6.free 0
      have lx1 := hx6.free 1
      have lx2 := hx6.free 2
      have lx3 := hx6.free 3
      have lx4 := hx6.free 4
      have lx5 := hx6.free 5
      have hs7 := hsix.size
      have gl7 : w.heap.size + 1 + 1 < (six w6 w.heap.size (.slice A6 vs6.length c6) (.int .i64 (S6.no : Int)) (.int .i64 (S6.ops : Int)) (.int .i64 S6.fuse) (.int .i64 S6.fault) (.bool S6.down)).heap.size := by omega
      obtain ⟨W7, hW7⟩ : ∃ W7, six w6 w.heap.size (.slice A6 vs6.length c6) (.int .i64 (S6.no : Int)) (.int .i64 (S6.ops : Int)) (.int .i64 S6.fuse) (.int .i64 S6.fault) (.bool S6.down) = W7 := ⟨_, rfl⟩
      rw [hW7] at hxx hzz hrow7 hall7 hB7 gl7
      unfold six at hW7
      unfold stV
      have ky0 := hxx.c 0 rfl
      have ky1 := hxx.c 1 rfl
      have ky2 := hxx.c 2 rfl
      have ky3 := hxx.c 3 rfl
      have ky4 := hxx.c 4 rfl
      have ky5 := hxx.c 5 rfl
      have kz0 := hzz.c 0 rfl
      have kz1 := hzz.c 1 rfl
      have kz2 := hzz.c 2 rfl
      have kz3 := hzz.c 3 rfl
      have kz4 := hzz.c 4 rfl
      have kz5 := hzz.c 5 rfl
      have lz0 := hzz.free 0
      have lz1 := hzz.free 1
      have lz2 := hzz.free 2
      have lz3 := hzz.free 3
      have lz4 := hzz.free 4
      have lz5 := hzz.free 5
      have Fin : ∀ z : Int, Hid (∀ (tmps : Array Value), tmps.getD 4 undef = .pointer (some ⟨w.heap.size + 2, 0, none⟩) → tmps.getD 5 undef = .int .i64 z → ∀ z' : Int, z = z' → bodyPost Tryz.prog Tryz.f74 (fun e w' => ∃ v', e = .returned (.tuple #[v', .int .i64 z']) ∧ StAt w' (DW D w) v' S6 ∧ Below w.heap.size w w') Exit.ret { tmps := tmps, defers := [] }
        (six W7 (w.heap.size + 2) (.slice A6 vs6.length c6) (.int .i64 (S6.no : Int)) (.int .i64 (S6.ops : Int)) (.int .i64 S6.fuse) (.int .i64 S6.fault) (.bool S6.down))) := fun z => hid (fin10e (f := Tryz.f74) (z := z) (S := S6) (D' := DW D w) (c := c6) hB7 (Nat.le_add_right _ 2) (fun k hk => by have hk' : ((D k ∧ k < w.heap.size) ∨ W4.heap.size ≤ k) ∨ (wc.setCell ⟨w.heap.size, 1, none⟩ (.int .i64 ((T.no : Int) + 1))).heap.size ≤ k := hk; omega) (fun k hk => by
         have hk' : ((D k ∧ k < w.heap.size) ∨ W4.heap.size ≤ k) ∨ (wc.setCell ⟨w.heap.size, 1, none⟩ (.int .i64 ((T.no : Int) + 1))).heap.size ≤ k := hk
         rcases hk' with (h | h) | h
         ·exact .inl h.1
         ·exact .inr (by omega)
         ·exact .inr (by omega)) hzz hrow7 hall7 rfl rfl)
      clear hs6 hss hs5 hs4 hs2 hs1 hws hx6 hz6 hsix hxx hzz hdd hrow7 hall7 hB7 hs7 hst6 hr6 ha6 hb6 hdn hS6 HWi
      generalize S6.down = d6 at *
      cases d6 with
      | true =>
       rw [if_pos rfl] at HE
       have Fin1 := Fin 100
       clear Fin
       go_wp2_with fail
       rw [HE.out]
       exact Fin1.out _ rfl rfl _ rfl
      | false =>
       rw [if_neg (by simp)] at HE
       have Fin1 := Fin 0
       clear Fin
       go_wp2_with fail
       rw [HE.out]
       exact Fin1.out _ rfl rfl _ rfl
 ·rw [hfn] at hfd
  cases hfd
end
end Go.Proofs.YteafcaambnfdoaaGreatDoor
