/-
  The walk of JournalKeeps (layer 12).
-/
import Derived.Test.YteafcaambnfdoaaGreatDoorPq44
import Derived.Test.YteafcaambnfdoaaGreatDoorPq47
import Derived.Deep.RegionHeld3
import Derived.Deep.CutBlock
namespace Go.Proofs.YteafcaambnfdoaaGreatDoor
open Go Go.RowKit
open Go.Lib (hid)
set_option maxRecDepth 100000
theorem keeps_back {S D : FS} {a s l : List EnJ} {ks : List Bool} (h : KeepD S hN a s) (ho : Opens (S.crash ks) hN D l) : a.length ≤ l.length ∧ l.length ≤ a.length + s.length ∧ (a ++ s).take l.length = l := by
 obtain ⟨j, hj, rfl⟩ := h.back ks ho
 have e : (s.take j).length = j := by rw [List.length_take]; omega
 refine ⟨by rw [List.length_append]; omega, by rw [List.length_append]; omega, ?_⟩
 rw [List.length_append, e, List.take_append, List.take_of_length_le (by omega), show a.length + j - a.length = j by omega]
theorem hN_name : nameF hN = true := by decide
theorem otN_name : nameF (otJ hN) = true := by decide
theorem own_noE (w : World) : (w.alloc (.cells #[] 56)).ownsRow w.heap.size 56 3 (.slice (some ⟨w.heap.size, 0, none⟩) 0 0) ([] : List EnJ).length (([] : List EnJ).flatMap enC) :=
 ⟨rfl, .inr ⟨w.heap.size, 0, #[], rfl, Nat.le_refl _, heap_alloc_new w _, by simp, by unfold maxLen; omega, by simp, by simp⟩⟩
theorem row_len {w : World} {b e s : Nat} {A : Option Addr} {n c : Nat} {xs : List Value} {m : Nat} (h : w.ownsRow b e s (.slice A m c) n xs) : m ≤ c := by
 rcases h.2 with ⟨e, _⟩ | ⟨g, cap, cur, e, _, _, _, _, hl, _⟩
 ·injection e with _ h1 h2
  omega
 ·injection e with _ h1 h2
  omega
set_option maxHeartbeats 16000000 in
theorem lkeeps12_calls (A : Option Addr) (c : Nat) (xs : List OpH) (cr : CrH) (w : World) (hR : RdO12 w A xs) (hs : ∀ x ∈ xs, OphSm x 1048576) (hl : xs.length ≤ 1048576) (hcr : CrIn w cr) (ht : LaysR w) :
  Calls Tryz.prog 5 #[.slice A xs.length c, .agg (crC cr).toArray] w fun x w' => x = .returned (.bool true) ∧ Below w.heap.size w w' := by
 obtain ⟨cf, cks, CA, cc⟩ := cr
 have hb0 := (Below.refl _ w).alloc (Nat.le_refl _) (.cells (crC ⟨cf, cks, CA, cc⟩).toArray 48)
 have hcb := BxA.new w 48 (crC ⟨cf, cks, CA, cc⟩)
 have HFw := hid (few12_calls A c xs _ (hR.below hb0) hs hl)
 have HB0 := hid hb0
 have HCb0 := hid hcb
 have HR0 := hid (hR.below hb0)
 have HCr := hid hcr
 have HT0 := hid (ht.on hb0)
 have hwlt : w.heap.size < (w.alloc (.cells (crC ⟨cf, cks, CA, cc⟩).toArray 48)).heap.size := by simp
 have HWlt := hid hwlt
 obtain ⟨few, hfew⟩ : ∃ q, q = decide (xs.length ≤ 50 ∧ totH xs ≤ 6000) := ⟨_, rfl⟩
 rw [← hfew] at HFw
 have HFe := hid hfew
 clear hb0 hcb hR hs hl hcr ht hfew hwlt
 go_enter Tryz.func5, Tryz.ntmps5
 obtain ⟨W0, hW0⟩ : ∃ W0, w.alloc (.cells (crC ⟨cf, cks, CA, cc⟩).toArray 48) = W0 := ⟨_, rfl⟩
 rw [hW0] at HFw HB0 HCb0 HR0 HT0 HWlt
 go_upto_region 1 with fail
 clear hW0
 go_wp2_with fail
 refine HFw.out.mono ?_
 rintro e w1 ⟨rfl, hb1⟩
 have HB1 := hid (HB0.out.trans (hb1.mono HB0.out.size))
 have HT1 := hid (HT0.out.on hb1)
 have HR1 := hid (HR0.out.below hb1)
 have HCx : Hid (∀ y, Below w1.heap.size w1 y → BxA y w.heap.size 48 (crC ⟨cf, cks, CA, cc⟩)) := hid (fun y hb => (HCb0.out.below hb1).below hb)
 have HCK : Hid (RowT boolC w1 (fun _ => True) CA cks) := hid ((HCr.out.k.below (HB0.out.trans (hb1.mono HB0.out.size))))
 have HW1lt : Hid (w.heap.size < w1.heap.size) := hid (Nat.lt_of_lt_of_le HWlt.out hb1.size)
 have k1 := (HCx.out w1 (Below.refl _ _)).c 1 rfl
 clear hb1 HFw HB0 HCb0 HR0 HT0 HWlt
 simp only at k1
 cases few
 ·clear HFe
  have HA := hid (jalive12_calls w1 HT1.out)
  go_wp2_with fail
  refine HA.out.mono ?_
  rintro e w2 ⟨rfl, hb2⟩
  have HB2 := hid (HB1.out.trans (hb2.mono HB1.out.size))
  clear hb2 HA
  go_wp2_with fail
  go_ret
  exact ⟨rfl, HB2.out⟩
 by_cases hks : 200 < cks.length
 ·have q1 : decide ((200 : Int) < (cks.length : Int)) = true := decide_eq_true (by omega)
  clear hks
  have HA := hid (jalive12_calls w1 HT1.out)
  go_wp2_with fail
  refine HA.out.mono ?_
  rintro e w2 ⟨rfl, hb2⟩
  have HB2 := hid (HB1.out.trans (hb2.mono HB1.out.size))
  clear hb2 HA
  go_wp2_with fail
  go_ret
  exact ⟨rfl, HB2.out⟩
 have q1 : decide ((200 : Int) < (cks.length : Int)) = false := decide_eq_false (by omega)
 have HKl : Hid (cks.length ≤ 200) := hid (by omega)
 have hfe : xs.length ≤ 50 ∧ totH xs ≤ 6000 := of_decide_eq_true HFe.out.symm
 have HFe2 := hid hfe
 clear hks hfe HFe
 go_wp2_with fail
 refine (wbegin12_calls w1 HT1.out).mono ?_
 rintro e w2 ⟨wb, b, jb, X2, Y2, A2, n2, c2, rfl, hw2⟩
 have hw2' := (WK.of hw2).below (Below.refl _ w2).drew
 obtain ⟨X3, hX3⟩ : ∃ X3, XN X2 w2 w2.drew = X3 := ⟨_, rfl⟩
 obtain ⟨Y3, hY3⟩ : ∃ Y3, XN Y2 w2 w2.drew = Y3 := ⟨_, rfl⟩
 rw [hX3, hY3] at hw2'
 have HW2d := hid hw2'
 have KK0 := And.intro (HW2d.out.box.c 0 rfl) ((HCx.out _ HW2d.out.bel).c 0 rfl)
 clear hw2 hw2' hX3 hY3 k1 q1
 simp only at KK0
 go_upto_region 6 with fail
 refine wp_region_held_drew (S := (fun w' => w'.cell? ⟨wb, 0, none⟩ = some (fp b) ∧ w'.cell? ⟨w.heap.size, 0, none⟩ = some (.int .i64 cf))) (by kernel_rfl) KK0 (fun hHeld => ?_)
 refine tkH 0 ?_
 refine tkH 1 ?_
 refine tkH 2 ?_
 refine tkH 3 ?_
 refine tkH 4 ?_
 refine tkH 5 ?_
 refine rdH 6 fun K hK => ?_
 go_simp
 refine (HW2d.out.j.fx.step (S2 := FS.new.arm cf) (fun O D hh _ => farm_calls _ O D b _ hh (FS.At.new.fit (by decide)) cf HCr.out.f1 HCr.out.f2)).mono ?_; rintro e y1 ⟨rfl, hf, ho⟩; have HW3 := hid (HW2d.out.turn hf ho); have KK1 := And.intro (HW3.out.box.c 0 rfl) ((HCx.out _ HW3.out.bel).c 0 rfl); clear hf ho
 refine hK.out _ _ KK1 (fun hHeld => ?_)
 clear hK K
 refine wpAnyH_done (by kernel_rfl) ?_ _
 have HAt0 : Hid ((FS.new.arm cf).At 1) := hid (FS.At.new.does ⟨5, ⟨#[]⟩, ⟨#[]⟩, [], cf, []⟩ HCr.out.f2)
 have HKp0 := hid (KeepJ.new hN cf)
 clear KK0 KK1 HW2d
 generalize FS.new.arm cf = S0 at *
 go_upto_block 0 with fail
 go_cut [6, 7, 8, 9] from 10 to 121 (fun s6 s7 s8 s9 wc => ∃ (X Y : Nat → Prop) (S : FS) (a s nx : List EnJ) (q : Bool), s9 = .bool q ∧ Hid (WK w1 wc X Y wb b jb S FS.new A2 n2 c2) ∧ Hid (S.At 2300) ∧ Hid (OwnN w1 wc 56 X Y s6 a) ∧ Hid (OwnN w1 wc 56 X Y s7 s) ∧ Hid (OwnN w1 wc 56 X Y s8 nx) ∧ Hid (a.length ≤ 400 ∧ s.length ≤ 400 ∧ nx.length ≤ 400) ∧ Hid (KeepD S hN a s))
 case first =>
  go_wp2_with fail
  go_loopw [6, 7, 8, 9, 40] (fun v6 v7 v8 v9 v40 wr => ∃ (k : Nat) (X Y : Nat → Prop) (S : FS) (a s : List EnJ), k ≤ xs.length ∧ v40 = .int .i64 (k : Int) ∧ v8 = .slice none 0 0 ∧ v9 = .bool false ∧ Hid (WK w1 wr X Y wb b jb S FS.new A2 n2 c2) ∧ Hid (S.At (1 + lvH (xs.take k))) ∧ Hid (OwnN w1 wr 56 X Y v6 a) ∧ Hid (OwnN w1 wr 56 X Y v7 s) ∧ Hid (Apart v6 v7) ∧ Hid (a.length + s.length ≤ 300 + k) ∧ Hid (KeepJ S hN a s)) (fun _ _ _ _ v40 _ => xs.length - (intOf v40).toNat)
  case atStart => exact ⟨0, X3, Y3, S0, [], [], Nat.zero_le _, rfl, rfl, rfl, HW3, HAt0, hid (OwnN.nil _ _ _ _ _), hid (OwnN.nil _ _ _ _ _), hid (Apart.nil _), hid (Nat.zero_le _), HKp0⟩
  case round =>
   clear HW3 HAt0 HKp0
   obtain ⟨k, X, Y, S, a, s, hk, rfl, rfl, rfl, HW, HAt, Ha, Hs, HAp, HLn, HKp⟩ := hrel
   obtain ⟨A6, c6, rfl⟩ := Ha.out.form
   obtain ⟨A7, c7, rfl⟩ := Hs.out.form
   by_cases hlt : k < xs.length
   ·have hkk : (k : Int) < (xs.length : Int) := by omega
    have hk50 : k + 1 ≤ 50 := by have := HFe2.out.1; omega
    have hkx : (k : Int) + 1 ≤ 9223372036854775807 := by omega
    have hq : xs[k]? = some xs[k] := List.getElem?_eq_getElem hlt
    obtain ⟨g, o, rfl, hg, hcs, hin2⟩ := (HR1.out.below HW.out.bel).at_ hq
    have hin := HR1.out.all _ (List.getElem_mem hlt)
    have hfa := few_at HFe2.out hq
    have o0 := hcs 0 _ rfl
    have o1 := hcs 1 _ rfl
    have o2 := hcs 2 _ rfl
    have o3 := hcs 3 _ rfl
    have o4 := hcs 4 _ rfl
    have o5 := hcs 5 _ rfl
    have o6 := hcs 6 _ rfl
    have o7 := hcs 7 _ rfl
    rw [Nat.add_zero] at o0
    clear hcs hq hin2
    generalize xs[k] = x at *
    obtain ⟨xk, ⟨xt, xd, xc⟩, xl, xi, xb, xks, LA, lc, BA, bc, KA, kc⟩ := x
    simp only at o0 o1 o2 o3 o4 o5 o6 o7
    have HFb : Hid (xl.length ≤ 300 ∧ lvH (xs.take k) ≤ 2200 ∧ lvH (xs.take (k + 1)) ≤ 2200 ∧ lvH (xs.take (k + 1)) = lvH (xs.take k) + (4 * xl.length + 20) ∧ k + 1 ≤ 50) := hid ⟨hfa.2.2.1, hfa.2.2.2.1, hfa.2.2.2.2.1, hfa.2.2.2.2.2, hk50⟩
    have HIn := hid hin
    clear hin hfa hk50
    by_cases hk0 : xk = 0
    ·subst hk0
     have HApp := hid (HKp.out.append hN_name ⟨xt, xd, xc⟩)
     have hat2 := at_write HAt.out hN ⟨xt, xd, xc⟩
     have hbA : Below wr.heap.size wr (wr.alloc (.cells (ophC ⟨0, ⟨xt, xd, xc⟩, xl, xi, xb, xks, LA, lc, BA, bc, KA, kc⟩).toArray 33)).drew := ((Below.refl _ wr).alloc (Nat.le_refl _) (.cells (ophC ⟨0, ⟨xt, xd, xc⟩, xl, xi, xb, xks, LA, lc, BA, bc, KA, kc⟩).toArray 33)).drew
     have HW1 := hid (HW.out.below hbA)
     have HOb := hid ((BxA.new wr 33 (ophC ⟨0, ⟨xt, xd, xc⟩, xl, xi, xb, xks, LA, lc, BA, bc, KA, kc⟩)).below (Below.refl _ _).drew)
     have HXb : Hid (XN X wr (wr.alloc (.cells (ophC ⟨0, ⟨xt, xd, xc⟩, xl, xi, xb, xks, LA, lc, BA, bc, KA, kc⟩).toArray 33)).drew wr.heap.size) := hid (XN.new (by show _ < (wr.alloc _).heap.size; simp))
     have Ha1 := hid (Ha.out.below hbA)
     have Hs1 := hid (Hs.out.below hbA)
     clear hbA HW Ha Hs
     have HCa := hid (jappend12_calls w1 _ _ _ b S jb hN HW1.out.j (HAt.out.fit (by have := HFb.out; omega)) HT1.out ⟨xt, xd, xc⟩)
     obtain ⟨res, hres⟩ : ∃ res, res = appendJ S hN ⟨xt, xd, xc⟩ := ⟨_, rfl⟩
     rw [← hres] at HApp HCa hat2
     obtain ⟨S2, z⟩ := res
     simp only at HApp HCa hat2
     have HAt2 : Hid (S2.At (1 + lvH (xs.take (k + 1)))) := hid (hat2.mono (by have := HFb.out; omega))
     have KK0 := (And.intro (HW1.out.box.c 1 rfl) (And.intro (HOb.out.c 1 rfl) (And.intro (HOb.out.c 2 rfl) (HOb.out.c 3 rfl))))
     clear hres hat2
     go_upto_region 14 with fail
     refine wp_region_held_drew (S := (fun w' => w'.cell? ⟨wb, 1, none⟩ = some (jP jb) ∧ w'.cell? ⟨wr.heap.size, 1, none⟩ = some (.int .i64 xt) ∧ w'.cell? ⟨wr.heap.size, 2, none⟩ = some (.string (bs xd)) ∧ w'.cell? ⟨wr.heap.size, 3, none⟩ = some (.string (bs xc)))) (by kernel_rfl) KK0 (fun hHeld => ?_)
     refine tkH 0 ?_
     refine tkH 1 ?_
     refine tkH 2 ?_
     refine tkH 3 ?_
     refine tkH 4 ?_
     refine tkH 5 ?_
     refine rdH 6 fun K hK => ?_
     go_simp
     refine HCa.out.mono ?_; rintro e y1 ⟨rfl, hj, ho⟩; have HW2 := hid (HW1.out.turnJ hj ho); have HOb2 := hid (HOb.out.keep ho (fun hn => hn HXb.out)); have Ha2 := hid (Ha1.out.keep ho (fun _ h => h)); have Hs2 := hid (Hs1.out.keep ho (fun _ h => h)); have KK1 := (And.intro (HW2.out.box.c 1 rfl) (And.intro (HOb2.out.c 1 rfl) (And.intro (HOb2.out.c 2 rfl) (HOb2.out.c 3 rfl)))); clear hj ho HCa
     refine hK.out _ _ KK1 (fun hHeld => ?_)
     clear hK K
     refine tkH 7 ?_
     refine wpAnyH_done (by kernel_rfl) ?_ _
     clear KK0 KK1
     have o1 := HOb2.out.c 1 rfl
     have o2 := HOb2.out.c 2 rfl
     have o3 := HOb2.out.c 3 rfl
     have x0 := HW2.out.box.c 0 rfl
     rcases HApp.out with ⟨rfl, hz0, hz1⟩ | ⟨rfl, hkp⟩ | ⟨rfl, hdn, hpe, hkd⟩
     ·have q0 : (z == 0) = false := beq_eq_false_iff_ne.2 hz0
      have q1 : (z == 100) = false := beq_eq_false_iff_ne.2 hz1
      clear hz0 hz1 HApp
      obtain ⟨O5, D5, hat5⟩ := HW2.out.j.fx.at_
      have HDn := hid (fdown_calls y1 O5 D5 b S2 hat5 (HAt2.out.fit (by have := HFb.out; omega)))
      clear hat5
      rw [HKp.out.up] at HDn
      go_wp2_with fail
      refine HDn.out.mono ?_
      rintro e y3 ⟨rfl, hb3⟩
      have HW3 := hid (HW2.out.below hb3)
      have Ha3 := hid (Ha2.out.below hb3)
      have Hs3 := hid (Hs2.out.below hb3)
      clear hb3 HDn x0 o1 o2 o3
      go_wp2_with fail
      go_roundw
      case rel => exact ⟨k + 1, _, _, _, a, s, by omega, by go_num, rfl, rfl, HW3, HAt2, Ha3, Hs3, HAp, hid (by have := HLn.out; omega), HKp⟩
      case measure => simp [intOf]; omega
     ·have HKp2 := hid hkp
      clear hkp HApp x0
      have hbB := (Below.refl _ y1).alloc (Nat.le_refl _) (.cells (enC ⟨xt, xd, xc⟩).toArray 56)
      have hw3 := HW2.out.below hbB
      have hs3 := Hs2.out.below hbB
      have ha3 := Ha2.out.below hbB
      have hlit := rowT_box (C := enC) (ls := [(⟨xt, xd, xc⟩ : EnJ)]) (D := fun _ => True) (t := 56) (BxA.new y1 56 (enC ⟨xt, xd, xc⟩)) trivial
      obtain ⟨v7', w4, hrun, hg⟩ := hw3.grow hs3 (some ⟨y1.heap.size, 0, none⟩) 1 [⟨xt, xd, xc⟩] (fun h => by cases h) hlit (by have := HLn.out; have := HFb.out; show s.length + 1 ≤ _; omega)
      have HRun := hid hrun
      have HW4 := hid hg.wk
      have Hs4 := hid hg.own
      have Ha4 := hid (ha3.apart hg.only (fun g h1 h2 => HAp.out g h1 h2))
      have HAp4 := hid (HAp.out.grew ha3 hg.blk)
      have x0 := HW4.out.box.c 0 rfl
      clear hbB hw3 hs3 ha3 hlit hrun hg
      obtain ⟨O5, D5, hat5⟩ := HW4.out.j.fx.at_
      have HDn := hid (fdown_calls w4 O5 D5 b S2 hat5 (HAt2.out.fit (by have := HFb.out; omega)))
      clear hat5
      rw [HKp2.out.up] at HDn
      go_wp2_with (at_builtin; refine wpList_append_g2 (by rfl) (.tmp 71) (.tmp 74) 38 38 rfl _ _ rfl rfl HRun.out ?_)
      refine HDn.out.mono ?_
      rintro e y3 ⟨rfl, hb3⟩
      have HW5 := hid (HW4.out.below hb3)
      have Ha5 := hid (Ha4.out.below hb3)
      have Hs5 := hid (Hs4.out.below hb3)
      clear hb3 HDn x0 o1 o2 o3
      go_wp2_with fail
      go_roundw
      case rel => exact ⟨k + 1, _, _, _, a, (s ++ [_]), by omega, by go_num, rfl, rfl, HW5, HAt2, Ha5, Hs5, HAp4, hid (by have := HLn.out; simp only [List.length_append, List.length_cons, List.length_nil]; omega), HKp2⟩
      case measure => simp [intOf]; omega
     ·have HKd2 := hid hkd
      obtain ⟨O4, D4, hat4⟩ := HW2.out.j.fx.at_
      have HPd := hid (fpending_calls y1 O4 D4 b S2 hat4 (HAt2.out.fit (by have := HFb.out; omega)))
      obtain ⟨pn, hpn⟩ : ∃ pn : Nat, pn = S2.pend := ⟨_, rfl⟩
      rw [← hpn] at HPd
      have q3 : decide ((s.length : Int) < (pn : Int)) = true := decide_eq_true (by omega)
      have q4 : decide (s.length < pn) = true := decide_eq_true (by omega)
      clear hkd HApp hpe hat4 hpn
      go_wp2_with fail
      refine HPd.out.mono ?_
      rintro e y2 ⟨rfl, hb2⟩
      have HW2b := hid (HW2.out.below hb2)
      have Ha2b := hid (Ha2.out.below hb2)
      have Hs2b := hid (Hs2.out.below hb2)
      have HOb2b := hid (HOb2.out.below hb2)
      clear hb2 HPd o1 o2 o3 x0
      have o1 := HOb2b.out.c 1 rfl
      have o2 := HOb2b.out.c 2 rfl
      have o3 := HOb2b.out.c 3 rfl
      have hbB := (Below.refl _ y2).alloc (Nat.le_refl _) (.cells (enC ⟨xt, xd, xc⟩).toArray 56)
      have hw3 := HW2b.out.below hbB
      have hs3 := Hs2b.out.below hbB
      have ha3 := Ha2b.out.below hbB
      have hlit := rowT_box (C := enC) (ls := [(⟨xt, xd, xc⟩ : EnJ)]) (D := fun _ => True) (t := 56) (BxA.new y2 56 (enC ⟨xt, xd, xc⟩)) trivial
      obtain ⟨v7', w4, hrun, hg⟩ := hw3.grow hs3 (some ⟨y2.heap.size, 0, none⟩) 1 [⟨xt, xd, xc⟩] (fun h => by cases h) hlit (by have := HLn.out; have := HFb.out; show s.length + 1 ≤ _; omega)
      have HRun := hid hrun
      have HW4 := hid hg.wk
      have Hs4 := hid hg.own
      have Ha4 := hid (ha3.apart hg.only (fun g h1 h2 => HAp.out g h1 h2))
      have HAp4 := hid (HAp.out.grew ha3 hg.blk)
      have x0 := HW4.out.box.c 0 rfl
      clear hbB hw3 hs3 ha3 hlit hrun hg
      obtain ⟨O5, D5, hat5⟩ := HW4.out.j.fx.at_
      have HDn := hid (fdown_calls w4 O5 D5 b S2 hat5 (HAt2.out.fit (by have := HFb.out; omega)))
      clear hat5
      rw [hdn] at HDn
      go_wp2_with (at_builtin; refine wpList_append_g2 (by rfl) (.tmp 71) (.tmp 74) 38 38 rfl _ _ rfl rfl HRun.out ?_)
      refine HDn.out.mono ?_
      rintro e y3 ⟨rfl, hb3⟩
      have HW5 := hid (HW4.out.below hb3)
      have Ha5 := hid (Ha4.out.below hb3)
      have Hs5 := hid (Hs4.out.below hb3)
      clear hb3 HDn x0 o1 o2 o3 q3 q4
      go_wp2_with fail
      go_meet
      exact ⟨_, _, _, a, (s ++ [_]), [], false, rfl, HW5, hid (HAt2.out.mono (by have := HFb.out; omega)), Ha5, Hs5, hid (OwnN.nil _ _ _ _ _), hid ⟨by have := HLn.out; have := HFb.out; omega, by rw [List.length_append]; show s.length + 1 ≤ 400; have := HLn.out; have := HFb.out; omega, Nat.zero_le _⟩, HKd2⟩
    by_cases hk1 : xk = 1
    ·have hk0 := hk1
     clear hk1
     subst hk0
     have HSy := hid HKp.out.sync
     have hat2 := HAt.out.syncJ hN
     have hbA : Below wr.heap.size wr (wr.alloc (.cells (ophC ⟨1, ⟨xt, xd, xc⟩, xl, xi, xb, xks, LA, lc, BA, bc, KA, kc⟩).toArray 33)) := ((Below.refl _ wr).alloc (Nat.le_refl _) (.cells (ophC ⟨1, ⟨xt, xd, xc⟩, xl, xi, xb, xks, LA, lc, BA, bc, KA, kc⟩).toArray 33))
     have HW1 := hid (HW.out.below hbA)
     have HOb := hid ((BxA.new wr 33 (ophC ⟨1, ⟨xt, xd, xc⟩, xl, xi, xb, xks, LA, lc, BA, bc, KA, kc⟩)).below (Below.refl _ _))
     have HXb : Hid (XN X wr (wr.alloc (.cells (ophC ⟨1, ⟨xt, xd, xc⟩, xl, xi, xb, xks, LA, lc, BA, bc, KA, kc⟩).toArray 33)) wr.heap.size) := hid (XN.new (by show _ < (wr.alloc _).heap.size; simp))
     have Ha1 := hid (Ha.out.below hbA)
     have Hs1 := hid (Hs.out.below hbA)
     clear hbA HW Ha Hs
     have HCa := hid (jsync12_calls w1 _ _ _ b S jb hN HW1.out.j (HAt.out.fit (by have := HFb.out; omega)))
     obtain ⟨res, hres⟩ : ∃ res, res = syncJ S hN := ⟨_, rfl⟩
     rw [← hres] at HSy HCa hat2
     obtain ⟨S2, z⟩ := res
     simp only at HSy HCa hat2
     have HAt2 : Hid (S2.At (1 + lvH (xs.take (k + 1)))) := hid (hat2.mono (by have := HFb.out; omega))
     have x1 := HW1.out.box.c 1 rfl
     clear hres hat2
     go_wp2_with fail
     refine HCa.out.mono ?_
     rintro e y1 ⟨rfl, hj, ho⟩
     have HW2 := hid (HW1.out.turnJ hj ho)
     have Ha2 := hid (Ha1.out.keep ho (fun _ h => h))
     have Hs2 := hid (Hs1.out.keep ho (fun _ h => h))
     clear hj ho HCa x1 HW1 HOb HXb Ha1 Hs1
     rcases HSy.out with ⟨rfl, hkp⟩ | ⟨rfl, hdn, hkd⟩
     ·have HKp2 := hid hkp
      obtain ⟨v6', w4, hrun, hg⟩ := HW2.out.grow Ha2.out A7 c7 s Hs2.out.none_ Hs2.out.row (by have := HLn.out; have := HFb.out; omega)
      have HRun := hid hrun
      have HW4 := hid hg.wk
      have Ha4 := hid hg.own
      have x0 := HW4.out.box.c 0 rfl
      clear hkp HSy hrun hg
      obtain ⟨O5, D5, hat5⟩ := HW4.out.j.fx.at_
      have HDn := hid (fdown_calls w4 O5 D5 b S2 hat5 (HAt2.out.fit (by have := HFb.out; omega)))
      clear hat5
      rw [HKp2.out.up] at HDn
      go_wp2_with (at_builtin; refine wpList_append_g2 (by rfl) (.tmp 84) (.tmp 85) 38 38 rfl _ _ rfl rfl HRun.out ?_)
      refine HDn.out.mono ?_
      rintro e y3 ⟨rfl, hb3⟩
      have HW5 := hid (HW4.out.below hb3)
      have Ha5 := hid (Ha4.out.below hb3)
      clear hb3 HDn x0
      go_wp2_with fail
      go_roundw
      case rel => exact ⟨k + 1, _, _, _, (a ++ s), [], by omega, by go_num, rfl, rfl, HW5, HAt2, Ha5, hid (OwnN.nil _ _ _ _ _), hid (Apart.nil _), hid (by have := HLn.out; simp only [List.length_append, List.length_nil]; omega), HKp2⟩
      case measure => simp [intOf]; omega
     ·have HKd2 := hid hkd
      have x0 := HW2.out.box.c 0 rfl
      clear hkd HSy
      obtain ⟨O5, D5, hat5⟩ := HW2.out.j.fx.at_
      have HDn := hid (fdown_calls y1 O5 D5 b S2 hat5 (HAt2.out.fit (by have := HFb.out; omega)))
      clear hat5
      rw [hdn] at HDn
      go_wp2_with fail
      refine HDn.out.mono ?_
      rintro e y3 ⟨rfl, hb3⟩
      have HW5 := hid (HW2.out.below hb3)
      have Ha5 := hid (Ha2.out.below hb3)
      have Hs5 := hid (Hs2.out.below hb3)
      clear hb3 HDn x0
      go_wp2_with fail
      go_meet
      exact ⟨_, _, _, a, s, [], false, rfl, HW5, hid (HAt2.out.mono (by have := HFb.out; omega)), Ha5, Hs5, hid (OwnN.nil _ _ _ _ _), hid ⟨by have := HLn.out; have := HFb.out; omega, by have := HLn.out; have := HFb.out; omega, Nat.zero_le _⟩, HKd2⟩
    by_cases hk2 : xk = 2
    ·have hk0 := hk2
     clear hk1 hk2
     subst hk0
     have HCm := hid (HKp.out.compact hN_name otN_name xl)
     have hat2 := HAt.out.compactJ hN xl
     have hbA : Below wr.heap.size wr (wr.alloc (.cells (ophC ⟨2, ⟨xt, xd, xc⟩, xl, xi, xb, xks, LA, lc, BA, bc, KA, kc⟩).toArray 33)) := ((Below.refl _ wr).alloc (Nat.le_refl _) (.cells (ophC ⟨2, ⟨xt, xd, xc⟩, xl, xi, xb, xks, LA, lc, BA, bc, KA, kc⟩).toArray 33))
     have HW1 := hid (HW.out.below hbA)
     have HOb := hid ((BxA.new wr 33 (ophC ⟨2, ⟨xt, xd, xc⟩, xl, xi, xb, xks, LA, lc, BA, bc, KA, kc⟩)).below (Below.refl _ _))
     have HXb : Hid (XN X wr (wr.alloc (.cells (ophC ⟨2, ⟨xt, xd, xc⟩, xl, xi, xb, xks, LA, lc, BA, bc, KA, kc⟩).toArray 33)) wr.heap.size) := hid (XN.new (by show _ < (wr.alloc _).heap.size; simp))
     have Ha1 := hid (Ha.out.below hbA)
     have Hs1 := hid (Hs.out.below hbA)
     clear hbA HW Ha Hs
     have HCa := hid (fun y X2 Y2 A2 c2 hj hr => jcompact12_calls w1 y X2 Y2 b S jb hN hj _ HAt.out hN_le HT1.out A2 c2 xl hr (by have := HFb.out; omega))
     obtain ⟨res, hres⟩ : ∃ res, res = compactJ S hN xl := ⟨_, rfl⟩
     rw [← hres] at HCm hat2
     simp only [← hres] at HCa
     obtain ⟨S2, z⟩ := res
     simp only at HCm HCa hat2
     have HAt2 : Hid (S2.At (1 + lvH (xs.take (k + 1)))) := hid (hat2.mono (by have := HFb.out; omega))
     have x0 := HW1.out.box.c 0 rfl
     clear hres hat2
     obtain ⟨O4, D4, hat4⟩ := HW1.out.j.fx.at_
     have HDn0 := hid (fdown_calls (wr.alloc (.cells (ophC ⟨2, ⟨xt, xd, xc⟩, xl, xi, xb, xks, LA, lc, BA, bc, KA, kc⟩).toArray 33)) O4 D4 b S hat4 (HAt.out.fit (by have := HFb.out; omega)))
     clear hat4
     rw [HKp.out.up] at HDn0
     go_wp2_with fail
     refine HDn0.out.mono ?_
     rintro e y0 ⟨rfl, hb0⟩
     have hbd := hb0.drew
     have hwd := HW1.out.below hbd
     have had := Ha1.out.below hbd
     have hsd := Hs1.out.below hbd
     have hxd : XN (XN X wr (wr.alloc (.cells (ophC ⟨2, ⟨xt, xd, xc⟩, xl, xi, xb, xks, LA, lc, BA, bc, KA, kc⟩).toArray 33))) (wr.alloc (.cells (ophC ⟨2, ⟨xt, xd, xc⟩, xl, xi, xb, xks, LA, lc, BA, bc, KA, kc⟩).toArray 33)) y0.drew wr.heap.size := .inl HXb.out
     obtain ⟨Xd, hXd⟩ : ∃ Xd, XN (XN X wr (wr.alloc (.cells (ophC ⟨2, ⟨xt, xd, xc⟩, xl, xi, xb, xks, LA, lc, BA, bc, KA, kc⟩).toArray 33))) (wr.alloc (.cells (ophC ⟨2, ⟨xt, xd, xc⟩, xl, xi, xb, xks, LA, lc, BA, bc, KA, kc⟩).toArray 33)) y0.drew = Xd := ⟨_, rfl⟩
     obtain ⟨Yd, hYd⟩ : ∃ Yd, XN (XN Y wr (wr.alloc (.cells (ophC ⟨2, ⟨xt, xd, xc⟩, xl, xi, xb, xks, LA, lc, BA, bc, KA, kc⟩).toArray 33))) (wr.alloc (.cells (ophC ⟨2, ⟨xt, xd, xc⟩, xl, xi, xb, xks, LA, lc, BA, bc, KA, kc⟩).toArray 33)) y0.drew = Yd := ⟨_, rfl⟩
     rw [hXd] at hwd had hsd hxd
     rw [hYd] at hwd had hsd
     have HWd := hid hwd
     have Had := hid had
     have Hsd := hid hsd
     have HXd := hid hxd
     have HObd := hid (HOb.out.below hbd)
     have HNw := hid (new12_calls y0.drew _ LA lc xl (HWd.out.oldE HIn.out.l) (by have := HFb.out; omega))
     have KK0 := (And.intro (HWd.out.box.c 1 rfl) (HObd.out.c 4 rfl))
     clear hb0 hbd hwd had hsd hxd hXd hYd HDn0 x0 HW1 HOb HXb Ha1 Hs1
     go_upto_region 22 with fail
     refine wp_region_held_drew (S := (fun w' => w'.cell? ⟨wb, 1, none⟩ = some (jP jb) ∧ w'.cell? ⟨wr.heap.size, 4, none⟩ = some (.slice LA xl.length lc))) (by kernel_rfl) KK0 (fun hHeld => ?_)
     refine tkH 0 ?_
     refine tkH 1 ?_
     refine tkH 2 ?_
     refine tkH 3 ?_
     refine tkH 4 ?_
     refine tkH 5 ?_
     refine rdH 6 fun K hK => ?_
     go_simp
     refine HNw.out.mono ?_; rintro e y1 ⟨A5, c5, rfl, hown, hb⟩; have HWn := hid (HWd.out.below hb); have HObn := hid (HObd.out.below hb); have Han := hid (Had.out.below hb); have Hsn := hid (Hsd.out.below hb); have HRn := hid (rowT_of_own (C := enC) (R := XN Xd y0.drew y1) hown (fun g hg => .inr (hown.lt g hg))); have KK1 := (And.intro (HWn.out.box.c 1 rfl) (HObn.out.c 4 rfl)); clear hown hb HNw
     refine hK.out _ _ KK1 (fun hHeld => ?_)
     clear hK K
     refine rdH 7 fun K hK => ?_
     go_simp
     refine (HCa.out _ _ _ _ _ HWn.out.j HRn.out).mono ?_; rintro e y2 ⟨rfl, hj, ho⟩; have HW2 := hid (HWn.out.turnJ hj ho); have HOb2 := hid (HObn.out.keep ho (fun hn => hn (.inl HXd.out))); have Ha2 := hid (Han.out.keep ho (fun _ h => h)); have Hs2 := hid (Hsn.out.keep ho (fun _ h => h)); have KK2 := (And.intro (HW2.out.box.c 1 rfl) (HOb2.out.c 4 rfl)); clear hj ho HCa
     refine hK.out _ _ KK2 (fun hHeld => ?_)
     clear hK K
     refine tkH 8 ?_
     refine wpAnyH_done (by kernel_rfl) ?_ _
     clear KK0 KK1 KK2
     obtain ⟨Xe, hXe⟩ : ∃ Xe, XN Xd y0.drew y1 = Xe := ⟨_, rfl⟩
     obtain ⟨Ye, hYe⟩ : ∃ Ye, XN Yd y0.drew y1 = Ye := ⟨_, rfl⟩
     rw [hXe, hYe] at HW2 Ha2 Hs2
     clear hXe hYe HWn HObn Han Hsn HRn HWd HObd Had Hsd HXd
     rcases HCm.out with ⟨rfl, hkp⟩ | ⟨rfl, hdn, hkd⟩ | ⟨hz0, hz1, hkk⟩
     ·have HKp2 := hid hkp
      clear hkp HCm
      have HNw := hid (new12_calls y2 _ LA lc xl (HW2.out.oldE HIn.out.l) (by have := HFb.out; omega))
      have o4 := HOb2.out.c 4 rfl
      go_wp2_with fail
      refine HNw.out.mono ?_
      rintro e y3 ⟨A8, c8, rfl, hown, hb3⟩
      have HW3 := hid (HW2.out.below hb3)
      have Ha3 := hid (Ha2.out.below hb3)
      have Hs3 := hid (Hs2.out.below hb3)
      have Hn3 := hid (OwnN.of_new (w0 := w1) (X := Xe) (Y := Ye) hown HW2.out.bel.size)
      have x0 := HW3.out.box.c 0 rfl
      clear hown hb3 HNw o4
      obtain ⟨O5, D5, hat5⟩ := HW3.out.j.fx.at_
      have HDn := hid (fdown_calls y3 O5 D5 b S2 hat5 (HAt2.out.fit (by have := HFb.out; omega)))
      clear hat5
      rw [HKp2.out.up] at HDn
      go_wp2_with fail
      refine HDn.out.mono ?_
      rintro e y4 ⟨rfl, hb4⟩
      have HW5 := hid (HW3.out.below hb4)
      have Ha5 := hid (Hn3.out.below hb4)
      clear hb4 HDn x0
      go_wp2_with fail
      go_roundw
      case rel => exact ⟨k + 1, _, _, _, xl, [], by omega, by go_num, rfl, rfl, HW5, HAt2, Ha5, hid (OwnN.nil _ _ _ _ _), hid (Apart.nil _), hid (by have := HFb.out; simp only [List.length_nil]; omega), HKp2⟩
      case measure => simp [intOf]; omega
     ·have HKd2 := hid hkd
      clear hkd HCm
      have HNw := hid (new12_calls y2 _ LA lc xl (HW2.out.oldE HIn.out.l) (by have := HFb.out; omega))
      have o4 := HOb2.out.c 4 rfl
      go_wp2_with fail
      refine HNw.out.mono ?_
      rintro e y3 ⟨A8, c8, rfl, hown, hb3⟩
      have HW3 := hid (HW2.out.below hb3)
      have Ha3 := hid (Ha2.out.below hb3)
      have Hs3 := hid (Hs2.out.below hb3)
      have Hn3 := hid (OwnN.of_new (w0 := w1) (X := Xe) (Y := Ye) hown HW2.out.bel.size)
      have x0 := HW3.out.box.c 0 rfl
      clear hown hb3 HNw o4
      obtain ⟨O5, D5, hat5⟩ := HW3.out.j.fx.at_
      have HDn := hid (fdown_calls y3 O5 D5 b S2 hat5 (HAt2.out.fit (by have := HFb.out; omega)))
      clear hat5
      rw [hdn] at HDn
      go_wp2_with fail
      refine HDn.out.mono ?_
      rintro e y4 ⟨rfl, hb4⟩
      have HW5 := hid (HW3.out.below hb4)
      have Ha5 := hid (Ha3.out.below hb4)
      have Hs5 := hid (Hs3.out.below hb4)
      have Hn5 := hid (Hn3.out.below hb4)
      clear hb4 HDn x0
      go_wp2_with fail
      go_meet
      exact ⟨_, _, _, a, s, xl, true, rfl, HW5, hid (HAt2.out.mono (by have := HFb.out; omega)), Ha5, Hs5, Hn5, hid ⟨by have := HLn.out; have := HFb.out; omega, by have := HLn.out; have := HFb.out; omega, by have := HFb.out; omega⟩, HKd2⟩
     ·have q0 : (z == 0) = false := beq_eq_false_iff_ne.2 hz0
      have q1 : (z == 100) = false := beq_eq_false_iff_ne.2 hz1
      have x0 := HW2.out.box.c 0 rfl
      clear HCm hz0 hz1
      obtain ⟨O5, D5, hat5⟩ := HW2.out.j.fx.at_
      have HDn := hid (fdown_calls y2 O5 D5 b S2 hat5 (HAt2.out.fit (by have := HFb.out; omega)))
      clear hat5
      rcases hkk with hkp | ⟨hdn, hkd⟩
      ·have HKp2 := hid hkp
       rw [hkp.up] at HDn
       clear hkp
       go_wp2_with fail
       refine HDn.out.mono ?_
       rintro e y4 ⟨rfl, hb4⟩
       have HW5 := hid (HW2.out.below hb4)
       have Ha5 := hid (Ha2.out.below hb4)
       have Hs5 := hid (Hs2.out.below hb4)
       clear hb4 HDn x0
       go_wp2_with fail
       go_roundw
       case rel => exact ⟨k + 1, _, _, _, a, s, by omega, by go_num, rfl, rfl, HW5, HAt2, Ha5, Hs5, HAp, hid (by have := HLn.out; omega), HKp2⟩
       case measure => simp [intOf]; omega
      ·have HKd2 := hid hkd
       rw [hdn] at HDn
       clear hkd
       go_wp2_with fail
       refine HDn.out.mono ?_
       rintro e y4 ⟨rfl, hb4⟩
       have HW5 := hid (HW2.out.below hb4)
       have Ha5 := hid (Ha2.out.below hb4)
       have Hs5 := hid (Hs2.out.below hb4)
       clear hb4 HDn x0
       go_wp2_with fail
       go_meet
       exact ⟨_, _, _, a, s, [], false, rfl, HW5, hid (HAt2.out.mono (by have := HFb.out; omega)), Ha5, Hs5, hid (OwnN.nil _ _ _ _ _), hid ⟨by have := HLn.out; have := HFb.out; omega, by have := HLn.out; have := HFb.out; omega, Nat.zero_le _⟩, HKd2⟩
    have t0 : (xk == 0) = false := beq_eq_false_iff_ne.2 hk0
    have t1 : (xk == 1) = false := beq_eq_false_iff_ne.2 hk1
    have t2 : (xk == 2) = false := beq_eq_false_iff_ne.2 hk2
    have HAt2 : Hid (S.At (1 + lvH (xs.take (k + 1)))) := hid (HAt.out.mono (by have := HFb.out; omega))
    have hbA : Below wr.heap.size wr (wr.alloc (.cells (ophC ⟨xk, ⟨xt, xd, xc⟩, xl, xi, xb, xks, LA, lc, BA, bc, KA, kc⟩).toArray 33)) := ((Below.refl _ wr).alloc (Nat.le_refl _) (.cells (ophC ⟨xk, ⟨xt, xd, xc⟩, xl, xi, xb, xks, LA, lc, BA, bc, KA, kc⟩).toArray 33))
    have HW1 := hid (HW.out.below hbA)
    have HOb := hid ((BxA.new wr 33 (ophC ⟨xk, ⟨xt, xd, xc⟩, xl, xi, xb, xks, LA, lc, BA, bc, KA, kc⟩)).below (Below.refl _ _))
    have HXb : Hid (XN X wr (wr.alloc (.cells (ophC ⟨xk, ⟨xt, xd, xc⟩, xl, xi, xb, xks, LA, lc, BA, bc, KA, kc⟩).toArray 33)) wr.heap.size) := hid (XN.new (by show _ < (wr.alloc _).heap.size; simp))
    have Ha1 := hid (Ha.out.below hbA)
    have Hs1 := hid (Hs.out.below hbA)
    clear hbA HW Ha Hs
    have x0 := HW1.out.box.c 0 rfl
    clear HOb HXb
    obtain ⟨O5, D5, hat5⟩ := HW1.out.j.fx.at_
    have HDn := hid (fdown_calls (wr.alloc (.cells (ophC ⟨xk, ⟨xt, xd, xc⟩, xl, xi, xb, xks, LA, lc, BA, bc, KA, kc⟩).toArray 33)) O5 D5 b S hat5 (HAt2.out.fit (by have := HFb.out; omega)))
    clear hat5
    rw [HKp.out.up] at HDn
    go_wp2_with fail
    refine HDn.out.mono ?_
    rintro e y3 ⟨rfl, hb3⟩
    have HW3 := hid (HW1.out.below hb3)
    have Ha3 := hid (Ha1.out.below hb3)
    have Hs3 := hid (Hs1.out.below hb3)
    clear hb3 HDn x0
    go_wp2_with fail
    go_roundw
    case rel => exact ⟨k + 1, _, _, _, a, s, by omega, by go_num, rfl, rfl, HW3, HAt2, Ha3, Hs3, HAp, hid (by have := HLn.out; omega), HKp⟩
    case measure => simp [intOf]; omega
   ·obtain rfl : k = xs.length := by omega
    have HFb : Hid (lvH (xs.take xs.length) ≤ 2200 ∧ xs.length ≤ 50) := hid ⟨by rw [List.take_length]; exact lv_le HFe2.out.1 HFe2.out.2, HFe2.out.1⟩
    clear hlt hk
    go_wp2_with fail
    go_meet
    exact ⟨_, _, _, a, s, [], false, rfl, HW, hid (HAt.out.mono (by have := HFb.out; omega)), Ha, Hs, hid (OwnN.nil _ _ _ _ _), hid ⟨by have := HLn.out; have := HFb.out; omega, by have := HLn.out; have := HFb.out; omega, Nat.zero_le _⟩, hid HKp.out.toKeepD⟩
 case rest =>
  clear HW3 HAt0 HKp0
  obtain ⟨X, Y, S, a, s, nx, q, rfl, HW, HAt, Ha, Hs, Hn, HLn, HKd⟩ := hcut
  obtain ⟨A6, c6, rfl⟩ := Ha.out.form
  obtain ⟨A7, c7, rfl⟩ := Hs.out.form
  obtain ⟨A8, c8, rfl⟩ := Hn.out.form
  have hac := HAt.out.crash cks
  obtain ⟨D, l, hop⟩ := opens_of (S := S.crash cks) ⟨rfl, rfl⟩ hac.ok (n := hN) (by decide) (by decide)
  have HKb := hid (keeps_back HKd.out hop)
  have he1 := hop.is_
  have hle := openJ_len hac hN
  rw [he1] at hle
  simp only at hle
  have HE1 := hid he1
  have HLe := hid hle
  have HAc := hid hac
  have hbd : Below wc.heap.size wc wc.drew := (Below.refl _ wc).drew
  have hwd := HW.out.below hbd
  have had := Ha.out.below hbd
  have hsd := Hs.out.below hbd
  have hnd := Hn.out.below hbd
  obtain ⟨X5, hX5⟩ : ∃ X5, XN X wc wc.drew = X5 := ⟨_, rfl⟩
  obtain ⟨Y5, hY5⟩ : ∃ Y5, XN Y wc wc.drew = Y5 := ⟨_, rfl⟩
  rw [hX5, hY5] at hwd had hsd hnd
  have HWd := hid hwd
  have Had := hid had
  have Hsd := hid hsd
  have Hnd := hid hnd
  have KK0 := And.intro (HWd.out.box.c 0 rfl) ((HCx.out _ HWd.out.bel).c 1 rfl)
  clear hac hop he1 hle hbd hwd had hsd hnd hX5 hY5 HW Ha Hs Hn HKd
  simp only at KK0
  go_upto_region 29 with fail
  refine wp_region_held_drew (S := (fun w' => w'.cell? ⟨wb, 0, none⟩ = some (fp b) ∧ w'.cell? ⟨w.heap.size, 1, none⟩ = some (.slice CA cks.length cc))) (by kernel_rfl) KK0 (fun hHeld => ?_)
  refine tkH 0 ?_
  refine tkH 1 ?_
  refine tkH 2 ?_
  refine tkH 3 ?_
  refine tkH 4 ?_
  refine tkH 5 ?_
  refine rdH 6 fun K hK => ?_
  go_simp
  refine (HWd.out.j.fx.step (S2 := S.crash cks) (fun O D hh hXO => fcrash_calls _ O D b S hh (HAt.out.fit (by omega)) CA cc cks ((HWd.out.oldK HCK.out).mono fun k hk => (hXO k hk).2) (by have := HKl.out; omega))).mono ?_; rintro e y1 ⟨rfl, hf, ho⟩; have HW5 := hid (HWd.out.turn hf ho); have Ha5 := hid (Had.out.keep ho (fun _ h => h)); have Hs5 := hid (Hsd.out.keep ho (fun _ h => h)); have Hn5 := hid (Hnd.out.keep ho (fun _ h => h)); have KK1 := And.intro (HW5.out.box.c 0 rfl) ((HCx.out _ HW5.out.bel).c 1 rfl); clear hf ho
  refine hK.out _ _ KK1 (fun hHeld => ?_)
  clear hK K
  refine wpAnyH_done (by kernel_rfl) ?_ _
  clear KK0 KK1 HWd Had Hsd Hnd
  have HO := hid (jopen12_calls w1 y1 _ _ b _ HW5.out.j.fx hN hN_le 2300 HAc.out (by omega) HT1.out)
  rw [HE1.out] at HO
  simp only at HO
  have x0 := HW5.out.box.c 0 rfl
  go_wp2_with fail
  refine HO.out.mono ?_
  rintro x w4 ⟨v4, A4, c4, X4, Y4, rfl, hO⟩
  have HB4 := hid hO.fx.bel
  have HRl := hid hO.row
  have HRa := hid (Ha5.out.keep hO.only (fun _ h => h)).row
  have HRs := hid (Hs5.out.keep hO.only (fun _ h => h)).row
  have HRn := hid (Hn5.out.keep hO.only (fun _ h => h)).row
  have HNa := hid Ha5.out.none_
  have HNs := hid Hs5.out.none_
  clear hO HO x0 HW5 Ha5 Hs5 Hn5
  cases q
  ·obtain ⟨t, ht⟩ : ∃ t : Nat, t = a.length + s.length := ⟨_, rfl⟩
   have d1 : decide ((l.length : Int) < (a.length : Int)) = false := decide_eq_false (by have := HKb.out.1; omega)
   have d1' : decide (l.length < a.length) = false := decide_eq_false (by have := HKb.out.1; omega)
   have dw : IntKind.i64.wrap ((a.length : Int) + (s.length : Int)) = (t : Int) := by rw [IntWalk.i64_in _ (by have := HLn.out; omega)]; omega
   have d2 : decide ((t : Int) < (l.length : Int)) = false := decide_eq_false (by have := HKb.out.2.1; omega)
   have d2' : decide (t < l.length) = false := decide_eq_false (by have := HKb.out.2.1; omega)
   have HA := hid (jalive12_calls w4 (HT1.out.on HB4.out))
   clear ht
   go_wp2_with fail
   refine HA.out.mono ?_
   rintro x wa ⟨rfl, hba⟩
   have HBa := hid (HB4.out.trans (hba.mono HB4.out.size))
   have HRl2 := hid (HRl.out.below hba)
   have HRa2 := hid (HRa.out.below hba)
   have HRs2 := hid (HRs.out.below hba)
   have HOa := hid (old12_calls wa _ A4 c4 l HRl2.out (by have := HLe.out; omega))
   clear hba HA d1 d1' dw d2 d2'
   go_wp2_with fail
   refine HOa.out.mono ?_
   rintro x wo ⟨A12, c12, rfl, hown12, hb12⟩
   have HRo := hid (rowT_of_own (C := enC) (R := fun _ => True) hown12 (fun _ _ => trivial))
   have HBo := hid (HBa.out.trans (hb12.mono HBa.out.size))
   have HRa3 := hid (HRa2.out.below hb12)
   have HRs3 := hid (HRs2.out.below hb12)
   clear hown12 hb12 HOa HRl2 HRa2 HRs2 HBa
   have hbE := (Below.refl _ wo).alloc (Nat.le_refl _) (.cells #[] 56)
   have hlen := HLn.out
   obtain ⟨A13, c13, w13, hrun13, hown13, hgr13, _⟩ := run_append_E 38 56 Tryz.underlying38 (by kernel_rfl) _ wo.heap.size _ [] (own_noE wo) A6 c6 a HNa.out (HRa3.out.below hbE) (by simp; omega) (by simp)
   have ho13 : Only (fun k => k = wo.heap.size) (wo.alloc (.cells #[] 56)) w13 := Only.of_grown hgr13 (fun k e => by injection e with e; exact e.symm)
   have hs13 := ((HRs3.out.cap).below hbE).keep ho13 (fun k hk e => by have := hk.2; omega)
   have hz13 : wo.heap.size ≤ w13.heap.size := Nat.le_trans hbE.size ho13.size
   obtain ⟨A14, c14, w14, hrun14, hown14, hgr14, _⟩ := run_append_E 38 56 Tryz.underlying38 (by kernel_rfl) w13 wo.heap.size _ ([] ++ a) hown13 A7 c7 s HNs.out hs13 (by simp; omega) hz13
   have hb14 : Below wo.heap.size wo w14 := (hbE.grown hgr13 hbE.size (fun k e => by have e2 : wo.heap.size = k := Option.some.inj e; omega)).grown hgr14 hz13 (fun k e => (hown13.lt k e).1)
   have HRun1 := hid hrun13
   have HRun2 := hid hrun14
   have hr14 : RowT enC w14 (fun _ => True) A14 ([] ++ a ++ s) := rowT_of_own (C := enC) (R := fun _ => True) hown14 (fun _ _ => trivial)
   have hr15 := hr14.take enC_length l.length
   rw [List.nil_append, HKb.out.2.2] at hr15
   have HR15 := hid hr15
   have HB14 := hid (HBo.out.trans (hb14.mono HBo.out.size))
   have HR12 := hid (HRo.out.below hb14)
   have hcap : ([] ++ a ++ s).length ≤ c14 := (row_len hown14)
   have hll : l.length ≤ c14 := by have := HKb.out.2.1; rw [List.nil_append, List.length_append] at hcap; omega
   have HOb := hid (fun (cz : Nat) => old12_calls w14 _ A14 cz l HR15.out (by have := HLe.out; omega))
   clear hbE hlen hrun13 hrun14 hown13 hown14 hgr13 hgr14 ho13 hs13 hz13 hb14 hr14 hr15 hcap HRa3 HRs3 HRo HBo
   go_wp2_with (first | (at_builtin; refine wpList_append_g2 (by rfl) (.tmp 168) (.tmp 169) 38 38 rfl _ _ rfl rfl HRun1.out ?_) | (at_builtin; refine wpList_append_g2 (by rfl) (.tmp 170) (.tmp 171) 38 38 rfl _ _ rfl rfl HRun2.out ?_))
   refine (HOb.out c14).mono ?_
   rintro x w15 ⟨A15, c15, rfl, hown15, hb15⟩
   have HSq := hid (rsame12_calls w15 _ _ A12 A15 c12 c15 l l (HR12.out.below hb15) (rowT_of_own (C := enC) (R := fun _ => True) hown15 (fun _ _ => trivial)) (by have := HLe.out; omega) (by have := HLe.out; omega))
   rw [decide_eq_true rfl] at HSq
   have HB15 := hid (HB14.out.trans (hb15.mono HB14.out.size))
   clear hown15 hb15 HOb HRun1 HRun2 hll HR15 HR12 HB14
   go_wp2_with fail
   refine HSq.out.mono ?_
   rintro x w16 ⟨rfl, hb16⟩
   have HB16 : Hid (Below w.heap.size w w16) := hid (HB1.out.trans ((HB15.out.trans (hb16.mono HB15.out.size)).mono HB1.out.size))
   clear hb16 HSq HB15
   go_wp2_with fail
   go_ret
   exact ⟨rfl, HB16.out⟩
  ·have HO1 := hid (old12_calls w4 _ A4 c4 l HRl.out (by have := HLe.out; omega))
   go_wp2_with fail
   refine HO1.out.mono ?_
   rintro x w5 ⟨A9, c9, rfl, hown5, hb5⟩
   have HR5 := hid (rowT_of_own (C := enC) (R := fun _ => True) hown5 (fun _ _ => trivial))
   have HO2 := hid (old12_calls w5 _ A8 c8 nx (HRn.out.below hb5) (by have := HLn.out; omega))
   have HB5 := hid (HB4.out.trans (hb5.mono HB4.out.size))
   have HRl5 := hid (HRl.out.below hb5)
   have HRa5 := hid (HRa.out.below hb5)
   have HRs5 := hid (HRs.out.below hb5)
   clear hown5 hb5 HO1 HRl HRa HRs HRn HB4
   go_wp2_with fail
   refine HO2.out.mono ?_
   rintro x w6 ⟨A10, c10, rfl, hown6, hb6⟩
   have HSm := hid (rsame12_calls w6 _ _ A9 A10 c9 c10 l nx (HR5.out.below hb6) (rowT_of_own (C := enC) (R := fun _ => True) hown6 (fun _ _ => trivial)) (by have := HLe.out; omega) (by have := HLn.out; omega))
   have HB6 := hid (HB5.out.trans (hb6.mono HB5.out.size))
   have HRl6 := hid (HRl5.out.below hb6)
   have HRa6 := hid (HRa5.out.below hb6)
   have HRs6 := hid (HRs5.out.below hb6)
   generalize decide (l = nx) = r at HSm
   clear hown6 hb6 HO2 HR5 HRl5 HRa5 HRs5 HB5
   go_wp2_with fail
   refine HSm.out.mono ?_
   rintro x w7 ⟨rfl, hb7⟩
   have HB7 := hid (HB6.out.trans (hb7.mono HB6.out.size))
   have HRl7 := hid (HRl6.out.below hb7)
   have HRa7 := hid (HRa6.out.below hb7)
   have HRs7 := hid (HRs6.out.below hb7)
   clear hb7 HSm HRl6 HRa6 HRs6 HB6
   cases r
   ·obtain ⟨t, ht⟩ : ∃ t : Nat, t = a.length + s.length := ⟨_, rfl⟩
    have d1 : decide ((l.length : Int) < (a.length : Int)) = false := decide_eq_false (by have := HKb.out.1; omega)
    have d1' : decide (l.length < a.length) = false := decide_eq_false (by have := HKb.out.1; omega)
    have dw : IntKind.i64.wrap ((a.length : Int) + (s.length : Int)) = (t : Int) := by rw [IntWalk.i64_in _ (by have := HLn.out; omega)]; omega
    have d2 : decide ((t : Int) < (l.length : Int)) = false := decide_eq_false (by have := HKb.out.2.1; omega)
    have d2' : decide (t < l.length) = false := decide_eq_false (by have := HKb.out.2.1; omega)
    have HA := hid (jalive12_calls w7 (HT1.out.on HB7.out))
    clear ht
    go_wp2_with fail
    refine HA.out.mono ?_
    rintro x wa ⟨rfl, hba⟩
    have HBa := hid (HB7.out.trans (hba.mono HB7.out.size))
    have HRl2 := hid (HRl7.out.below hba)
    have HRa2 := hid (HRa7.out.below hba)
    have HRs2 := hid (HRs7.out.below hba)
    have HOa := hid (old12_calls wa _ A4 c4 l HRl2.out (by have := HLe.out; omega))
    clear hba HA d1 d1' dw d2 d2'
    go_wp2_with fail
    refine HOa.out.mono ?_
    rintro x wo ⟨A12, c12, rfl, hown12, hb12⟩
    have HRo := hid (rowT_of_own (C := enC) (R := fun _ => True) hown12 (fun _ _ => trivial))
    have HBo := hid (HBa.out.trans (hb12.mono HBa.out.size))
    have HRa3 := hid (HRa2.out.below hb12)
    have HRs3 := hid (HRs2.out.below hb12)
    clear hown12 hb12 HOa HRl2 HRa2 HRs2 HBa
    have hbE := (Below.refl _ wo).alloc (Nat.le_refl _) (.cells #[] 56)
    have hlen := HLn.out
    obtain ⟨A13, c13, w13, hrun13, hown13, hgr13, _⟩ := run_append_E 38 56 Tryz.underlying38 (by kernel_rfl) _ wo.heap.size _ [] (own_noE wo) A6 c6 a HNa.out (HRa3.out.below hbE) (by simp; omega) (by simp)
    have ho13 : Only (fun k => k = wo.heap.size) (wo.alloc (.cells #[] 56)) w13 := Only.of_grown hgr13 (fun k e => by injection e with e; exact e.symm)
    have hs13 := ((HRs3.out.cap).below hbE).keep ho13 (fun k hk e => by have := hk.2; omega)
    have hz13 : wo.heap.size ≤ w13.heap.size := Nat.le_trans hbE.size ho13.size
    obtain ⟨A14, c14, w14, hrun14, hown14, hgr14, _⟩ := run_append_E 38 56 Tryz.underlying38 (by kernel_rfl) w13 wo.heap.size _ ([] ++ a) hown13 A7 c7 s HNs.out hs13 (by simp; omega) hz13
    have hb14 : Below wo.heap.size wo w14 := (hbE.grown hgr13 hbE.size (fun k e => by have e2 : wo.heap.size = k := Option.some.inj e; omega)).grown hgr14 hz13 (fun k e => (hown13.lt k e).1)
    have HRun1 := hid hrun13
    have HRun2 := hid hrun14
    have hr14 : RowT enC w14 (fun _ => True) A14 ([] ++ a ++ s) := rowT_of_own (C := enC) (R := fun _ => True) hown14 (fun _ _ => trivial)
    have hr15 := hr14.take enC_length l.length
    rw [List.nil_append, HKb.out.2.2] at hr15
    have HR15 := hid hr15
    have HB14 := hid (HBo.out.trans (hb14.mono HBo.out.size))
    have HR12 := hid (HRo.out.below hb14)
    have hcap : ([] ++ a ++ s).length ≤ c14 := (row_len hown14)
    have hll : l.length ≤ c14 := by have := HKb.out.2.1; rw [List.nil_append, List.length_append] at hcap; omega
    have HOb := hid (fun (cz : Nat) => old12_calls w14 _ A14 cz l HR15.out (by have := HLe.out; omega))
    clear hbE hlen hrun13 hrun14 hown13 hown14 hgr13 hgr14 ho13 hs13 hz13 hb14 hr14 hr15 hcap HRa3 HRs3 HRo HBo
    go_wp2_with (first | (at_builtin; refine wpList_append_g2 (by rfl) (.tmp 168) (.tmp 169) 38 38 rfl _ _ rfl rfl HRun1.out ?_) | (at_builtin; refine wpList_append_g2 (by rfl) (.tmp 170) (.tmp 171) 38 38 rfl _ _ rfl rfl HRun2.out ?_))
    refine (HOb.out c14).mono ?_
    rintro x w15 ⟨A15, c15, rfl, hown15, hb15⟩
    have HSq := hid (rsame12_calls w15 _ _ A12 A15 c12 c15 l l (HR12.out.below hb15) (rowT_of_own (C := enC) (R := fun _ => True) hown15 (fun _ _ => trivial)) (by have := HLe.out; omega) (by have := HLe.out; omega))
    rw [decide_eq_true rfl] at HSq
    have HB15 := hid (HB14.out.trans (hb15.mono HB14.out.size))
    clear hown15 hb15 HOb HRun1 HRun2 hll HR15 HR12 HB14
    go_wp2_with fail
    refine HSq.out.mono ?_
    rintro x w16 ⟨rfl, hb16⟩
    have HB16 : Hid (Below w.heap.size w w16) := hid (HB1.out.trans ((HB15.out.trans (hb16.mono HB15.out.size)).mono HB1.out.size))
    clear hb16 HSq HB15
    go_wp2_with fail
    go_ret
    exact ⟨rfl, HB16.out⟩
   ·have HA := hid (jalive12_calls w7 (HT1.out.on HB7.out))
    go_wp2_with fail
    refine HA.out.mono ?_
    rintro x w8 ⟨rfl, hb8⟩
    have HB8 : Hid (Below w.heap.size w w8) := hid (HB1.out.trans ((HB7.out.trans (hb8.mono HB7.out.size)).mono HB1.out.size))
    clear hb8 HA
    go_wp2_with fail
    go_ret
    exact ⟨rfl, HB8.out⟩
end Go.Proofs.YteafcaambnfdoaaGreatDoor
