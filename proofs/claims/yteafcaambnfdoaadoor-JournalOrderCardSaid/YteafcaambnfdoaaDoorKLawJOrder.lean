/-
  The walk of JournalOrder (layer 12).
-/
import Derived.Test.YteafcaambnfdoaaDoorPa39
namespace Go.Proofs.YteafcaambnfdoaaDoor
open Go Go.RowKit
set_option maxRecDepth 100000

/-- Where a row of entries is read. -/
theorem right_take {l : List EnJ} {k : Nat} {e : EnJ} (h : ∀ x ∈ l.take k, rightJ x) (hk : k < l.length) (he : l[k] = e) (hr : rightJ e) : ∀ x ∈ l.take (k + 1), rightJ x := fun x hx => by
  rw [List.take_succ_eq_append_getElem hk] at hx
  rcases List.mem_append.1 hx with hx | hx
  · exact h x hx
  · rw [List.mem_singleton.1 hx, he]; exact hr
theorem recsJ_ge : ∀ l : List EnJ, l.length ≤ (recsJ l).length
  | [] => Nat.zero_le _
  | x :: r => by
    have h1 := recsJ_ge r
    have h2 := recJ_length x
    rw [recsJ_cons, List.length_append, List.length_cons]
    omega
set_option maxHeartbeats 16000000 in
theorem lorder12_calls (LA : Option Addr) (lc : Nat) (l : List EnJ) (MA : Option Addr) (mc : Nat) (more : List EnJ) (TA : Option Addr) (tc : Nat) (tail : List UInt8) (w : World) (hl : RowT enC w (fun _ => True) LA l) (hmr : RowT enC w (fun _ => True) MA more) (htl : Byt w TA tail) (htn : TA = none → tc = 0) (ht : LaysR w) :
    Calls Tryd.prog 5 #[.slice LA l.length lc, .slice MA more.length mc, .slice TA tail.length tc] w fun x w' => x = .returned (.bool true) ∧ Below w.heap.size w w' := by
  have HT := Lib.hid ht
  clear ht
  by_cases hlong : 12 < l.length ∨ 12 < more.length ∨ 100 < tail.length
  · have HA := Lib.hid (jalive12_calls w HT.out)
    clear hl hmr htl htn
    go_enter Tryd.func5, Tryd.ntmps5
    rcases (show 12 < l.length ∨ (¬ 12 < l.length ∧ 12 < more.length) ∨ (¬ 12 < l.length ∧ ¬ 12 < more.length ∧ 100 < tail.length) by omega) with h1 | ⟨h1, h2⟩ | ⟨h1, h2, h3⟩
    · have q1 : decide ((12 : Int) < (l.length : Int)) = true := decide_eq_true (by omega)
      clear hlong h1
      go_wp2_with fail
      refine HA.out.mono ?_
      rintro x w1 ⟨rfl, hb1⟩
      have HB1 := Lib.hid hb1
      clear hb1
      go_wp2_with fail
      go_ret
      exact ⟨rfl, HB1.out⟩
    · have q1 : decide ((12 : Int) < (l.length : Int)) = false := decide_eq_false (by omega)
      have q2 : decide ((12 : Int) < (more.length : Int)) = true := decide_eq_true (by omega)
      clear hlong h1 h2
      go_wp2_with fail
      refine HA.out.mono ?_
      rintro x w1 ⟨rfl, hb1⟩
      have HB1 := Lib.hid hb1
      clear hb1
      go_wp2_with fail
      go_ret
      exact ⟨rfl, HB1.out⟩
    · have q1 : decide ((12 : Int) < (l.length : Int)) = false := decide_eq_false (by omega)
      have q2 : decide ((12 : Int) < (more.length : Int)) = false := decide_eq_false (by omega)
      have q3 : decide ((100 : Int) < (tail.length : Int)) = true := decide_eq_true (by omega)
      clear hlong h1 h2 h3
      go_wp2_with fail
      refine HA.out.mono ?_
      rintro x w1 ⟨rfl, hb1⟩
      have HB1 := Lib.hid hb1
      clear hb1
      go_wp2_with fail
      go_ret
      exact ⟨rfl, HB1.out⟩
  have q1 : decide ((12 : Int) < (l.length : Int)) = false := decide_eq_false (by omega)
  have q2 : decide ((12 : Int) < (more.length : Int)) = false := decide_eq_false (by omega)
  have q3 : decide ((100 : Int) < (tail.length : Int)) = false := decide_eq_false (by omega)
  have HLs : Hid (l.length ≤ 12 ∧ more.length ≤ 12 ∧ tail.length ≤ 100) := Lib.hid (by omega)
  have HL := Lib.hid hl
  have HM := Lib.hid hmr
  have HTl : Hid (ByR w (fun _ => True) TA tail) := Lib.hid (byR_of_byt htl (fun _ _ => trivial))
  have HTn := Lib.hid htn
  have hnn : hN.size ≤ 1000 := by decide
  have hname : nameF hN = true := by decide
  clear hl hmr htl htn hlong
  go_enter Tryd.func5, Tryd.ntmps5
  go_wp2_with fail
  refine (fnew_calls w).mono ?_
  rintro e w1 ⟨b, rfl, hin⟩
  have HF1 := Lib.hid (FX.of_in hin)
  clear hin
  go_wp2_with fail
  clear q1 q2 q3
  go_loopw [8, 43] (fun v8 v43 wr => ∃ (k : Nat) (X Y : Nat → Prop) (S : FS), k ≤ l.length ∧ v43 = .int .i64 (k : Int) ∧ Hid (FX w wr X Y b S) ∧ Hid (OwnN w wr 23 X Y v8 (l.take k)) ∧ Hid (S.At k) ∧ Hid (OneJ S hN (recsJ (l.take k))) ∧ Hid ((∀ i, i < w.heap.size → X i) ∧ ∀ x ∈ l.take k, rightJ x)) (fun _ v43 _ => l.length - (intOf v43).toNat)
  case atStart => exact ⟨0, _, _, FS.new, Nat.zero_le _, rfl, HF1, Lib.hid (OwnN.nil _ _ _ _ _), Lib.hid FS.At.new, Lib.hid (OneJ.new hN), Lib.hid ⟨fun _ h => h, fun x hx => by simp at hx⟩⟩
  case round =>
    obtain ⟨k, X, Y, S, hk, rfl, HF, HO, HAt, HOne, HOld⟩ := hrel
    have hk12 : k ≤ 12 := Nat.le_trans hk HLs.out.1
    by_cases hlt : k < l.length
    · have hkl : (k : Int) < (l.length : Int) := by omega
      have hq : l[k]? = some l[k] := List.getElem?_eq_getElem hlt
      have HTk : Hid (l.take (k + 1) = l.take k ++ [l[k]]) := Lib.hid (List.take_succ_eq_append_getElem hlt)
      have HRt := Lib.hid (fun e (he : l[k] = e) hr => right_take HOld.out.2 hlt he hr)
      obtain ⟨g, o, rfl, _, hg, c0, c1, c2⟩ := en_at (HL.out.below HF.out.bel) hq
      have hbA := (Below.refl _ wr).alloc (Nat.le_refl _) (.cells (enC l[k]).toArray 23)
      have HF2 := Lib.hid (HF.out.below hbA)
      have HO2 := Lib.hid (HO.out.below hbA)
      have HBx := Lib.hid (BxA.new wr 23 (enC l[k]))
      have HXb : Hid (XN X wr (wr.alloc (.cells (enC l[k]).toArray 23)) wr.heap.size) := Lib.hid (XN.new (by simp))
      have HTw : Hid (LaysR (wr.alloc (.cells (enC l[k]).toArray 23))) := Lib.hid (HT.out.on HF2.out.bel)
      have HLe : Hid ((recsJ (l.take k)).length ≤ 672 * 12) := Lib.hid (by
        have h1 := recsJ_le HOld.out.2
        rw [List.length_take] at h1
        have : 672 * min k l.length ≤ 672 * 12 := Nat.mul_le_mul_left _ (by omega)
        omega)
      clear hq hbA HF HO
      by_cases hr : rightJ l[k]
      · have HP := Lib.hid (rpack12_calls _ hr (wr.alloc (.cells (enC l[k]).toArray 23)))
        have HRl := Lib.hid (recJ_le hr)
        have HRn := Lib.hid (HRt.out _ rfl hr)
        have HEr : Hid (recsJ (l.take (k + 1)) = recsJ (l.take k) ++ recJ l[k]) := Lib.hid (by rw [HTk.out, recsJ_append, recsJ_cons, show recsJ [] = [] from rfl, List.append_nil])
        clear hr HRt
        generalize l[k] = e at *
        obtain ⟨et, ed, ec⟩ := e
        simp only at c0 c1 c2
        generalize recJ ⟨et, ed, ec⟩ = rc at *
        obtain ⟨b0, b1, b2⟩ := HBx.out.three
        go_wp2_with fail
        refine HP.out.mono ?_
        rintro x w2 ⟨A1, u1, rfl, hown, hb2⟩
        have HF3 := Lib.hid (HF2.out.below hb2)
        have HO3 := Lib.hid (HO2.out.below hb2)
        have HBx3 := Lib.hid (HBx.out.below hb2)
        have HBy := Lib.hid (byR_of_own (D := XN (XN X wr (wr.alloc (.cells (enC ⟨et, ed, ec⟩).toArray 23))) (wr.alloc (.cells (enC ⟨et, ed, ec⟩).toArray 23)) w2) hown (fun g hg => .inr (hown.lt g hg)))
        have HNo := Lib.hid (own_none hown)
        clear hown hb2 HP HF2 HO2 c0 c1 c2 b0 b1 b2
        go_wp2_with fail
        refine (HF3.out.step (S2 := (S.write hN rc).1) (fun O D hh hXO => fwrite_calls _ O D b S hh (HAt.out.fit (by omega)) hN A1 u1 rc (HBy.out.mono fun k hk => (hXO k hk).2) HNo.out (by have := HRl.out; omega))).mono ?_
        rintro x w3 ⟨rfl, hf3, ho3⟩
        have hbB := (Below.refl _ w3).alloc (Nat.le_refl _) (.cells (enC ⟨et, ed, ec⟩).toArray 23)
        have hf4 := hf3.below hbB
        have ho4 := (HO3.out.keep ho3 (fun _ h => h)).below hbB
        have hlit := rowT_box (C := enC) (ls := [(⟨et, ed, ec⟩ : EnJ)]) (D := fun _ => True) (t := 23) (BxA.new w3 23 (enC ⟨et, ed, ec⟩)) trivial
        obtain ⟨v4, w4, hrun, hown4, hf5, _⟩ := ho4.appV 39 Tryd.underlying39 infoEn hf4 (some ⟨w3.heap.size, 0, none⟩) 1 [⟨et, ed, ec⟩] (fun h => by cases h) hlit (by rw [List.length_take]; show _ + 1 ≤ _; omega)
        have HRun := Lib.hid hrun
        have HF5 := Lib.hid hf5
        have HO5 := Lib.hid hown4
        obtain ⟨b0, b1, b2⟩ := (HBx3.out.keep ho3 (fun hn => hn (.inl HXb.out))).three
        have HAt2 := Lib.hid (HAt.out.write hN rc)
        have HOne2 := Lib.hid (HOne.out.write hname rc (by have := HLe.out; have := HRl.out; omega)).2
        rw [← HEr.out] at HOne2
        rw [← HTk.out] at HO5
        have HOld2 : Hid ((∀ i, i < w.heap.size → XN (XN (XN (XN X wr (wr.alloc (.cells (enC ⟨et, ed, ec⟩).toArray 23))) (wr.alloc (.cells (enC ⟨et, ed, ec⟩).toArray 23)) w2) w3 (w3.alloc (.cells (enC ⟨et, ed, ec⟩).toArray 23))) (w3.alloc (.cells (enC ⟨et, ed, ec⟩).toArray 23)) w4 i) ∧ ∀ x ∈ l.take (k + 1), rightJ x) := Lib.hid ⟨fun i hi => .inl (.inl (.inl (.inl (HOld.out.1 i hi)))), HRn.out⟩
        simp only at b0 b1 b2
        clear hf3 ho3 hbB hf4 ho4 hlit hrun hf5 hown4 HF3 HO3 HBy HNo HBx HBx3 HAt HOne HOld HRl HRn HEr HTk HTw HLe
        go_wp2_with (at_builtin; refine wpList_append_g2 (by rfl) (.tmp 58) (.tmp 60) 39 39 rfl _ _ rfl rfl HRun.out ?_)
        go_roundw
        case rel => exact ⟨k + 1, _, _, _, by omega, by go_num, HF5, HO5, HAt2, HOne2, HOld2⟩
        case measure => simp [intOf]; omega
      · have HP := Lib.hid (rpack12_not _ hr (wr.alloc (.cells (enC l[k]).toArray 23)))
        clear hr HRt
        generalize l[k] = e at *
        obtain ⟨et, ed, ec⟩ := e
        simp only at c0 c1 c2
        obtain ⟨b0, b1, b2⟩ := HBx.out.three
        go_wp2_with fail
        refine HP.out.mono ?_
        rintro x w2 ⟨rfl, hb2⟩
        have HF3 := Lib.hid (HF2.out.below hb2)
        have HA := Lib.hid (jalive12_calls w2 (HTw.out.on hb2))
        clear hb2 HP HF2 HO2 c0 c1 c2 b0 b1 b2
        go_wp2_with fail
        refine HA.out.mono ?_
        rintro x w3 ⟨rfl, hb3⟩
        have HB3 := Lib.hid (HF3.out.below hb3).bel
        clear hb3 HA
        go_wp2_with fail
        go_ret
        exact ⟨rfl, HB3.out⟩
    · obtain rfl : k = l.length := by omega
      rw [List.take_length] at HOld HOne HO
      have HRi := Lib.hid HOld.out.2
      have HX0 := Lib.hid HOld.out.1
      have HLe : Hid ((recsJ l).length ≤ 672 * 12) := Lib.hid (by
        have h1 := recsJ_le HOld.out.2
        have : 672 * l.length ≤ 672 * 12 := Nat.mul_le_mul_left _ HLs.out.1
        omega)
      have HTw : Hid (ByR wr X TA tail) := Lib.hid (((HTl.out.cap).below HF.out.bel).mono fun i hi => HX0.out i hi.2)
      obtain ⟨WA, wc, rfl⟩ := HO.out.form
      clear HOld
      go_wp2_with fail
      refine (HF.out.step (S2 := (S.write hN tail).1) (fun O D hh hXO => fwrite_calls _ O D b S hh (HAt.out.fit (by omega)) hN TA tc tail (HTw.out.mono fun k hk => (hXO k hk).2) HTn.out (by have := HLs.out.2.2; omega))).mono ?_
      rintro x w2 ⟨rfl, hf2, ho2⟩
      have HF2 := Lib.hid hf2
      have HAt2 := Lib.hid (HAt.out.write hN tail)
      have HOne2 := Lib.hid (HOne.out.write hname tail (by have := HLe.out; have := HLs.out.2.2; omega)).2
      obtain ⟨O, D, hat⟩ := hf2.at_
      have HRd := Lib.hid (fread_calls w2 O D b _ hat (HAt2.out.fit (by omega)) hN)
      rw [HOne2.out.read] at HRd
      clear hf2 ho2 hat HTw HAt HF HO HOne
      generalize (S.write hN tail).1 = S2 at *
      have HEn : Hid (entriesJ (recsJ l ++ tail) = (l ++ (entriesJ tail).1, (recsJ l).length + (entriesJ tail).2)) := Lib.hid (entries_recs l tail HRi.out)
      obtain ⟨bt, hbt⟩ : ∃ bt, bt = recsJ l ++ tail := ⟨_, rfl⟩
      have HBl : Hid (bt.length ≤ 8164) := Lib.hid (by rw [hbt, List.length_append]; have := HLe.out; have := HLs.out.2.2; omega)
      rw [← hbt] at HRd HOne2 HEn
      have HGe : Hid (l.length ≤ (entriesJ bt).1.length) := Lib.hid (by rw [HEn.out]; simp)
      clear hbt HEn HLe
      go_wp2_with fail
      refine HRd.out.mono ?_
      rintro x w3 ⟨u, rfl, hown3, hb3⟩
      obtain ⟨A3, u3, rfl⟩ := own_form hown3
      have HF3 := Lib.hid (HF2.out.below hb3)
      have HRe := Lib.hid (rentries12_calls A3 u3 bt w3 (byt_of_own hown3).1 (byt_of_own hown3).2.2.1 (by have := HBl.out; omega))
      have HIs := Lib.hid (entries_is bt)
      have HX3 : Hid (∀ i, i < w.heap.size → XN X w2 w3 i) := Lib.hid (fun i hi => .inl (HX0.out i hi))
      have HOp := Lib.hid (HOne2.out.open_ (by decide) (by decide))
      clear hown3 hb3 HRd HF2 HX0
      generalize (entriesJ bt).1 = es at *
      generalize (entriesJ bt).2 = good at *
      go_wp2_with fail
      refine HRe.out.mono ?_
      rintro x w4 ⟨A4, u4, rfl, hown4, hb4⟩
      have hd : decide ((es.length : Int) < (l.length : Int)) = false := decide_eq_false (by have := HGe.out; omega)
      have hd' : decide (es.length < l.length) = false := decide_eq_false (by have := HGe.out; omega)
      have HF4 := Lib.hid (HF3.out.below hb4)
      have HO4 := Lib.hid (OwnN.of_new (X := XN X w2 w3) (Y := XN Y w2 w3) hown4 HF3.out.bel.size)
      have HX4 : Hid (∀ i, i < w.heap.size → XN (XN X w2 w3) w3 w4 i) := Lib.hid (fun i hi => .inl (HX3.out i hi))
      have HRL : Hid ((∀ e ∈ es, rightJ e) ∧ (recsJ es).length ≤ 8164) := Lib.hid ⟨HIs.out.1, by rw [← HIs.out.2.1]; have := HIs.out.2.2.2; have := HBl.out; omega⟩
      obtain ⟨Dj, hop, hone⟩ := HOp.out
      have HJo := Lib.hid (jopen12_calls w w4 _ _ b S2 HF4.out hN hnn 13 (HAt2.out.mono (by have := HLs.out.1; omega)) (by decide) HT.out)
      have HDa : Hid (Dj.At 15) := Lib.hid (by have h := (HAt2.out.mono (m := 13) (by have := HLs.out.1; omega)).openJ hN; rw [hop] at h; exact h)
      rw [hop] at HJo
      simp only at HJo
      have HOne3 := Lib.hid hone
      clear hown4 hb4 HRe HF3 HX3 hop hone HOp HOne2 HAt2 HGe HIs HBl HRi
      go_wp2_with fail
      refine HJo.out.mono ?_
      rintro x w5 ⟨v5, A5, u5, X5, Y5, rfl, hO⟩
      obtain ⟨jb, rfl, hj, _⟩ := hO.jx
      have HJ5 := Lib.hid hj
      have HO5 : Hid (OwnN w w5 23 X5 Y5 (.slice A4 es.length u4) es) := Lib.hid ((HO4.out.keep hO.only (fun _ h => h)).mono hO.hx hO.hy)
      have HX5 : Hid (∀ i, i < w.heap.size → X5 i) := Lib.hid (fun i hi => hO.hx _ (HX4.out i hi))
      clear hO hj HJo HO4 HF4 HX4 hd hd'
      go_wp2_with fail
      go_loopw [8, 96] (fun v8 v96 wr => ∃ (k : Nat) (X Y : Nat → Prop) (S : FS), k ≤ more.length ∧ v96 = .int .i64 (k : Int) ∧ Hid (JX w wr X Y b S jb hN) ∧ Hid (OwnN w wr 23 X Y v8 (es ++ more.take k)) ∧ Hid (S.At (15 + k)) ∧ Hid (OneJ S hN (recsJ (es ++ more.take k))) ∧ Hid ((∀ i, i < w.heap.size → X i) ∧ ∀ x ∈ more.take k, rightJ x)) (fun _ v96 _ => more.length - (intOf v96).toNat)
      case atStart => exact ⟨0, X5, Y5, Dj, Nat.zero_le _, rfl, HJ5, Lib.hid (by rw [List.take_zero, List.append_nil]; exact HO5.out), HDa, Lib.hid (by rw [List.take_zero, List.append_nil]; exact HOne3.out), Lib.hid ⟨HX5.out, fun x hx => by simp at hx⟩⟩
      case round =>
      clear HJ5 HO5 HX5 HOne3 HDa
      obtain ⟨k, X, Y, S, hk, rfl, HJ, HO, HAt, HOne, HOld⟩ := hrel
      have hk12 : k ≤ 12 := Nat.le_trans hk HLs.out.2.1
      by_cases hlt : k < more.length
      · have hkl : (k : Int) < (more.length : Int) := by omega
        have hq : more[k]? = some more[k] := List.getElem?_eq_getElem hlt
        have HTk : Hid (more.take (k + 1) = more.take k ++ [more[k]]) := Lib.hid (List.take_succ_eq_append_getElem hlt)
        have HRt := Lib.hid (fun e (he : more[k] = e) hr => right_take HOld.out.2 hlt he hr)
        obtain ⟨g, o, rfl, _, hg, c0, c1, c2⟩ := en_at (HM.out.below HJ.out.fx.bel) hq
        have hbA := (Below.refl _ wr).alloc (Nat.le_refl _) (.cells (enC more[k]).toArray 23)
        have HJ2 := Lib.hid (HJ.out.below hbA)
        have HO2 := Lib.hid (HO.out.below hbA)
        have HBx := Lib.hid (BxA.new wr 23 (enC more[k]))
        have HXb : Hid (XN X wr (wr.alloc (.cells (enC more[k]).toArray 23)) wr.heap.size) := Lib.hid (XN.new (by simp))
        have HTw : Hid (LaysR (wr.alloc (.cells (enC more[k]).toArray 23))) := Lib.hid (HT.out.on HJ2.out.fx.bel)
        have HLe : Hid ((recsJ (es ++ more.take k)).length ≤ 8164 + 672 * 12) := Lib.hid (by
          have h1 := recsJ_le HOld.out.2
          rw [List.length_take] at h1
          have : 672 * min k more.length ≤ 672 * 12 := Nat.mul_le_mul_left _ (by omega)
          rw [recsJ_append, List.length_append]
          have := HRL.out.2
          omega)
        have HRi := Lib.hid (rright12_calls more[k] (wr.alloc (.cells (enC more[k]).toArray 23)))
        clear hq hbA HJ HO
        by_cases hr : rightJ more[k]
        · have HRn := Lib.hid (HRt.out _ rfl hr)
          have HApp := Lib.hid (HOne.out.append hname hr (by have := HLe.out; omega))
          rw [decide_eq_true hr] at HRi
          rw [List.append_assoc, ← HTk.out] at HApp
          clear hr HRt
          generalize more[k] = e at *
          obtain ⟨et, ed, ec⟩ := e
          simp only at c0 c1 c2
          obtain ⟨b0, b1, b2⟩ := HBx.out.three
          go_wp2_with fail
          refine HRi.out.mono ?_
          rintro x w2 ⟨rfl, hb2⟩
          have HJ3 := Lib.hid (HJ2.out.below hb2)
          have HO3 := Lib.hid (HO2.out.below hb2)
          have HBx3 := Lib.hid (HBx.out.below hb2)
          have HJa := Lib.hid (jappend12_calls w w2 _ _ b S jb hN HJ3.out (HAt.out.fit (by omega)) HT.out ⟨et, ed, ec⟩)
          rw [HApp.out.1] at HJa
          obtain ⟨b0, b1, b2⟩ := HBx3.out.three
          clear hb2 HRi HJ2 HO2 c0 c1 c2
          go_wp2_with fail
          refine HJa.out.mono ?_
          rintro x w3 ⟨rfl, hj3, ho3⟩
          have hbB := (Below.refl _ w3).alloc (Nat.le_refl _) (.cells (enC ⟨et, ed, ec⟩).toArray 23)
          have hj4 := hj3.below hbB
          have ho4 := (HO3.out.keep ho3 (fun _ h => h)).below hbB
          have hlit := rowT_box (C := enC) (ls := [(⟨et, ed, ec⟩ : EnJ)]) (D := fun _ => True) (t := 23) (BxA.new w3 23 (enC ⟨et, ed, ec⟩)) trivial
          obtain ⟨v4, w4, hrun, hown4, hf5, hoR⟩ := ho4.appV 39 Tryd.underlying39 infoEn hj4.fx (some ⟨w3.heap.size, 0, none⟩) 1 [⟨et, ed, ec⟩] (fun h => by cases h) hlit (by
            rw [List.length_append, List.length_take]
            have h1 : es.length ≤ 8164 := by
              have := HRL.out.2
              have h6 := recsJ_ge es
              omega
            show _ + 1 ≤ _
            omega)
          have HRun := Lib.hid hrun
          have HJ5 := Lib.hid (hj4.grew hf5 hoR (own_ne_bxA ho4.own hj4.box (by decide)))
          have HO5 := Lib.hid hown4
          obtain ⟨b0, b1, b2⟩ := (HBx3.out.keep ho3 (fun hn => hn (.inl HXb.out))).three
          have HAt2 := Lib.hid (at_write HAt.out hN ⟨et, ed, ec⟩)
          have HOne2 := Lib.hid HApp.out.2
          rw [List.append_assoc, ← HTk.out] at HO5
          have HOld2 : Hid ((∀ i, i < w.heap.size → XN (XN (XN (XN X wr (wr.alloc (.cells (enC ⟨et, ed, ec⟩).toArray 23))) (wr.alloc (.cells (enC ⟨et, ed, ec⟩).toArray 23)) w2) w3 (w3.alloc (.cells (enC ⟨et, ed, ec⟩).toArray 23))) (w3.alloc (.cells (enC ⟨et, ed, ec⟩).toArray 23)) w4 i) ∧ ∀ x ∈ more.take (k + 1), rightJ x) := Lib.hid ⟨fun i hi => .inl (.inl (.inl (.inl (HOld.out.1 i hi)))), HRn.out⟩
          simp only at b0 b1 b2
          clear hj3 ho3 hbB hj4 ho4 hlit hrun hf5 hown4 hoR HJ3 HO3 HBx HBx3 HAt HOne HOld HRn HTk HTw HLe HApp HJa
          go_wp2_with (at_builtin; refine wpList_append_g2 (by rfl) (.tmp 108) (.tmp 110) 39 39 rfl _ _ rfl rfl HRun.out ?_)
          go_roundw
          case rel => exact ⟨k + 1, _, _, _, by omega, by go_num, HJ5, HO5, HAt2, HOne2, HOld2⟩
          case measure => simp [intOf]; omega
        · rw [decide_eq_false hr] at HRi
          clear hr HRt
          generalize more[k] = e at *
          obtain ⟨et, ed, ec⟩ := e
          simp only at c0 c1 c2
          obtain ⟨b0, b1, b2⟩ := HBx.out.three
          go_wp2_with fail
          refine HRi.out.mono ?_
          rintro x w2 ⟨rfl, hb2⟩
          have HJ3 := Lib.hid (HJ2.out.below hb2)
          have HA := Lib.hid (jalive12_calls w2 (HTw.out.on hb2))
          clear hb2 HRi HJ2 HO2 c0 c1 c2 b0 b1 b2
          go_wp2_with fail
          refine HA.out.mono ?_
          rintro x w3 ⟨rfl, hb3⟩
          have HB3 := Lib.hid (HJ3.out.below hb3).fx.bel
          clear hb3 HA
          go_wp2_with fail
          go_ret
          exact ⟨rfl, HB3.out⟩
      · obtain rfl : k = more.length := by omega
        rw [List.take_length] at HOld HOne HO
        have HEq : Hid (readJs S hN = (es ++ more, 0)) := Lib.hid (HOne.out.reads (fun e he => by
          rcases List.mem_append.1 he with he | he
          · exact HRL.out.1 e he
          · exact HOld.out.2 e he))
        have HRd := Lib.hid (jread12_calls w wr X Y b S jb hN HJ.out (HAt.out.fit (by omega)) HT.out)
        rw [HEq.out] at HRd
        simp only at HRd
        obtain ⟨WA2, wc2, rfl⟩ := HO.out.form
        have HWr := Lib.hid HO.out.row
        have HLn : Hid ((es ++ more).length ≤ 8200) := Lib.hid (by
          rw [List.length_append]
          have := HRL.out.2
          have h6 := recsJ_ge es
          have := HLs.out.2.1
          omega)
        clear HEq HOne HO HOld HAt
        generalize es ++ more = tot at *
        go_wp2_with fail
        refine HRd.out.mono ?_
        rintro x w2 ⟨A2, u2, rfl, hown2, hb2⟩
        have HJ2 := Lib.hid (HJ.out.below hb2)
        have HW2 := Lib.hid (HWr.out.below hb2)
        have HG2 := Lib.hid (rowT_of_own (C := enC) (R := fun _ => True) hown2 (fun _ _ => trivial))
        have HA := Lib.hid (jalive12_calls w2 (HT.out.on HJ2.out.fx.bel))
        clear hown2 hb2 HRd HWr HJ
        go_wp2_with fail
        refine HA.out.mono ?_
        rintro x w3 ⟨rfl, hb3⟩
        have HJ3 := Lib.hid (HJ2.out.below hb3)
        have HW3 := Lib.hid (HW2.out.below hb3)
        have HOl := Lib.hid (old12_calls w3 _ A2 u2 tot (HG2.out.below hb3) (by have := HLn.out; omega))
        clear hb3 HA HJ2 HW2 HG2
        go_wp2_with fail
        refine HOl.out.mono ?_
        rintro x w4 ⟨A4, u4, rfl, hown4, hb4⟩
        have HJ4 := Lib.hid (HJ3.out.below hb4)
        have HSm := Lib.hid (rsame12_calls w4 _ _ A4 WA2 u4 wc2 tot tot (rowT_of_own (C := enC) (R := fun _ => True) hown4 (fun _ _ => trivial)) (HW3.out.below hb4) (by have := HLn.out; omega) (by have := HLn.out; omega))
        rw [decide_eq_true rfl] at HSm
        clear hown4 hb4 HOl HJ3 HW3
        go_wp2_with fail
        refine HSm.out.mono ?_
        rintro x w5 ⟨rfl, hb5⟩
        have HB5 := Lib.hid (HJ4.out.below hb5).fx.bel
        clear hb5 HSm HJ4
        go_wp2_with fail
        go_ret
        exact ⟨rfl, HB5.out⟩
end Go.Proofs.YteafcaambnfdoaaDoor
