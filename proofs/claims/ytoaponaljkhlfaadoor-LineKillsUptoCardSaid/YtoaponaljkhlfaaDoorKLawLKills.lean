/-
  LineKills (layer 7).
-/
import Derived.Test.YtoaponaljkhlfaaDoorPk7
import Derived.Test.YtoaponaljkhlfaaDoorPk35
import Derived.Deep.RegionHeld3
namespace Go.Proofs.YtoaponaljkhlfaaDoor
open Go Go.RowKit
set_option maxRecDepth 100000

/-- What the law asks behind its kills. -/
theorem kills_f {t : List UInt8} (hne : mS t ≠ []) {s : LN} (hs : s = ((LN.new.set t).key 7 []).key 14 []) : (s.key 11 []).buf = ([], 0) ∧ (s.key 11 []).ring.l = [bs (mS t)] := by
  obtain ⟨h1, h2, h3, h4, h5⟩ := LN.kill_word hne
  rw [← hs] at h1 h2 h3 h4
  clear hs
  have htd := List.take_append_drop (wrL (mS t) 0) (mS t)
  obtain ⟨k1, k2⟩ := LN.kill_rest h1 h2 h3
  refine ⟨k1, ?_⟩
  rw [k2, if_pos h4]
  by_cases hy : (mS t).drop (wrL (mS t) 0) = []
  · rw [if_pos hy]
    rw [hy, List.append_nil] at htd
    rw [htd]
  · rw [if_neg hy, htd]
theorem kills_t {t : List UInt8} (hne : mS t ≠ []) {s : LN} (hs : s = ((LN.new.set t).key 7 []).key 14 []) : ((s.key 7 []).key 11 []).buf = ([], 0) ∧ ((s.key 7 []).key 11 []).ring.l = if (mS t).take (wrL (mS t) 0) = mS t then [bs (mS t)] else [bs ((mS t).drop (wrL (mS t) 0)), bs ((mS t).take (wrL (mS t) 0))] := by
  obtain ⟨h1, h2, h3, h4, h5⟩ := LN.kill_word hne
  rw [← hs] at h1 h2 h3 h4
  clear hs
  have htd := List.take_append_drop (wrL (mS t) 0) (mS t)
  obtain ⟨b1, b2, b3⟩ := LN.home_facts s
  have hb : (s.key 7 []).buf = ((mS t).drop (wrL (mS t) 0), 0) := by rw [b1, h1]
  obtain ⟨k1, k2⟩ := LN.kill_rest (s := s.key 7 []) hb (by rw [b2]; exact h2) (by rw [b2]; exact h3)
  refine ⟨k1, ?_⟩
  rw [k2, b3, if_neg (show ¬ (Lst.none = Lst.kill) from fun e => Lst.noConfusion e)]
  by_cases hy : (mS t).drop (wrL (mS t) 0) = []
  · rw [hy, List.append_nil] at htd
    rw [if_pos hy, if_pos htd, htd]
  · rw [if_neg hy, if_neg (fun e => hy (by
      have := congrArg List.length e
      rw [List.length_take] at this
      exact List.drop_eq_nil_of_le (by omega)))]

set_option maxHeartbeats 8000000 in
theorem lkills_calls (s : ByteArray) (q : Bool) (w : World) (hsz : s.size ≤ 1048576) (hsp : Spans w) :
    Calls Tryd.prog 3 #[.string s, .bool q] w fun e w' => e = .returned (.bool true) ∧ Below w.heap.size w w' := by
  have HS := Lib.hid hsp
  have hbl := LN.bl_size s
  have HM : Hid (Calls Tryd.prog 6 #[.string s, .int .i64 0] w fun e w' => e = .returned (.agg #[.string (bs (mS (bl s))), .int .i64 (mA (bl s) 0 : Int)]) ∧ Below w.heap.size w w') := Lib.hid (by
    have := make_calls (bl s) 0 (by omega) w hsp
    rwa [bs_bl] at this)
  have hm6 := mS_len (bl s)
  have hfi : firL (mS (bl s)) = (mS (bl s)).take (wrL (mS (bl s)) 0) := by unfold firL; rw [mS_mS]
  have HFir := Lib.hid (fun W hS => first_calls (mS (bl s)) (by omega) W hS)
  rw [hfi] at HFir
  have HKf := Lib.hid (fun (hne : mS (bl s) ≠ []) => kills_f (t := bl s) hne rfl)
  have HKt := Lib.hid (fun (hne : mS (bl s) ≠ []) => kills_t (t := bl s) hne rfl)
  have HSet : Hid (s.size ≤ 500 → ∀ (W : World) (O F : Nat → Prop) (b : Nat), LineL W O F b LN.new → Spans W → Calls Tryd.prog 9 #[.pointer (some ⟨b, 0, none⟩), .string s] W fun e w' => e = .returned (.tuple #[]) ∧ ToLn W O F w' b (LN.new.set (bl s))) := Lib.hid (fun h5 W O F b hl hS => by
    have := set_callsL W O F b LN.new hl hS (bl s) (by omega) (LN.new_sm 1000000)
    rwa [bs_bl] at this)
  have HSm : Hid (SmR (LN.new.set (bl s)).ring 0) := Lib.hid (LN.set_sm (LN.new_sm 0) (bl s))
  clear hsp hfi hbl
  generalize LN.new.set (bl s) = l1 at *
  generalize wrL (mS (bl s)) 0 = n at *
  generalize mA (bl s) 0 = ma at *
  generalize mS (bl s) = S at *
  have hsS := bs_size S
  go_enter Tryd.func3, Tryd.ntmps3
  go_wp2_with fail
  refine HM.out.mono ?_
  rintro e w1 ⟨rfl, hb1⟩
  have x3 := Bx.new w1 23 (.string ⟨#[]⟩) (.int .i64 0)
  have f0 := x3.f0
  have f1 := x3.f1
  have g0 := x3.c0
  have g1 := x3.c1
  have x4 := Bx.new w1 23 (.string (bs S)) (.int .i64 (ma : Int))
  have hb4 := hb1.alloc hb1.size (.cells #[.string (bs S), .int .i64 (ma : Int)] 23)
  obtain ⟨W1, hW1⟩ : ∃ W1, w1.alloc (.cells #[.string (bs S), .int .i64 (ma : Int)] 23) = W1 := ⟨_, rfl⟩
  have hKs : w1.heap.size < W1.heap.size := by rw [← hW1, World.size_alloc]; omega
  have hb14 : Below w1.heap.size w1 W1 := by rw [← hW1]; exact (Below.refl _ w1).alloc (Nat.le_refl _) _
  rw [hW1] at x4 hb4
  have y0 := x4.c0
  have HB1 := Lib.hid hb4
  have HX1 := Lib.hid x4
  have HKs := Lib.hid hKs
  have HKw := Lib.hid hb1.size
  clear x3 x4 hb4 hb1 HM hKs hb14
  by_cases h5 : 500 < s.size
  · have d1 : (500 : Int) < (s.size : Int) := by omega
    clear h5
    go_wp2_with fail
    refine (lalive_calls W1 (spans_below HS.out HB1.out)).mono ?_
    rintro e w9 ⟨rfl, hb9⟩
    have HB9 := Lib.hid (HB1.out.trans (hb9.mono HB1.out.size))
    clear hb9
    go_wp2_with fail
    go_ret
    exact ⟨rfl, HB9.out⟩
  · have d1 : ¬ (500 : Int) < (s.size : Int) := by omega
    have h5' : s.size ≤ 500 := by omega
    by_cases hn : S = []
    · have d3 : ((S.length : Int) == 0) = true := beq_iff_eq.2 (by rw [hn]; rfl)
      clear h5 h5' hn
      go_wp2_with fail
      refine (lalive_calls W1 (spans_below HS.out HB1.out)).mono ?_
      rintro e w9 ⟨rfl, hb9⟩
      have HB9 := Lib.hid (HB1.out.trans (hb9.mono HB1.out.size))
      clear hb9
      go_wp2_with fail
      go_ret
      exact ⟨rfl, HB9.out⟩
    · have d3 : ((S.length : Int) == 0) = false := beq_eq_false_iff_ne.2 (fun e => hn (List.eq_nil_of_length_eq_zero (by omega)))
      have HN := Lib.hid hn
      have HSet2 := Lib.hid (HSet.out h5')
      have HKf2 := Lib.hid (HKf.out hn)
      have HKt2 := Lib.hid (HKt.out hn)
      clear h5 h5' HSet HKf HKt
      go_wp2_with fail
      clear d1 d3
      refine (new_callsL W1 (spans_below HS.out HB1.out)).mono ?_
      rintro e w2 ⟨b, rfl, hi⟩
      have HXa : Hid (LnX W1 w2 (fun _ => False) b LN.new dr0 ds0 0 3000) := Lib.hid (LnX.start hi (LN.new_sm 3000))
      have HS1 := Lib.hid (spans_below HS.out HB1.out)
      clear hi y0
      go_wp2_with fail
      refine (HXa.out.line (C' := 3000) (HSm.out.mono (Nat.zero_le _)) (fun O F hl => HSet2.out w2 O F b hl (spans_below HS1.out HXa.out.bel))).mono ?_
      rintro e w3 ⟨rfl, hx, _⟩
      have HX3 := Lib.hid hx
      clear hx HXa HSet2
      go_wp2_with fail
      refine (HX3.out.line (C' := 3000) (LN.key_sm0 HX3.out.sm 7 [] rfl) (fun O F hl => key_callsL w3 O F b _ hl (spans_below HS1.out HX3.out.bel) 7 [] (by decide) (HX3.out.sm.mono (by decide)))).mono ?_
      rintro e w4 ⟨rfl, hx, _⟩
      have HX4 := Lib.hid hx
      have HOk := Lib.hid hx.ok
      clear hx HX3
      go_wp2_with fail
      refine (HX4.out.line (C' := 3000) ((LN.key_sm HX4.out.ok (LN.key_sm0 HSm.out 7 [] rfl) 14 []).mono (by decide)) (fun O F hl => key_callsL w4 O F b _ hl (spans_below HS1.out HX4.out.bel) 14 [] (by decide) (HX4.out.sm.mono (by decide)))).mono ?_
      rintro e w5 ⟨rfl, hx, _⟩
      have HX5 := Lib.hid hx
      clear hx HX4
      have HS5 : Hid (SmR ((l1.key 7 []).key 14 []).ring 600) := Lib.hid (by have := LN.key_sm (s := l1.key 7 []) HOk.out (LN.key_sm0 HSm.out 7 [] rfl) 14 []; exact this)
      cases q with
      | false =>
        generalize (l1.key 7 []).key 14 [] = l2 at *
        go_wp2_with fail
        refine (HX5.out.line (C' := 3000) ((LN.key_sm HX5.out.ok HS5.out 11 []).mono (by decide)) (fun O F hl => key_callsL w5 O F b l2 hl (spans_below HS1.out HX5.out.bel) 11 [] (by decide) (HX5.out.sm.mono (by decide)))).mono ?_
        rintro e w6 ⟨rfl, hx, _⟩
        have HX6 := Lib.hid hx
        clear hx HX5
        obtain ⟨k1, k2⟩ := HKf2.out
        have HK1 := Lib.hid k1
        have HK2 := Lib.hid k2
        clear k1 k2 HKf2 HKt2
        generalize l2.key 11 [] = l3 at *
        generalize S.take n = fw at *
        by_cases hfl : (fw.length : Int) = (S.length : Int)
        · have hnb : ((fw.length : Int) == (S.length : Int)) = true := beq_iff_eq.2 hfl
          clear hfl
          have zz := (HX1.out.below HX6.out.bel).c0
          go_wp2_with fail
          refine (HFir.out w6 (spans_below HS1.out HX6.out.bel)).mono ?_
          rintro e w7 ⟨rfl, hb7⟩
          have HX7 := Lib.hid (HX6.out.below hb7)
          clear zz
          clear hb7 HX6
          go_wp2_with fail
          refine (HX7.out.rd (E := fun e w' => ∃ A c, e = .returned (.slice A l3.ring.l.length c) ∧ RdV Value.string w' A l3.ring.l) (fun O F hl => (kills_callsL w7 O F b l3 hl (spans_below HS1.out HX7.out.bel)).mono (fun _ _ hh => by obtain ⟨A, c, e1, e2, e3⟩ := hh; exact ⟨⟨A, c, e1, e2⟩, e3⟩))).mono ?_
          rintro e w8 ⟨⟨A1, c1, rfl, hr⟩, hx, hbel⟩
          rw [HK2.out] at hr
          rw [HK2.out]
          have HX8 := Lib.hid hx
          have hBx8 := HX1.out.below hx.bel
          obtain ⟨g, og, rfl, hg, hc⟩ := hr (by simp)
          have z0 := hBx8.c0
          have cc0 := hc 0 _ rfl
          have HSS : Hid (∀ W, Below w8.heap.size w8 W → W.cell? ⟨g, og, none⟩ = some (.string (bs S)) ∧ W.cell? ⟨w1.heap.size, 0, none⟩ = some (.string (bs S))) := Lib.hid (fun W hW => ⟨(hW.cell (p := ⟨g, og, none⟩) hg).trans cc0, (hBx8.below hW).c0⟩)
          have hlen1 : ([bs S] : List ByteArray).length = 1 := rfl
          rw [hlen1]
          clear hx hbel HX7 hr hc hg
          go_upto_region 16 with fail
          refine wp_region_held_drew (S := (fun w' => w'.cell? ⟨g, og, none⟩ = some (.string (bs S)) ∧ w'.cell? ⟨w1.heap.size, 0, none⟩ = some (.string (bs S)))) (by kernel_rfl) ⟨cc0, z0⟩ (fun hHeld => ?_)
          refine wpAnyH_ready (rs := [0]) (by kernel_rfl) (by simp) ?_
          refine AllReadyH.cons (o := ⟨some 55, _, _, _, _, _⟩) rfl (fun K hK => ?_) AllReadyH.nil
          (rw [if_pos (by kernel_rfl)])
          go_simp
          refine (lalive_calls w8.drew (spans_below HS1.out (HX8.out.below Below.drewR).bel)).mono ?_
          rintro e w9 ⟨rfl, hb9⟩
          have hb9' : Below w8.heap.size w8 w9 := Below.drewR.trans hb9
          have q9 := HSS.out w9 hb9'
          have HX9 := Lib.hid (HX8.out.below hb9')
          have HB9 := Lib.hid hb9'
          clear hb9 hb9' HX8
          refine hK.out _ _ q9 (fun hHeld => ?_)
          clear hK K
          refine wpAnyH_take (i := 1) (oi := ⟨some 56, _, _, _, _, _⟩) (v := ?_) rfl (by kernel_rfl) (by kernel_rfl) (by kernel_rfl) (fun _ _ _ h => h) (Or.inl ⟨by kernel_rfl, ?hy1⟩) (by assumption) ?_
          case hy1 => (intro w' hSw; (try dsimp only at hSw); go_simp; try with_reducible rfl)
          simp only [Act.put, List.setIfInBounds_toArray, List.set_cons_zero, List.set_cons_succ]
          refine wpAnyH_take (i := 2) (oi := ⟨some 57, _, _, _, _, _⟩) (v := ?_) rfl (by kernel_rfl) (by kernel_rfl) (by kernel_rfl) (fun _ _ _ h => h) (Or.inl ⟨by kernel_rfl, ?hy2⟩) (by assumption) ?_
          case hy2 => (intro w' hSw; (try dsimp only at hSw); go_simp; try with_reducible rfl)
          simp only [Act.put, List.setIfInBounds_toArray, List.set_cons_zero, List.set_cons_succ]
          refine wpAnyH_take (i := 3) (oi := ⟨some 58, _, _, _, _, _⟩) (v := ?_) rfl (by kernel_rfl) (by kernel_rfl) (by kernel_rfl) (fun _ _ _ h => h) (Or.inl ⟨by kernel_rfl, ?hy3⟩) (by assumption) ?_
          case hy3 => (intro w' hSw; (try dsimp only at hSw); go_simp; try with_reducible rfl)
          simp only [Act.put, List.setIfInBounds_toArray, List.set_cons_zero, List.set_cons_succ]
          refine wpAnyH_take (i := 4) (oi := ⟨some 59, _, _, _, _, _⟩) (v := ?_) rfl (by kernel_rfl) (by kernel_rfl) (by kernel_rfl) (fun _ _ _ h => h) (Or.inl ⟨by kernel_rfl, ?hy4⟩) (by assumption) ?_
          case hy4 => (intro w' hSw; (try dsimp only at hSw); go_simp; try with_reducible rfl)
          simp only [Act.put, List.setIfInBounds_toArray, List.set_cons_zero, List.set_cons_succ]
          refine wpAnyH_take (i := 5) (oi := ⟨some 60, _, _, _, _, _⟩) (v := ?_) rfl (by kernel_rfl) (by kernel_rfl) (by kernel_rfl) (fun _ _ _ h => h) (Or.inl ⟨by kernel_rfl, ?hy5⟩) (by assumption) ?_
          case hy5 => (intro w' hSw; (try dsimp only at hSw); go_simp; try with_reducible rfl)
          simp only [Act.put, List.setIfInBounds_toArray, List.set_cons_zero, List.set_cons_succ]
          refine wpAnyH_take (i := 6) (oi := ⟨some 61, _, _, _, _, _⟩) (v := ?_) rfl (by kernel_rfl) (by kernel_rfl) (by kernel_rfl) (fun _ _ _ h => h) (Or.inl ⟨by kernel_rfl, ?hy6⟩) (by assumption) ?_
          case hy6 => (intro w' hSw; (try dsimp only at hSw); go_simp; try with_reducible rfl)
          simp only [Act.put, List.setIfInBounds_toArray, List.set_cons_zero, List.set_cons_succ]
          refine wpAnyH_take (i := 7) (oi := ⟨some 62, _, _, _, _, _⟩) (v := ?_) rfl (by kernel_rfl) (by kernel_rfl) (by kernel_rfl) (fun _ _ _ h => h) (Or.inl ⟨by kernel_rfl, ?hy7⟩) (by assumption) ?_
          case hy7 => (intro w' hSw; (try dsimp only at hSw); go_simp; try with_reducible rfl)
          simp only [Act.put, List.setIfInBounds_toArray, List.set_cons_zero, List.set_cons_succ]
          refine wpAnyH_take (i := 8) (oi := ⟨some 63, _, _, _, _, _⟩) (v := ?_) rfl (by kernel_rfl) (by kernel_rfl) (by kernel_rfl) (fun _ _ _ h => h) (Or.inl ⟨by kernel_rfl, ?hy8⟩) (by assumption) ?_
          case hy8 => (intro w' hSw; (try dsimp only at hSw); go_simp; try with_reducible rfl)
          simp only [Act.put, List.setIfInBounds_toArray, List.set_cons_zero, List.set_cons_succ]
          refine wpAnyH_take (i := 9) (oi := ⟨some 64, _, _, _, _, _⟩) (v := ?_) rfl (by kernel_rfl) (by kernel_rfl) (by kernel_rfl) (fun _ _ _ h => h) (Or.inl ⟨by kernel_rfl, ?hy9⟩) (by assumption) ?_
          case hy9 => (intro w' hSw; (try dsimp only at hSw); go_simp; try with_reducible rfl)
          simp only [Act.put, List.setIfInBounds_toArray, List.set_cons_zero, List.set_cons_succ]
          refine wpAnyH_take (i := 10) (oi := ⟨some 65, _, _, _, _, _⟩) (v := ?_) rfl (by kernel_rfl) (by kernel_rfl) (by kernel_rfl) (fun _ _ _ h => h) (Or.inl ⟨by kernel_rfl, ?hy10⟩) (by assumption) ?_
          case hy10 => (intro w' hSw; (try dsimp only at hSw); go_simp; try with_reducible rfl)
          simp only [Act.put, List.setIfInBounds_toArray, List.set_cons_zero, List.set_cons_succ]
          refine wpAnyH_take (i := 11) (oi := ⟨some 66, _, _, _, _, _⟩) (v := ?_) rfl (by kernel_rfl) (by kernel_rfl) (by kernel_rfl) (fun _ _ _ h => h) (Or.inl ⟨by kernel_rfl, ?hy11⟩) (by assumption) ?_
          case hy11 => (intro w' hSw; (try dsimp only at hSw); go_simp; try with_reducible rfl)
          simp only [Act.put, List.setIfInBounds_toArray, List.set_cons_zero, List.set_cons_succ]
          refine wpAnyH_take (i := 12) (oi := ⟨some 67, _, _, _, _, _⟩) (v := ?_) rfl (by kernel_rfl) (by kernel_rfl) (by kernel_rfl) (fun _ _ _ h => h) (Or.inl ⟨by kernel_rfl, ?hy12⟩) (by assumption) ?_
          case hy12 => (intro w' hSw; (try dsimp only at hSw); go_simp; try with_reducible rfl)
          simp only [Act.put, List.setIfInBounds_toArray, List.set_cons_zero, List.set_cons_succ]
          refine wpAnyH_take (i := 13) (oi := ⟨some 68, _, _, _, _, _⟩) (v := ?_) rfl (by kernel_rfl) (by kernel_rfl) (by kernel_rfl) (fun _ _ _ h => h) (Or.inl ⟨by kernel_rfl, ?hy13⟩) (by assumption) ?_
          case hy13 => (intro w' hSw; (try dsimp only at hSw); go_simp; try with_reducible rfl)
          simp only [Act.put, List.setIfInBounds_toArray, List.set_cons_zero, List.set_cons_succ]
          refine wpAnyH_take (i := 14) (oi := ⟨some 69, _, _, _, _, _⟩) (v := ?_) rfl (by kernel_rfl) (by kernel_rfl) (by kernel_rfl) (fun _ _ _ h => h) (Or.inl ⟨by kernel_rfl, ?hy14⟩) (by assumption) ?_
          case hy14 => (intro w' hSw; (try dsimp only at hSw); go_simp; try with_reducible rfl)
          simp only [Act.put, List.setIfInBounds_toArray, List.set_cons_zero, List.set_cons_succ]
          refine wpAnyH_take (i := 15) (oi := ⟨some 70, _, _, _, _, _⟩) (v := ?_) rfl (by kernel_rfl) (by kernel_rfl) (by kernel_rfl) (fun _ _ _ h => h) (Or.inl ⟨by kernel_rfl, ?hy15⟩) (by assumption) ?_
          case hy15 => (intro w' hSw; (try dsimp only at hSw); go_simp; try with_reducible rfl)
          simp only [Act.put, List.setIfInBounds_toArray, List.set_cons_zero, List.set_cons_succ]
          refine wpAnyH_ready (rs := [16]) (by kernel_rfl) (by simp) ?_
          refine AllReadyH.cons (o := ⟨some 71, _, _, _, _, _⟩) rfl (fun K hK => ?_) AllReadyH.nil
          (rw [if_pos (by kernel_rfl)])
          go_simp
          refine (HX9.out.rd (fun O F hl => buf_callsL w9 O F b l3 hl (spans_below HS1.out HX9.out.bel))).mono ?_
          rintro e w10 ⟨rfl, hx, hbel⟩
          rw [HK1.out]
          rw [show bs (([] : List UInt8), 0).1 = ({ data := #[] } : ByteArray) from rfl]
          have q10 := HSS.out w10 (HB9.out.trans (hbel.mono HB9.out.size))
          have HX10 := Lib.hid hx
          have fb := field_buf0 (.string ({ data := #[] } : ByteArray)) (.int .i64 (0 : Int))
          have tq : (S == S) = true := beq_self_eq_true _
          clear hx hbel HX9
          refine hK.out _ _ q10 (fun hHeld => ?_)
          clear hK K
          refine wpAnyH_take (i := 17) (oi := ⟨some 72, _, _, _, _, _⟩) (v := ?_) rfl (by kernel_rfl) (by kernel_rfl) (by kernel_rfl) (fun _ _ _ h => h) (Or.inl ⟨by kernel_rfl, ?hy17⟩) (by assumption) ?_
          case hy17 => (intro w' hSw; (try dsimp only at hSw); go_simp; try with_reducible rfl)
          simp only [Act.put, List.setIfInBounds_toArray, List.set_cons_zero, List.set_cons_succ]
          refine wpAnyH_take (i := 18) (oi := ⟨some 73, _, _, _, _, _⟩) (v := ?_) rfl (by kernel_rfl) (by kernel_rfl) (by kernel_rfl) (fun _ _ _ h => h) (Or.inl ⟨by kernel_rfl, ?hy18⟩) (by assumption) ?_
          case hy18 => (intro w' hSw; (try dsimp only at hSw); go_simp; try with_reducible rfl)
          simp only [Act.put, List.setIfInBounds_toArray, List.set_cons_zero, List.set_cons_succ]
          refine wpAnyH_take (i := 19) (oi := ⟨some 74, _, _, _, _, _⟩) (v := ?_) rfl (by kernel_rfl) (by kernel_rfl) (by kernel_rfl) (fun _ _ _ h => h) (Or.inl ⟨by kernel_rfl, ?hy19⟩) (by assumption) ?_
          case hy19 => (intro w' hSw; (try dsimp only at hSw); go_simp; try with_reducible rfl)
          simp only [Act.put, List.setIfInBounds_toArray, List.set_cons_zero, List.set_cons_succ]
          refine wpAnyH_take (i := 20) (oi := ⟨some 4, _, _, _, _, _⟩) (v := ?_) rfl (by kernel_rfl) (by kernel_rfl) (by kernel_rfl) (fun _ _ _ h => h) (Or.inl ⟨by kernel_rfl, ?hy20⟩) (by assumption) ?_
          case hy20 => (intro w' hSw; (try dsimp only at hSw); go_simp; try with_reducible rfl)
          simp only [Act.put, List.setIfInBounds_toArray, List.set_cons_zero, List.set_cons_succ]
          refine wpAnyH_done (by kernel_rfl) ?_ _
          go_wp2_with fail
          go_ret
          exact ⟨rfl, HB1.out.trans (HX10.out.bel.mono HB1.out.size)⟩
        · have hnb : ((fw.length : Int) == (S.length : Int)) = false := beq_eq_false_iff_ne.2 hfl
          clear hfl
          have zz := (HX1.out.below HX6.out.bel).c0
          go_wp2_with fail
          refine (HFir.out w6 (spans_below HS1.out HX6.out.bel)).mono ?_
          rintro e w7 ⟨rfl, hb7⟩
          have HX7 := Lib.hid (HX6.out.below hb7)
          clear zz
          clear hb7 HX6
          go_wp2_with fail
          refine (HX7.out.rd (E := fun e w' => ∃ A c, e = .returned (.slice A l3.ring.l.length c) ∧ RdV Value.string w' A l3.ring.l) (fun O F hl => (kills_callsL w7 O F b l3 hl (spans_below HS1.out HX7.out.bel)).mono (fun _ _ hh => by obtain ⟨A, c, e1, e2, e3⟩ := hh; exact ⟨⟨A, c, e1, e2⟩, e3⟩))).mono ?_
          rintro e w8 ⟨⟨A1, c1, rfl, hr⟩, hx, hbel⟩
          rw [HK2.out] at hr
          rw [HK2.out]
          have HX8 := Lib.hid hx
          have hBx8 := HX1.out.below hx.bel
          obtain ⟨g, og, rfl, hg, hc⟩ := hr (by simp)
          have z0 := hBx8.c0
          have cc0 := hc 0 _ rfl
          have HSS : Hid (∀ W, Below w8.heap.size w8 W → W.cell? ⟨g, og, none⟩ = some (.string (bs S)) ∧ W.cell? ⟨w1.heap.size, 0, none⟩ = some (.string (bs S))) := Lib.hid (fun W hW => ⟨(hW.cell (p := ⟨g, og, none⟩) hg).trans cc0, (hBx8.below hW).c0⟩)
          have hlen1 : ([bs S] : List ByteArray).length = 1 := rfl
          rw [hlen1]
          clear hx hbel HX7 hr hc hg
          go_upto_region 16 with fail
          refine wp_region_held_drew (S := (fun w' => w'.cell? ⟨g, og, none⟩ = some (.string (bs S)) ∧ w'.cell? ⟨w1.heap.size, 0, none⟩ = some (.string (bs S)))) (by kernel_rfl) ⟨cc0, z0⟩ (fun hHeld => ?_)
          refine wpAnyH_ready (rs := [0]) (by kernel_rfl) (by simp) ?_
          refine AllReadyH.cons (o := ⟨some 55, _, _, _, _, _⟩) rfl (fun K hK => ?_) AllReadyH.nil
          (rw [if_pos (by kernel_rfl)])
          go_simp
          refine (lalive_calls w8.drew (spans_below HS1.out (HX8.out.below Below.drewR).bel)).mono ?_
          rintro e w9 ⟨rfl, hb9⟩
          have hb9' : Below w8.heap.size w8 w9 := Below.drewR.trans hb9
          have q9 := HSS.out w9 hb9'
          have HX9 := Lib.hid (HX8.out.below hb9')
          have HB9 := Lib.hid hb9'
          clear hb9 hb9' HX8
          refine hK.out _ _ q9 (fun hHeld => ?_)
          clear hK K
          refine wpAnyH_take (i := 1) (oi := ⟨some 56, _, _, _, _, _⟩) (v := ?_) rfl (by kernel_rfl) (by kernel_rfl) (by kernel_rfl) (fun _ _ _ h => h) (Or.inl ⟨by kernel_rfl, ?hy1⟩) (by assumption) ?_
          case hy1 => (intro w' hSw; (try dsimp only at hSw); go_simp; try with_reducible rfl)
          simp only [Act.put, List.setIfInBounds_toArray, List.set_cons_zero, List.set_cons_succ]
          refine wpAnyH_take (i := 2) (oi := ⟨some 57, _, _, _, _, _⟩) (v := ?_) rfl (by kernel_rfl) (by kernel_rfl) (by kernel_rfl) (fun _ _ _ h => h) (Or.inl ⟨by kernel_rfl, ?hy2⟩) (by assumption) ?_
          case hy2 => (intro w' hSw; (try dsimp only at hSw); go_simp; try with_reducible rfl)
          simp only [Act.put, List.setIfInBounds_toArray, List.set_cons_zero, List.set_cons_succ]
          refine wpAnyH_take (i := 3) (oi := ⟨some 58, _, _, _, _, _⟩) (v := ?_) rfl (by kernel_rfl) (by kernel_rfl) (by kernel_rfl) (fun _ _ _ h => h) (Or.inl ⟨by kernel_rfl, ?hy3⟩) (by assumption) ?_
          case hy3 => (intro w' hSw; (try dsimp only at hSw); go_simp; try with_reducible rfl)
          simp only [Act.put, List.setIfInBounds_toArray, List.set_cons_zero, List.set_cons_succ]
          refine wpAnyH_take (i := 4) (oi := ⟨some 59, _, _, _, _, _⟩) (v := ?_) rfl (by kernel_rfl) (by kernel_rfl) (by kernel_rfl) (fun _ _ _ h => h) (Or.inl ⟨by kernel_rfl, ?hy4⟩) (by assumption) ?_
          case hy4 => (intro w' hSw; (try dsimp only at hSw); go_simp; try with_reducible rfl)
          simp only [Act.put, List.setIfInBounds_toArray, List.set_cons_zero, List.set_cons_succ]
          refine wpAnyH_take (i := 5) (oi := ⟨some 60, _, _, _, _, _⟩) (v := ?_) rfl (by kernel_rfl) (by kernel_rfl) (by kernel_rfl) (fun _ _ _ h => h) (Or.inl ⟨by kernel_rfl, ?hy5⟩) (by assumption) ?_
          case hy5 => (intro w' hSw; (try dsimp only at hSw); go_simp; try with_reducible rfl)
          simp only [Act.put, List.setIfInBounds_toArray, List.set_cons_zero, List.set_cons_succ]
          refine wpAnyH_take (i := 6) (oi := ⟨some 61, _, _, _, _, _⟩) (v := ?_) rfl (by kernel_rfl) (by kernel_rfl) (by kernel_rfl) (fun _ _ _ h => h) (Or.inl ⟨by kernel_rfl, ?hy6⟩) (by assumption) ?_
          case hy6 => (intro w' hSw; (try dsimp only at hSw); go_simp; try with_reducible rfl)
          simp only [Act.put, List.setIfInBounds_toArray, List.set_cons_zero, List.set_cons_succ]
          refine wpAnyH_take (i := 7) (oi := ⟨some 62, _, _, _, _, _⟩) (v := ?_) rfl (by kernel_rfl) (by kernel_rfl) (by kernel_rfl) (fun _ _ _ h => h) (Or.inl ⟨by kernel_rfl, ?hy7⟩) (by assumption) ?_
          case hy7 => (intro w' hSw; (try dsimp only at hSw); go_simp; try with_reducible rfl)
          simp only [Act.put, List.setIfInBounds_toArray, List.set_cons_zero, List.set_cons_succ]
          refine wpAnyH_take (i := 8) (oi := ⟨some 63, _, _, _, _, _⟩) (v := ?_) rfl (by kernel_rfl) (by kernel_rfl) (by kernel_rfl) (fun _ _ _ h => h) (Or.inl ⟨by kernel_rfl, ?hy8⟩) (by assumption) ?_
          case hy8 => (intro w' hSw; (try dsimp only at hSw); go_simp; try with_reducible rfl)
          simp only [Act.put, List.setIfInBounds_toArray, List.set_cons_zero, List.set_cons_succ]
          refine wpAnyH_take (i := 9) (oi := ⟨some 64, _, _, _, _, _⟩) (v := ?_) rfl (by kernel_rfl) (by kernel_rfl) (by kernel_rfl) (fun _ _ _ h => h) (Or.inl ⟨by kernel_rfl, ?hy9⟩) (by assumption) ?_
          case hy9 => (intro w' hSw; (try dsimp only at hSw); go_simp; try with_reducible rfl)
          simp only [Act.put, List.setIfInBounds_toArray, List.set_cons_zero, List.set_cons_succ]
          refine wpAnyH_take (i := 10) (oi := ⟨some 65, _, _, _, _, _⟩) (v := ?_) rfl (by kernel_rfl) (by kernel_rfl) (by kernel_rfl) (fun _ _ _ h => h) (Or.inl ⟨by kernel_rfl, ?hy10⟩) (by assumption) ?_
          case hy10 => (intro w' hSw; (try dsimp only at hSw); go_simp; try with_reducible rfl)
          simp only [Act.put, List.setIfInBounds_toArray, List.set_cons_zero, List.set_cons_succ]
          refine wpAnyH_take (i := 11) (oi := ⟨some 66, _, _, _, _, _⟩) (v := ?_) rfl (by kernel_rfl) (by kernel_rfl) (by kernel_rfl) (fun _ _ _ h => h) (Or.inl ⟨by kernel_rfl, ?hy11⟩) (by assumption) ?_
          case hy11 => (intro w' hSw; (try dsimp only at hSw); go_simp; try with_reducible rfl)
          simp only [Act.put, List.setIfInBounds_toArray, List.set_cons_zero, List.set_cons_succ]
          refine wpAnyH_take (i := 12) (oi := ⟨some 67, _, _, _, _, _⟩) (v := ?_) rfl (by kernel_rfl) (by kernel_rfl) (by kernel_rfl) (fun _ _ _ h => h) (Or.inl ⟨by kernel_rfl, ?hy12⟩) (by assumption) ?_
          case hy12 => (intro w' hSw; (try dsimp only at hSw); go_simp; try with_reducible rfl)
          simp only [Act.put, List.setIfInBounds_toArray, List.set_cons_zero, List.set_cons_succ]
          refine wpAnyH_take (i := 13) (oi := ⟨some 68, _, _, _, _, _⟩) (v := ?_) rfl (by kernel_rfl) (by kernel_rfl) (by kernel_rfl) (fun _ _ _ h => h) (Or.inl ⟨by kernel_rfl, ?hy13⟩) (by assumption) ?_
          case hy13 => (intro w' hSw; (try dsimp only at hSw); go_simp; try with_reducible rfl)
          simp only [Act.put, List.setIfInBounds_toArray, List.set_cons_zero, List.set_cons_succ]
          refine wpAnyH_take (i := 14) (oi := ⟨some 69, _, _, _, _, _⟩) (v := ?_) rfl (by kernel_rfl) (by kernel_rfl) (by kernel_rfl) (fun _ _ _ h => h) (Or.inl ⟨by kernel_rfl, ?hy14⟩) (by assumption) ?_
          case hy14 => (intro w' hSw; (try dsimp only at hSw); go_simp; try with_reducible rfl)
          simp only [Act.put, List.setIfInBounds_toArray, List.set_cons_zero, List.set_cons_succ]
          refine wpAnyH_take (i := 15) (oi := ⟨some 70, _, _, _, _, _⟩) (v := ?_) rfl (by kernel_rfl) (by kernel_rfl) (by kernel_rfl) (fun _ _ _ h => h) (Or.inl ⟨by kernel_rfl, ?hy15⟩) (by assumption) ?_
          case hy15 => (intro w' hSw; (try dsimp only at hSw); go_simp; try with_reducible rfl)
          simp only [Act.put, List.setIfInBounds_toArray, List.set_cons_zero, List.set_cons_succ]
          refine wpAnyH_ready (rs := [16]) (by kernel_rfl) (by simp) ?_
          refine AllReadyH.cons (o := ⟨some 71, _, _, _, _, _⟩) rfl (fun K hK => ?_) AllReadyH.nil
          (rw [if_pos (by kernel_rfl)])
          go_simp
          refine (HX9.out.rd (fun O F hl => buf_callsL w9 O F b l3 hl (spans_below HS1.out HX9.out.bel))).mono ?_
          rintro e w10 ⟨rfl, hx, hbel⟩
          rw [HK1.out]
          rw [show bs (([] : List UInt8), 0).1 = ({ data := #[] } : ByteArray) from rfl]
          have q10 := HSS.out w10 (HB9.out.trans (hbel.mono HB9.out.size))
          have HX10 := Lib.hid hx
          have fb := field_buf0 (.string ({ data := #[] } : ByteArray)) (.int .i64 (0 : Int))
          have tq : (S == S) = true := beq_self_eq_true _
          clear hx hbel HX9
          refine hK.out _ _ q10 (fun hHeld => ?_)
          clear hK K
          refine wpAnyH_take (i := 17) (oi := ⟨some 72, _, _, _, _, _⟩) (v := ?_) rfl (by kernel_rfl) (by kernel_rfl) (by kernel_rfl) (fun _ _ _ h => h) (Or.inl ⟨by kernel_rfl, ?hy17⟩) (by assumption) ?_
          case hy17 => (intro w' hSw; (try dsimp only at hSw); go_simp; try with_reducible rfl)
          simp only [Act.put, List.setIfInBounds_toArray, List.set_cons_zero, List.set_cons_succ]
          refine wpAnyH_take (i := 18) (oi := ⟨some 73, _, _, _, _, _⟩) (v := ?_) rfl (by kernel_rfl) (by kernel_rfl) (by kernel_rfl) (fun _ _ _ h => h) (Or.inl ⟨by kernel_rfl, ?hy18⟩) (by assumption) ?_
          case hy18 => (intro w' hSw; (try dsimp only at hSw); go_simp; try with_reducible rfl)
          simp only [Act.put, List.setIfInBounds_toArray, List.set_cons_zero, List.set_cons_succ]
          refine wpAnyH_take (i := 19) (oi := ⟨some 74, _, _, _, _, _⟩) (v := ?_) rfl (by kernel_rfl) (by kernel_rfl) (by kernel_rfl) (fun _ _ _ h => h) (Or.inl ⟨by kernel_rfl, ?hy19⟩) (by assumption) ?_
          case hy19 => (intro w' hSw; (try dsimp only at hSw); go_simp; try with_reducible rfl)
          simp only [Act.put, List.setIfInBounds_toArray, List.set_cons_zero, List.set_cons_succ]
          refine wpAnyH_take (i := 20) (oi := ⟨some 4, _, _, _, _, _⟩) (v := ?_) rfl (by kernel_rfl) (by kernel_rfl) (by kernel_rfl) (fun _ _ _ h => h) (Or.inl ⟨by kernel_rfl, ?hy20⟩) (by assumption) ?_
          case hy20 => (intro w' hSw; (try dsimp only at hSw); go_simp; try with_reducible rfl)
          simp only [Act.put, List.setIfInBounds_toArray, List.set_cons_zero, List.set_cons_succ]
          refine wpAnyH_done (by kernel_rfl) ?_ _
          go_wp2_with fail
          go_ret
          exact ⟨rfl, HB1.out.trans (HX10.out.bel.mono HB1.out.size)⟩
      | true =>
        generalize (l1.key 7 []).key 14 [] = l2 at *
        go_wp2_with fail
        refine (HX5.out.line (C' := 3000) (LN.key_sm0 HX5.out.sm 7 [] rfl) (fun O F hl => key_callsL w5 O F b l2 hl (spans_below HS1.out HX5.out.bel) 7 [] (by decide) (HX5.out.sm.mono (by decide)))).mono ?_
        rintro e w5b ⟨rfl, hx, _⟩
        have HX5b := Lib.hid hx
        clear hx HX5
        go_wp2_with fail
        refine (HX5b.out.line (C' := 3000) ((LN.key_sm HX5b.out.ok (LN.key_sm0 HS5.out 7 [] rfl) 11 []).mono (by decide)) (fun O F hl => key_callsL w5b O F b _ hl (spans_below HS1.out HX5b.out.bel) 11 [] (by decide) (HX5b.out.sm.mono (by decide)))).mono ?_
        rintro e w6 ⟨rfl, hx, _⟩
        have HX6 := Lib.hid hx
        clear hx HX5b
        obtain ⟨k1, k2⟩ := HKt2.out
        have HK1 := Lib.hid k1
        by_cases hfs : S.take n = S
        · rw [if_pos hfs] at k2
          have HK2 := Lib.hid k2
          clear k1 k2 HKf2 HKt2
          generalize (l2.key 7 []).key 11 [] = l3 at *
          rw [hfs] at HFir
          clear hfs
          have zz := (HX1.out.below HX6.out.bel).c0
          go_wp2_with fail
          refine (HFir.out w6 (spans_below HS1.out HX6.out.bel)).mono ?_
          rintro e w7 ⟨rfl, hb7⟩
          have HX7 := Lib.hid (HX6.out.below hb7)
          clear zz
          clear hb7 HX6
          go_wp2_with fail
          refine (HX7.out.rd (E := fun e w' => ∃ A c, e = .returned (.slice A l3.ring.l.length c) ∧ RdV Value.string w' A l3.ring.l) (fun O F hl => (kills_callsL w7 O F b l3 hl (spans_below HS1.out HX7.out.bel)).mono (fun _ _ hh => by obtain ⟨A, c, e1, e2, e3⟩ := hh; exact ⟨⟨A, c, e1, e2⟩, e3⟩))).mono ?_
          rintro e w8 ⟨⟨A1, c1, rfl, hr⟩, hx, hbel⟩
          rw [HK2.out] at hr
          rw [HK2.out]
          have HX8 := Lib.hid hx
          have hBx8 := HX1.out.below hx.bel
          obtain ⟨g, og, rfl, hg, hc⟩ := hr (by simp)
          have z0 := hBx8.c0
          have cc0 := hc 0 _ rfl
          have HSS : Hid (∀ W, Below w8.heap.size w8 W → W.cell? ⟨g, og, none⟩ = some (.string (bs S)) ∧ W.cell? ⟨w1.heap.size, 0, none⟩ = some (.string (bs S))) := Lib.hid (fun W hW => ⟨(hW.cell (p := ⟨g, og, none⟩) hg).trans cc0, (hBx8.below hW).c0⟩)
          have hlen1 : ([bs S] : List ByteArray).length = 1 := rfl
          rw [hlen1]
          clear hx hbel HX7 hr hc hg
          go_upto_region 16 with fail
          refine wp_region_held_drew (S := (fun w' => w'.cell? ⟨g, og, none⟩ = some (.string (bs S)) ∧ w'.cell? ⟨w1.heap.size, 0, none⟩ = some (.string (bs S)))) (by kernel_rfl) ⟨cc0, z0⟩ (fun hHeld => ?_)
          refine wpAnyH_ready (rs := [0]) (by kernel_rfl) (by simp) ?_
          refine AllReadyH.cons (o := ⟨some 55, _, _, _, _, _⟩) rfl (fun K hK => ?_) AllReadyH.nil
          (rw [if_pos (by kernel_rfl)])
          go_simp
          refine (lalive_calls w8.drew (spans_below HS1.out (HX8.out.below Below.drewR).bel)).mono ?_
          rintro e w9 ⟨rfl, hb9⟩
          have hb9' : Below w8.heap.size w8 w9 := Below.drewR.trans hb9
          have q9 := HSS.out w9 hb9'
          have HX9 := Lib.hid (HX8.out.below hb9')
          have HB9 := Lib.hid hb9'
          clear hb9 hb9' HX8
          refine hK.out _ _ q9 (fun hHeld => ?_)
          clear hK K
          refine wpAnyH_take (i := 1) (oi := ⟨some 56, _, _, _, _, _⟩) (v := ?_) rfl (by kernel_rfl) (by kernel_rfl) (by kernel_rfl) (fun _ _ _ h => h) (Or.inl ⟨by kernel_rfl, ?hy1⟩) (by assumption) ?_
          case hy1 => (intro w' hSw; (try dsimp only at hSw); go_simp; try with_reducible rfl)
          simp only [Act.put, List.setIfInBounds_toArray, List.set_cons_zero, List.set_cons_succ]
          refine wpAnyH_take (i := 2) (oi := ⟨some 57, _, _, _, _, _⟩) (v := ?_) rfl (by kernel_rfl) (by kernel_rfl) (by kernel_rfl) (fun _ _ _ h => h) (Or.inl ⟨by kernel_rfl, ?hy2⟩) (by assumption) ?_
          case hy2 => (intro w' hSw; (try dsimp only at hSw); go_simp; try with_reducible rfl)
          simp only [Act.put, List.setIfInBounds_toArray, List.set_cons_zero, List.set_cons_succ]
          refine wpAnyH_take (i := 3) (oi := ⟨some 58, _, _, _, _, _⟩) (v := ?_) rfl (by kernel_rfl) (by kernel_rfl) (by kernel_rfl) (fun _ _ _ h => h) (Or.inl ⟨by kernel_rfl, ?hy3⟩) (by assumption) ?_
          case hy3 => (intro w' hSw; (try dsimp only at hSw); go_simp; try with_reducible rfl)
          simp only [Act.put, List.setIfInBounds_toArray, List.set_cons_zero, List.set_cons_succ]
          refine wpAnyH_take (i := 4) (oi := ⟨some 59, _, _, _, _, _⟩) (v := ?_) rfl (by kernel_rfl) (by kernel_rfl) (by kernel_rfl) (fun _ _ _ h => h) (Or.inl ⟨by kernel_rfl, ?hy4⟩) (by assumption) ?_
          case hy4 => (intro w' hSw; (try dsimp only at hSw); go_simp; try with_reducible rfl)
          simp only [Act.put, List.setIfInBounds_toArray, List.set_cons_zero, List.set_cons_succ]
          refine wpAnyH_take (i := 5) (oi := ⟨some 60, _, _, _, _, _⟩) (v := ?_) rfl (by kernel_rfl) (by kernel_rfl) (by kernel_rfl) (fun _ _ _ h => h) (Or.inl ⟨by kernel_rfl, ?hy5⟩) (by assumption) ?_
          case hy5 => (intro w' hSw; (try dsimp only at hSw); go_simp; try with_reducible rfl)
          simp only [Act.put, List.setIfInBounds_toArray, List.set_cons_zero, List.set_cons_succ]
          refine wpAnyH_take (i := 6) (oi := ⟨some 61, _, _, _, _, _⟩) (v := ?_) rfl (by kernel_rfl) (by kernel_rfl) (by kernel_rfl) (fun _ _ _ h => h) (Or.inl ⟨by kernel_rfl, ?hy6⟩) (by assumption) ?_
          case hy6 => (intro w' hSw; (try dsimp only at hSw); go_simp; try with_reducible rfl)
          simp only [Act.put, List.setIfInBounds_toArray, List.set_cons_zero, List.set_cons_succ]
          refine wpAnyH_take (i := 7) (oi := ⟨some 62, _, _, _, _, _⟩) (v := ?_) rfl (by kernel_rfl) (by kernel_rfl) (by kernel_rfl) (fun _ _ _ h => h) (Or.inl ⟨by kernel_rfl, ?hy7⟩) (by assumption) ?_
          case hy7 => (intro w' hSw; (try dsimp only at hSw); go_simp; try with_reducible rfl)
          simp only [Act.put, List.setIfInBounds_toArray, List.set_cons_zero, List.set_cons_succ]
          refine wpAnyH_take (i := 8) (oi := ⟨some 63, _, _, _, _, _⟩) (v := ?_) rfl (by kernel_rfl) (by kernel_rfl) (by kernel_rfl) (fun _ _ _ h => h) (Or.inl ⟨by kernel_rfl, ?hy8⟩) (by assumption) ?_
          case hy8 => (intro w' hSw; (try dsimp only at hSw); go_simp; try with_reducible rfl)
          simp only [Act.put, List.setIfInBounds_toArray, List.set_cons_zero, List.set_cons_succ]
          refine wpAnyH_take (i := 9) (oi := ⟨some 64, _, _, _, _, _⟩) (v := ?_) rfl (by kernel_rfl) (by kernel_rfl) (by kernel_rfl) (fun _ _ _ h => h) (Or.inl ⟨by kernel_rfl, ?hy9⟩) (by assumption) ?_
          case hy9 => (intro w' hSw; (try dsimp only at hSw); go_simp; try with_reducible rfl)
          simp only [Act.put, List.setIfInBounds_toArray, List.set_cons_zero, List.set_cons_succ]
          refine wpAnyH_take (i := 10) (oi := ⟨some 65, _, _, _, _, _⟩) (v := ?_) rfl (by kernel_rfl) (by kernel_rfl) (by kernel_rfl) (fun _ _ _ h => h) (Or.inl ⟨by kernel_rfl, ?hy10⟩) (by assumption) ?_
          case hy10 => (intro w' hSw; (try dsimp only at hSw); go_simp; try with_reducible rfl)
          simp only [Act.put, List.setIfInBounds_toArray, List.set_cons_zero, List.set_cons_succ]
          refine wpAnyH_take (i := 11) (oi := ⟨some 66, _, _, _, _, _⟩) (v := ?_) rfl (by kernel_rfl) (by kernel_rfl) (by kernel_rfl) (fun _ _ _ h => h) (Or.inl ⟨by kernel_rfl, ?hy11⟩) (by assumption) ?_
          case hy11 => (intro w' hSw; (try dsimp only at hSw); go_simp; try with_reducible rfl)
          simp only [Act.put, List.setIfInBounds_toArray, List.set_cons_zero, List.set_cons_succ]
          refine wpAnyH_take (i := 12) (oi := ⟨some 67, _, _, _, _, _⟩) (v := ?_) rfl (by kernel_rfl) (by kernel_rfl) (by kernel_rfl) (fun _ _ _ h => h) (Or.inl ⟨by kernel_rfl, ?hy12⟩) (by assumption) ?_
          case hy12 => (intro w' hSw; (try dsimp only at hSw); go_simp; try with_reducible rfl)
          simp only [Act.put, List.setIfInBounds_toArray, List.set_cons_zero, List.set_cons_succ]
          refine wpAnyH_take (i := 13) (oi := ⟨some 68, _, _, _, _, _⟩) (v := ?_) rfl (by kernel_rfl) (by kernel_rfl) (by kernel_rfl) (fun _ _ _ h => h) (Or.inl ⟨by kernel_rfl, ?hy13⟩) (by assumption) ?_
          case hy13 => (intro w' hSw; (try dsimp only at hSw); go_simp; try with_reducible rfl)
          simp only [Act.put, List.setIfInBounds_toArray, List.set_cons_zero, List.set_cons_succ]
          refine wpAnyH_take (i := 14) (oi := ⟨some 69, _, _, _, _, _⟩) (v := ?_) rfl (by kernel_rfl) (by kernel_rfl) (by kernel_rfl) (fun _ _ _ h => h) (Or.inl ⟨by kernel_rfl, ?hy14⟩) (by assumption) ?_
          case hy14 => (intro w' hSw; (try dsimp only at hSw); go_simp; try with_reducible rfl)
          simp only [Act.put, List.setIfInBounds_toArray, List.set_cons_zero, List.set_cons_succ]
          refine wpAnyH_take (i := 15) (oi := ⟨some 70, _, _, _, _, _⟩) (v := ?_) rfl (by kernel_rfl) (by kernel_rfl) (by kernel_rfl) (fun _ _ _ h => h) (Or.inl ⟨by kernel_rfl, ?hy15⟩) (by assumption) ?_
          case hy15 => (intro w' hSw; (try dsimp only at hSw); go_simp; try with_reducible rfl)
          simp only [Act.put, List.setIfInBounds_toArray, List.set_cons_zero, List.set_cons_succ]
          refine wpAnyH_ready (rs := [16]) (by kernel_rfl) (by simp) ?_
          refine AllReadyH.cons (o := ⟨some 71, _, _, _, _, _⟩) rfl (fun K hK => ?_) AllReadyH.nil
          (rw [if_pos (by kernel_rfl)])
          go_simp
          refine (HX9.out.rd (fun O F hl => buf_callsL w9 O F b l3 hl (spans_below HS1.out HX9.out.bel))).mono ?_
          rintro e w10 ⟨rfl, hx, hbel⟩
          rw [HK1.out]
          rw [show bs (([] : List UInt8), 0).1 = ({ data := #[] } : ByteArray) from rfl]
          have q10 := HSS.out w10 (HB9.out.trans (hbel.mono HB9.out.size))
          have HX10 := Lib.hid hx
          have fb := field_buf0 (.string ({ data := #[] } : ByteArray)) (.int .i64 (0 : Int))
          have tq : (S == S) = true := beq_self_eq_true _
          clear hx hbel HX9
          refine hK.out _ _ q10 (fun hHeld => ?_)
          clear hK K
          refine wpAnyH_take (i := 17) (oi := ⟨some 72, _, _, _, _, _⟩) (v := ?_) rfl (by kernel_rfl) (by kernel_rfl) (by kernel_rfl) (fun _ _ _ h => h) (Or.inl ⟨by kernel_rfl, ?hy17⟩) (by assumption) ?_
          case hy17 => (intro w' hSw; (try dsimp only at hSw); go_simp; try with_reducible rfl)
          simp only [Act.put, List.setIfInBounds_toArray, List.set_cons_zero, List.set_cons_succ]
          refine wpAnyH_take (i := 18) (oi := ⟨some 73, _, _, _, _, _⟩) (v := ?_) rfl (by kernel_rfl) (by kernel_rfl) (by kernel_rfl) (fun _ _ _ h => h) (Or.inl ⟨by kernel_rfl, ?hy18⟩) (by assumption) ?_
          case hy18 => (intro w' hSw; (try dsimp only at hSw); go_simp; try with_reducible rfl)
          simp only [Act.put, List.setIfInBounds_toArray, List.set_cons_zero, List.set_cons_succ]
          refine wpAnyH_take (i := 19) (oi := ⟨some 74, _, _, _, _, _⟩) (v := ?_) rfl (by kernel_rfl) (by kernel_rfl) (by kernel_rfl) (fun _ _ _ h => h) (Or.inl ⟨by kernel_rfl, ?hy19⟩) (by assumption) ?_
          case hy19 => (intro w' hSw; (try dsimp only at hSw); go_simp; try with_reducible rfl)
          simp only [Act.put, List.setIfInBounds_toArray, List.set_cons_zero, List.set_cons_succ]
          refine wpAnyH_take (i := 20) (oi := ⟨some 4, _, _, _, _, _⟩) (v := ?_) rfl (by kernel_rfl) (by kernel_rfl) (by kernel_rfl) (fun _ _ _ h => h) (Or.inl ⟨by kernel_rfl, ?hy20⟩) (by assumption) ?_
          case hy20 => (intro w' hSw; (try dsimp only at hSw); go_simp; try with_reducible rfl)
          simp only [Act.put, List.setIfInBounds_toArray, List.set_cons_zero, List.set_cons_succ]
          refine wpAnyH_done (by kernel_rfl) ?_ _
          go_wp2_with fail
          go_ret
          exact ⟨rfl, HB1.out.trans (HX10.out.bel.mono HB1.out.size)⟩
        · rw [if_neg hfs] at k2
          have HK2 := Lib.hid k2
          have hnl : ((S.take n).length : Int) ≠ (S.length : Int) := fun e => hfs (by
            rw [List.length_take] at e
            exact List.take_of_length_le (by omega))
          have hle : ((S.take n).length : Int) ≤ (S.length : Int) := by rw [List.length_take]; omega
          have hex : (bs S).extract (S.take n).length S.length = bs (S.drop n) := by
            rw [bs_mid, List.length_take]
            congr 1
            by_cases hnn : n ≤ S.length
            · rw [Nat.min_eq_left hnn, List.take_of_length_le (by rw [List.length_drop]; exact Nat.le_refl _)]
            · rw [Nat.min_eq_right (by omega), List.drop_length, List.drop_eq_nil_of_le (by omega)]
              simp
          clear k1 k2 HKf2 HKt2 hfs
          generalize (l2.key 7 []).key 11 [] = l3 at *
          generalize S.take n = fw at *
          generalize S.drop n = rw_ at *
          have hnb : ((fw.length : Int) == (S.length : Int)) = false := beq_eq_false_iff_ne.2 hnl
          have zz := (HX1.out.below HX6.out.bel).c0
          go_wp2_with fail
          refine (HFir.out w6 (spans_below HS1.out HX6.out.bel)).mono ?_
          rintro e w7 ⟨rfl, hb7⟩
          have HX7 := Lib.hid (HX6.out.below hb7)
          clear zz
          clear hb7 HX6
          go_wp2_with fail
          refine (HX7.out.rd (E := fun e w' => ∃ A c, e = .returned (.slice A l3.ring.l.length c) ∧ RdV Value.string w' A l3.ring.l) (fun O F hl => (kills_callsL w7 O F b l3 hl (spans_below HS1.out HX7.out.bel)).mono (fun _ _ hh => by obtain ⟨A, c, e1, e2, e3⟩ := hh; exact ⟨⟨A, c, e1, e2⟩, e3⟩))).mono ?_
          rintro e w8 ⟨⟨A1, c1, rfl, hr⟩, hx, hbel⟩
          rw [HK2.out] at hr
          rw [HK2.out]
          have HX8 := Lib.hid hx
          have hBx8 := HX1.out.below hx.bel
          obtain ⟨g, og, rfl, hg, hc⟩ := hr (by simp)
          have z0 := hBx8.c0
          have cc0 := hc 0 _ rfl
          have cc1 := hc 1 _ rfl
          have HSS : Hid (∀ W, Below w8.heap.size w8 W → W.cell? ⟨g, og, none⟩ = some (.string (bs rw_)) ∧ W.cell? ⟨g, og + 1, none⟩ = some (.string (bs fw)) ∧ W.cell? ⟨w1.heap.size, 0, none⟩ = some (.string (bs S))) := Lib.hid (fun W hW => ⟨(hW.cell (p := ⟨g, og, none⟩) hg).trans cc0, (hW.cell (p := ⟨g, og + 1, none⟩) hg).trans cc1, (hBx8.below hW).c0⟩)
          have hlen1 : ([bs rw_, bs fw] : List ByteArray).length = 2 := rfl
          rw [hlen1]
          have hft := bs_size fw
          clear hx hbel HX7 hr hc hg
          go_upto_region 17 with fail
          refine wp_region_held_drew (S := (fun w' => w'.cell? ⟨g, og, none⟩ = some (.string (bs rw_)) ∧ w'.cell? ⟨g, og + 1, none⟩ = some (.string (bs fw)) ∧ w'.cell? ⟨w1.heap.size, 0, none⟩ = some (.string (bs S)))) (by kernel_rfl) ⟨cc0, cc1, z0⟩ (fun hHeld => ?_)
          refine wpAnyH_ready (rs := [0]) (by kernel_rfl) (by simp) ?_
          refine AllReadyH.cons (o := ⟨some 75, _, _, _, _, _⟩) rfl (fun K hK => ?_) AllReadyH.nil
          (rw [if_pos (by kernel_rfl)])
          go_simp
          refine (lalive_calls w8.drew (spans_below HS1.out (HX8.out.below Below.drewR).bel)).mono ?_
          rintro e w9 ⟨rfl, hb9⟩
          have hb9' : Below w8.heap.size w8 w9 := Below.drewR.trans hb9
          have q9 := HSS.out w9 hb9'
          have HX9 := Lib.hid (HX8.out.below hb9')
          have HB9 := Lib.hid hb9'
          clear hb9 hb9' HX8
          have tq : (rw_ == rw_) = true := beq_self_eq_true _
          have tq2 : (fw == fw) = true := beq_self_eq_true _
          refine hK.out _ _ q9 (fun hHeld => ?_)
          clear hK K
          refine wpAnyH_take (i := 1) (oi := ⟨some 76, _, _, _, _, _⟩) (v := ?_) rfl (by kernel_rfl) (by kernel_rfl) (by kernel_rfl) (fun _ _ _ h => h) (Or.inl ⟨by kernel_rfl, ?hy1⟩) (by assumption) ?_
          case hy1 => (intro w' hSw; (try dsimp only at hSw); go_simp; try with_reducible rfl)
          simp only [Act.put, List.setIfInBounds_toArray, List.set_cons_zero, List.set_cons_succ]
          refine wpAnyH_take (i := 2) (oi := ⟨some 77, _, _, _, _, _⟩) (v := ?_) rfl (by kernel_rfl) (by kernel_rfl) (by kernel_rfl) (fun _ _ _ h => h) (Or.inl ⟨by kernel_rfl, ?hy2⟩) (by assumption) ?_
          case hy2 => (intro w' hSw; (try dsimp only at hSw); go_simp; try with_reducible rfl)
          simp only [Act.put, List.setIfInBounds_toArray, List.set_cons_zero, List.set_cons_succ]
          refine wpAnyH_take (i := 3) (oi := ⟨some 78, _, _, _, _, _⟩) (v := ?_) rfl (by kernel_rfl) (by kernel_rfl) (by kernel_rfl) (fun _ _ _ h => h) (Or.inl ⟨by kernel_rfl, ?hy3⟩) (by assumption) ?_
          case hy3 => (intro w' hSw; (try dsimp only at hSw); go_simp; try with_reducible rfl)
          simp only [Act.put, List.setIfInBounds_toArray, List.set_cons_zero, List.set_cons_succ]
          refine wpAnyH_take (i := 4) (oi := ⟨some 79, _, _, _, _, _⟩) (v := ?_) rfl (by kernel_rfl) (by kernel_rfl) (by kernel_rfl) (fun _ _ _ h => h) (Or.inl ⟨by kernel_rfl, ?hy4⟩) (by assumption) ?_
          case hy4 => (intro w' hSw; (try dsimp only at hSw); go_simp; try with_reducible rfl)
          simp only [Act.put, List.setIfInBounds_toArray, List.set_cons_zero, List.set_cons_succ]
          refine wpAnyH_take (i := 5) (oi := ⟨some 80, _, _, _, _, _⟩) (v := ?_) rfl (by kernel_rfl) (by kernel_rfl) (by kernel_rfl) (fun _ _ _ h => h) (Or.inl ⟨by kernel_rfl, ?hy5⟩) (by assumption) ?_
          case hy5 => (intro w' hSw; (try dsimp only at hSw); go_simp; try with_reducible rfl)
          simp only [Act.put, List.setIfInBounds_toArray, List.set_cons_zero, List.set_cons_succ]
          refine wpAnyH_take (i := 6) (oi := ⟨some 81, _, _, _, _, _⟩) (v := ?_) rfl (by kernel_rfl) (by kernel_rfl) (by kernel_rfl) (fun _ _ _ h => h) (Or.inl ⟨by kernel_rfl, ?hy6⟩) (by assumption) ?_
          case hy6 => (intro w' hSw; (try dsimp only at hSw); go_simp; try with_reducible rfl)
          simp only [Act.put, List.setIfInBounds_toArray, List.set_cons_zero, List.set_cons_succ]
          refine wpAnyH_take (i := 7) (oi := ⟨some 82, _, _, _, _, _⟩) (v := ?_) rfl (by kernel_rfl) (by kernel_rfl) (by kernel_rfl) (fun _ _ _ h => h) (Or.inl ⟨by kernel_rfl, ?hy7⟩) (by assumption) ?_
          case hy7 => (intro w' hSw; (try dsimp only at hSw); go_simp; try with_reducible rfl)
          simp only [Act.put, List.setIfInBounds_toArray, List.set_cons_zero, List.set_cons_succ]
          refine wpAnyH_take (i := 8) (oi := ⟨some 83, _, _, _, _, _⟩) (v := ?_) rfl (by kernel_rfl) (by kernel_rfl) (by kernel_rfl) (fun _ _ _ h => h) (Or.inl ⟨by kernel_rfl, ?hy8⟩) (by assumption) ?_
          case hy8 => (intro w' hSw; (try dsimp only at hSw); go_simp; try with_reducible rfl)
          simp only [Act.put, List.setIfInBounds_toArray, List.set_cons_zero, List.set_cons_succ]
          refine wpAnyH_take (i := 9) (oi := ⟨some 84, _, _, _, _, _⟩) (v := ?_) rfl (by kernel_rfl) (by kernel_rfl) (by kernel_rfl) (fun _ _ _ h => h) (Or.inl ⟨by kernel_rfl, ?hy9⟩) (by assumption) ?_
          case hy9 => (intro w' hSw; (try dsimp only at hSw); go_simp; try with_reducible rfl)
          simp only [Act.put, List.setIfInBounds_toArray, List.set_cons_zero, List.set_cons_succ]
          refine wpAnyH_take (i := 10) (oi := ⟨some 85, _, _, _, _, _⟩) (v := ?_) rfl (by kernel_rfl) (by kernel_rfl) (by kernel_rfl) (fun _ _ _ h => h) (Or.inl ⟨by kernel_rfl, ?hy10⟩) (by assumption) ?_
          case hy10 => (intro w' hSw; (try dsimp only at hSw); go_simp; try with_reducible rfl)
          simp only [Act.put, List.setIfInBounds_toArray, List.set_cons_zero, List.set_cons_succ]
          refine wpAnyH_take (i := 11) (oi := ⟨some 86, _, _, _, _, _⟩) (v := ?_) rfl (by kernel_rfl) (by kernel_rfl) (by kernel_rfl) (fun _ _ _ h => h) (Or.inl ⟨by kernel_rfl, ?hy11⟩) (by assumption) ?_
          case hy11 => (intro w' hSw; (try dsimp only at hSw); go_simp; try with_reducible rfl)
          simp only [Act.put, List.setIfInBounds_toArray, List.set_cons_zero, List.set_cons_succ]
          refine wpAnyH_take (i := 12) (oi := ⟨some 87, _, _, _, _, _⟩) (v := ?_) rfl (by kernel_rfl) (by kernel_rfl) (by kernel_rfl) (fun _ _ _ h => h) (Or.inl ⟨by kernel_rfl, ?hy12⟩) (by assumption) ?_
          case hy12 => (intro w' hSw; (try dsimp only at hSw); go_simp; try with_reducible rfl)
          simp only [Act.put, List.setIfInBounds_toArray, List.set_cons_zero, List.set_cons_succ]
          refine wpAnyH_take (i := 13) (oi := ⟨some 88, _, _, _, _, _⟩) (v := ?_) rfl (by kernel_rfl) (by kernel_rfl) (by kernel_rfl) (fun _ _ _ h => h) (Or.inl ⟨by kernel_rfl, ?hy13⟩) (by assumption) ?_
          case hy13 => (intro w' hSw; (try dsimp only at hSw); go_simp; try with_reducible rfl)
          simp only [Act.put, List.setIfInBounds_toArray, List.set_cons_zero, List.set_cons_succ]
          refine wpAnyH_take (i := 14) (oi := ⟨some 89, _, _, _, _, _⟩) (v := ?_) rfl (by kernel_rfl) (by kernel_rfl) (by kernel_rfl) (fun _ _ _ h => h) (Or.inl ⟨by kernel_rfl, ?hy14⟩) (by assumption) ?_
          case hy14 => (intro w' hSw; (try dsimp only at hSw); go_simp; try with_reducible rfl)
          simp only [Act.put, List.setIfInBounds_toArray, List.set_cons_zero, List.set_cons_succ]
          refine wpAnyH_take (i := 15) (oi := ⟨some 90, _, _, _, _, _⟩) (v := ?_) rfl (by kernel_rfl) (by kernel_rfl) (by kernel_rfl) (fun _ _ _ h => h) (Or.inl ⟨by kernel_rfl, ?hy15⟩) (by assumption) ?_
          case hy15 => (intro w' hSw; (try dsimp only at hSw); go_simp; try with_reducible rfl)
          simp only [Act.put, List.setIfInBounds_toArray, List.set_cons_zero, List.set_cons_succ]
          refine wpAnyH_take (i := 16) (oi := ⟨some 91, _, _, _, _, _⟩) (v := ?_) rfl (by kernel_rfl) (by kernel_rfl) (by kernel_rfl) (fun _ _ _ h => h) (Or.inl ⟨by kernel_rfl, ?hy16⟩) (by assumption) ?_
          case hy16 => (intro w' hSw; (try dsimp only at hSw); go_simp; try with_reducible rfl)
          simp only [Act.put, List.setIfInBounds_toArray, List.set_cons_zero, List.set_cons_succ]
          refine wpAnyH_take (i := 17) (oi := ⟨some 92, _, _, _, _, _⟩) (v := ?_) rfl (by kernel_rfl) (by kernel_rfl) (by kernel_rfl) (fun _ _ _ h => h) (Or.inl ⟨by kernel_rfl, ?hy17⟩) (by assumption) ?_
          case hy17 => (intro w' hSw; (try dsimp only at hSw); go_simp; try with_reducible rfl)
          simp only [Act.put, List.setIfInBounds_toArray, List.set_cons_zero, List.set_cons_succ]
          refine wpAnyH_take (i := 18) (oi := ⟨some 93, _, _, _, _, _⟩) (v := ?_) rfl (by kernel_rfl) (by kernel_rfl) (by kernel_rfl) (fun _ _ _ h => h) (Or.inl ⟨by kernel_rfl, ?hy18⟩) (by assumption) ?_
          case hy18 => (intro w' hSw; (try dsimp only at hSw); go_simp; try with_reducible rfl)
          simp only [Act.put, List.setIfInBounds_toArray, List.set_cons_zero, List.set_cons_succ]
          refine wpAnyH_take (i := 19) (oi := ⟨some 94, _, _, _, _, _⟩) (v := ?_) rfl (by kernel_rfl) (by kernel_rfl) (by kernel_rfl) (fun _ _ _ h => h) (Or.inl ⟨by kernel_rfl, ?hy19⟩) (by assumption) ?_
          case hy19 => (intro w' hSw; (try dsimp only at hSw); go_simp; try with_reducible rfl)
          simp only [Act.put, List.setIfInBounds_toArray, List.set_cons_zero, List.set_cons_succ]
          refine wpAnyH_take (i := 20) (oi := ⟨some 95, _, _, _, _, _⟩) (v := ?_) rfl (by kernel_rfl) (by kernel_rfl) (by kernel_rfl) (fun _ _ _ h => h) (Or.inl ⟨by kernel_rfl, ?hy20⟩) (by assumption) ?_
          case hy20 => (intro w' hSw; (try dsimp only at hSw); go_simp; try with_reducible rfl)
          simp only [Act.put, List.setIfInBounds_toArray, List.set_cons_zero, List.set_cons_succ]
          refine wpAnyH_take (i := 21) (oi := ⟨some 96, _, _, _, _, _⟩) (v := ?_) rfl (by kernel_rfl) (by kernel_rfl) (by kernel_rfl) (fun _ _ _ h => h) (Or.inl ⟨by kernel_rfl, ?hy21⟩) (by assumption) ?_
          case hy21 => (intro w' hSw; (try dsimp only at hSw); go_simp; try with_reducible rfl)
          simp only [Act.put, List.setIfInBounds_toArray, List.set_cons_zero, List.set_cons_succ]
          refine wpAnyH_take (i := 22) (oi := ⟨some 97, _, _, _, _, _⟩) (v := ?_) rfl (by kernel_rfl) (by kernel_rfl) (by kernel_rfl) (fun _ _ _ h => h) (Or.inl ⟨by kernel_rfl, ?hy22⟩) (by assumption) ?_
          case hy22 => (intro w' hSw; (try dsimp only at hSw); go_simp; try with_reducible rfl)
          simp only [Act.put, List.setIfInBounds_toArray, List.set_cons_zero, List.set_cons_succ]
          refine wpAnyH_take (i := 23) (oi := ⟨some 98, _, _, _, _, _⟩) (v := ?_) rfl (by kernel_rfl) (by kernel_rfl) (by kernel_rfl) (fun _ _ _ h => h) (Or.inl ⟨by kernel_rfl, ?hy23⟩) (by assumption) ?_
          case hy23 => (intro w' hSw; (try dsimp only at hSw); go_simp; try with_reducible rfl)
          simp only [Act.put, List.setIfInBounds_toArray, List.set_cons_zero, List.set_cons_succ]
          refine wpAnyH_take (i := 24) (oi := ⟨some 99, _, _, _, _, _⟩) (v := ?_) rfl (by kernel_rfl) (by kernel_rfl) (by kernel_rfl) (fun _ _ _ h => h) (Or.inl ⟨by kernel_rfl, ?hy24⟩) (by assumption) ?_
          case hy24 => (intro w' hSw; (try dsimp only at hSw); go_simp; try with_reducible rfl)
          simp only [Act.put, List.setIfInBounds_toArray, List.set_cons_zero, List.set_cons_succ]
          refine wpAnyH_take (i := 25) (oi := ⟨some 100, _, _, _, _, _⟩) (v := ?_) rfl (by kernel_rfl) (by kernel_rfl) (by kernel_rfl) (fun _ _ _ h => h) (Or.inl ⟨by kernel_rfl, ?hy25⟩) (by assumption) ?_
          case hy25 => (intro w' hSw; (try dsimp only at hSw); go_simp; try with_reducible rfl)
          simp only [Act.put, List.setIfInBounds_toArray, List.set_cons_zero, List.set_cons_succ]
          refine wpAnyH_ready (rs := [26]) (by kernel_rfl) (by simp) ?_
          refine AllReadyH.cons (o := ⟨some 101, _, _, _, _, _⟩) rfl (fun K hK => ?_) AllReadyH.nil
          (rw [if_pos (by kernel_rfl)])
          go_simp
          refine (HX9.out.rd (fun O F hl => buf_callsL w9 O F b l3 hl (spans_below HS1.out HX9.out.bel))).mono ?_
          rintro e w10 ⟨rfl, hx, hbel⟩
          rw [HK1.out]
          rw [show bs (([] : List UInt8), 0).1 = ({ data := #[] } : ByteArray) from rfl]
          have q10 := HSS.out w10 (HB9.out.trans (hbel.mono HB9.out.size))
          have HX10 := Lib.hid hx
          have fb := field_buf0 (.string ({ data := #[] } : ByteArray)) (.int .i64 (0 : Int))
          have tq : (rw_ == rw_) = true := beq_self_eq_true _
          have tq2 : (fw == fw) = true := beq_self_eq_true _
          clear hx hbel HX9
          refine hK.out _ _ q10 (fun hHeld => ?_)
          clear hK K
          refine wpAnyH_take (i := 27) (oi := ⟨some 102, _, _, _, _, _⟩) (v := ?_) rfl (by kernel_rfl) (by kernel_rfl) (by kernel_rfl) (fun _ _ _ h => h) (Or.inl ⟨by kernel_rfl, ?hy27⟩) (by assumption) ?_
          case hy27 => (intro w' hSw; (try dsimp only at hSw); go_simp; try with_reducible rfl)
          simp only [Act.put, List.setIfInBounds_toArray, List.set_cons_zero, List.set_cons_succ]
          refine wpAnyH_take (i := 28) (oi := ⟨some 103, _, _, _, _, _⟩) (v := ?_) rfl (by kernel_rfl) (by kernel_rfl) (by kernel_rfl) (fun _ _ _ h => h) (Or.inl ⟨by kernel_rfl, ?hy28⟩) (by assumption) ?_
          case hy28 => (intro w' hSw; (try dsimp only at hSw); go_simp; try with_reducible rfl)
          simp only [Act.put, List.setIfInBounds_toArray, List.set_cons_zero, List.set_cons_succ]
          refine wpAnyH_take (i := 29) (oi := ⟨some 104, _, _, _, _, _⟩) (v := ?_) rfl (by kernel_rfl) (by kernel_rfl) (by kernel_rfl) (fun _ _ _ h => h) (Or.inl ⟨by kernel_rfl, ?hy29⟩) (by assumption) ?_
          case hy29 => (intro w' hSw; (try dsimp only at hSw); go_simp; try with_reducible rfl)
          simp only [Act.put, List.setIfInBounds_toArray, List.set_cons_zero, List.set_cons_succ]
          refine wpAnyH_take (i := 30) (oi := ⟨some 4, _, _, _, _, _⟩) (v := ?_) rfl (by kernel_rfl) (by kernel_rfl) (by kernel_rfl) (fun _ _ _ h => h) (Or.inl ⟨by kernel_rfl, ?hy30⟩) (by assumption) ?_
          case hy30 => (intro w' hSw; (try dsimp only at hSw); go_simp; try with_reducible rfl)
          simp only [Act.put, List.setIfInBounds_toArray, List.set_cons_zero, List.set_cons_succ]
          refine wpAnyH_done (by kernel_rfl) ?_ _
          go_wp2_with fail
          go_ret
          exact ⟨rfl, HB1.out.trans (HX10.out.bel.mono HB1.out.size)⟩
end Go.Proofs.YtoaponaljkhlfaaDoor
