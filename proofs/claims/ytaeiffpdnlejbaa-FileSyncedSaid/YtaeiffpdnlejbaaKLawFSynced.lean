/-
  The walk of FileSynced (layer 10).
-/
import Derived.Test.YtaeiffpdnlejbaaPd26
import Derived.RegionTactic
import Derived.BigRegion
import Derived.Deep.RegionHeld3
namespace Go.Proofs.Ytaeiffpdnlejbaa
open Go Go.RowKit
set_option maxRecDepth 100000

set_option maxHeartbeats 8000000 in
theorem fsynced_law (A : Option Addr) (c : Nat) (xs : List OpG) (KA : Option Addr) (kc : Nat) (ks : List Bool) (w : World) (hR : RdO10 w A xs) (hKR : RowT boolC w (fun _ => True) KA ks) (hl : xs.length ≤ 9223372036854775807) (hkl : ks.length ≤ 9223372036854775807) :
    Calls Try.prog 4 #[.slice A xs.length c, .slice KA ks.length kc] w fun e w' => e = .returned (.bool true) ∧ Below w.heap.size w w' := by
  have Hfew := Lib.hid (few10_calls A c xs w hR hl)
  by_cases hf : (xs.length ≤ 80 ∧ totG xs ≤ 8000) ∧ ks.length ≤ 200
  · obtain ⟨hf, hk2⟩ := hf
    have hdt : decide (xs.length ≤ 80 ∧ totG xs ≤ 8000) = true := decide_eq_true hf
    rw [hdt] at Hfew
    have HO := Lib.hid hR
    have HKR := Lib.hid hKR
    have Hf := Lib.hid hf
    have HK2 := Lib.hid hk2
    have hkz : (ks.length : Int) ≤ 200 := by omega
    have d0 : decide (200 < (ks.length : Int)) = false := decide_eq_false (by omega)
    clear hdt hf hR hKR hkl
    go_enter Try.func4, Try.ntmps4
    go_wp2_with fail
    refine Hfew.out.mono ?_
    rintro e w1 ⟨rfl, hb1⟩
    have HB1 := Lib.hid hb1
    have HKR1 := Lib.hid (HKR.out.below hb1)
    clear hb1 Hfew
    go_wp2_with fail
    refine (fnew_calls w1).mono ?_
    rintro e w2 ⟨b, rfl, hin⟩
    have HN : Hid (∃ X Y, Syn w1 (w2.alloc (.map #[] 0)) X Y b FS.new w2.heap.size []) := Lib.hid ⟨_, _, Syn.new (FX.of_in hin) (fun k hk => hk)⟩
    clear hin d0 hkz
    have hmm := @run_makeMap Try.prog
    obtain ⟨m, hm⟩ : ∃ m, m = w2.heap.size := ⟨_, rfl⟩
    rw [← hm] at HN
    have Hm := Lib.hid hm
    clear hm
    go_wp2_with fail
    rw [← Hm.out]
    clear hmm
    go_loopw [30] (fun v30 wr => ∃ (k : Nat) (S : FS) (X Y : Nat → Prop) (ps : List (ByteArray × Sl)), k ≤ xs.length ∧ v30 = .int .i64 (k : Int) ∧ Hid (Syn w1 wr X Y b S m ps) ∧ Hid (S.At k) ∧ Hid (Svs S ps)) (fun v30 _ => xs.length - (intOf v30).toNat)
    case atStart =>
      obtain ⟨X, Y, h⟩ := HN.out
      exact ⟨0, FS.new, X, Y, [], Nat.zero_le _, rfl, Lib.hid h, Lib.hid FS.At.new, Lib.hid (fun p hp => by cases hp)⟩
    case round =>
      obtain ⟨k, S, X, Y, ps, hk, rfl, HS, HAt, HSv⟩ := hrel
      clear HN
      by_cases hlt : k < xs.length
      · have hbw : Below w.heap.size w wr := HB1.out.trans (HS.out.fx.bel.mono HB1.out.size)
        have hin : OpIn w1 (xs.getD k OpG.none_) := by
          obtain ⟨_, _, _, _, _, h⟩ := (HO.out.below HB1.out).at_ hlt
          exact h
        obtain ⟨g, o, rfl, hg, hcs, _⟩ := (HO.out.below hbw).at_ hlt
        have hsm : (xs.getD k OpG.none_).len ≤ 8000 := Nat.le_trans (totG_at hlt) Hf.out.2
        have hk80 : k ≤ 80 := by have := Hf.out.1; omega
        have hkk : (k : Int) < (xs.length : Int) := by omega
        have hx80 : (xs.length : Int) ≤ 80 := by have := Hf.out.1; omega
        have c0 := hcs 0 _ rfl
        have c1 := hcs 1 _ rfl
        have c2' := hcs 2 _ rfl
        have c3 := hcs 3 _ rfl
        have c4 := hcs 4 _ rfl
        have c5 := hcs 5 _ rfl
        rw [Nat.add_zero] at c0
        have HI := Lib.hid hin
        have HSm := Lib.hid hsm
        have Hk80 := Lib.hid hk80
        have HLm : Hid (m < wr.heap.size) := Lib.hid HS.out.map.lt
        clear hcs hin hbw hsm hk80
        generalize xs.getD k OpG.none_ = e at *
        have hA1 := HS.out.below ((Below.refl _ wr).alloc (Nat.le_refl _) (.cells (opgC e).toArray 34))
        have hob := BxA.new wr 34 (opgC e)
        have hobX : XN X wr (wr.alloc (.cells (opgC e).toArray 34)) wr.heap.size := XN.new (by simp)
        generalize XN X wr (wr.alloc (.cells (opgC e).toArray 34)) = X5 at hA1 hobX
        generalize XN Y wr (wr.alloc (.cells (opgC e).toArray 34)) = Y5 at hA1
        have HA1 := Lib.hid hA1
        have HOb := Lib.hid hob
        have HObX := Lib.hid hobX
        clear hA1 hob hobX HS
        by_cases hkn : 0 ≤ e.o.k ∧ e.o.k ≤ 4
        · have t1 : decide (e.o.k < 0) = false := decide_eq_false (by omega)
          have t2 : decide (4 < e.o.k) = false := decide_eq_false (by omega)
          have Hkn := Lib.hid hkn
          obtain ⟨Sn, hSn⟩ : ∃ Sn, Sn = (doF S e.o).1 := ⟨_, rfl⟩
          obtain ⟨zn, hzn⟩ : ∃ zn, zn = (doF S e.o).2 := ⟨_, rfl⟩
          have HDs := Lib.hid (HA1.out.fx.stepE (E := fun e2 b2 => e2 = .returned (.tuple #[fp b, .int .i64 zn]) ∧ b2 = b) (S2 := Sn) (f := 16) (args := #[fp b, .agg (opgC e).toArray]) (fun O D k1 k2 k3 => by
            have hq := fdoes_calls _ O D b S k k1 HAt.out (by have := Hk80.out; omega) e (HI.out.below HA1.out.fx.bel) (by have := HSm.out; unfold OpG.len at this; omega) (HI.out.far HA1.out.fx.bel k3) Hkn.out.1 (by have := Hkn.out.2; omega)
            rw [← hSn, ← hzn] at hq
            refine hq.mono ?_
            rintro e2 w' ⟨b2, hb2, h1, h2⟩
            obtain rfl := hb2 Hkn.out.2
            exact ⟨b2, ⟨h1, rfl⟩, h2⟩))
          have HAt2 : Hid (Sn.At (k + 1)) := Lib.hid (by rw [hSn]; exact HAt.out.does e.o HI.out.i2)
          have HFt : Hid Sn.Fit := Lib.hid (HAt2.out.fit (by have := Hk80.out; omega))
          have HSn := Lib.hid hSn
          have Hzn := Lib.hid hzn
          have z0 := HOb.out.c 0 rfl
          have z1 := HOb.out.c 1 rfl
          have z2 := HOb.out.c 2 rfl
          have z3 := HOb.out.c 3 rfl
          have z4 := HOb.out.c 4 rfl
          have z5 := HOb.out.c 5 rfl
          clear hkn hSn hzn
          unfold opgC at HDs HOb HA1 z0 z1 z2 z3 z4 z5
          go_wp2_with fail
          refine HDs.out.mono ?_
          rintro e5 w5 ⟨b5, ⟨rfl, hb5⟩, hf5, ho5⟩
          rw [hb5] at hf5
          have HS5 := Lib.hid (HA1.out.keep hf5 ho5)
          have HO5 := Lib.hid (HOb.out.keep ho5 (fun h => h HObX.out))
          clear hb5 hf5 ho5 HDs HA1 HOb z0 z1 z2 z3 z4 z5 t1 t2 c0 c1 c2' c3 c4 c5
          by_cases hz : zn = 0
          · subst hz
            have z0 := HO5.out.c 0 rfl
            have z1 := HO5.out.c 1 rfl
            have z2 := HO5.out.c 2 rfl
            have HOk := Lib.hid HAt.out.ok
            rcases (by have := Hkn.out; omega : e.o.k = 0 ∨ e.o.k = 1 ∨ e.o.k = 2 ∨ e.o.k = 3 ∨ e.o.k = 4) with h | h | h | h | h
            · have HSv2 : Hid (Svs Sn ps) := Lib.hid (by rw [HSn.out]; exact HSv.out.does HOk.out e.o Hkn.out.1 Hkn.out.2 (.inr (by omega)))
              rw [h] at z0
              clear h
              go_wp2_with fail
              go_roundw
              case rel => exact ⟨k + 1, Sn, X5, Y5, ps, by omega, by go_num, HS5, HAt2, HSv2⟩
              case measure => simp [intOf]; omega
            · have h1 : doF S e.o = S.sync e.o.n := by unfold doF; simp [h]
              have HSv2 : Hid (Svs Sn ps) := Lib.hid (by rw [HSn.out]; exact HSv.out.does HOk.out e.o Hkn.out.1 Hkn.out.2 (.inr (by omega)))
              have hsy := Surv.synced HOk.out e.o.n (by rw [← h1]; exact Hzn.out.symm)
              rw [← h1, ← HSn.out] at hsy
              obtain ⟨sl, hsl, hsv⟩ := hsy
              have HSV := Lib.hid hsv
              have HRd : Hid (Calls Try.prog 18 #[fp b, .string e.o.n] w5.drew fun e w' => ∃ u, e = .returned (.tuple #[u, .int .i64 0]) ∧ w'.ownsRow w5.drew.heap.size 5 1 u sl.length (Lib.byteCells sl) ∧ Below w5.drew.heap.size w5.drew w') := Lib.hid (by
                obtain ⟨O, D, h2⟩ := HS5.out.fx.at_
                have := fread_calls w5.drew O D b Sn (objFile.below h2 (Below.refl _ w5).drew) HFt.out e.o.n
                rw [hsl] at this
                exact this)
              rw [h] at z0
              clear h h1 hsl hsv
              go_upto_region 15 with fail
              refine wp_region_held_drew (S := (fun w' => w'.cell? ⟨wr.heap.size, 1, none⟩ = some (.string e.o.n))) (by kernel_rfl) z1 (fun hHeld => ?_)
              refine wpAnyH_take (i := 0) (oi := ⟨some 55, _, _, _, _, _⟩) (v := ?_) rfl (by kernel_rfl) (by kernel_rfl) (by kernel_rfl) (fun _ _ _ h => h) (Or.inl ⟨by kernel_rfl, ?hy0⟩) (by assumption) ?_
              case hy0 => (intro w' hSw; (try dsimp only at hSw); go_simp; try with_reducible rfl)
              simp only [Act.put, List.setIfInBounds_toArray, List.set_cons_zero, List.set_cons_succ]
              refine wpAnyH_take (i := 1) (oi := ⟨some 56, _, _, _, _, _⟩) (v := ?_) rfl (by kernel_rfl) (by kernel_rfl) (by kernel_rfl) (fun _ _ _ h => h) (Or.inl ⟨by kernel_rfl, ?hy1⟩) (by assumption) ?_
              case hy1 => (intro w' hSw; (try dsimp only at hSw); go_simp; try with_reducible rfl)
              simp only [Act.put, List.setIfInBounds_toArray, List.set_cons_zero, List.set_cons_succ]
              refine wpAnyH_take (i := 2) (oi := ⟨some 57, _, _, _, _, _⟩) (v := ?_) rfl (by kernel_rfl) (by kernel_rfl) (by kernel_rfl) (fun _ _ _ h => h) (Or.inl ⟨by kernel_rfl, ?hy2⟩) (by assumption) ?_
              case hy2 => (intro w' hSw; (try dsimp only at hSw); go_simp; try with_reducible rfl)
              simp only [Act.put, List.setIfInBounds_toArray, List.set_cons_zero, List.set_cons_succ]
              refine wpAnyH_take (i := 3) (oi := ⟨some 58, _, _, _, _, _⟩) (v := ?_) rfl (by kernel_rfl) (by kernel_rfl) (by kernel_rfl) (fun _ _ _ h => h) (Or.inl ⟨by kernel_rfl, ?hy3⟩) (by assumption) ?_
              case hy3 => (intro w' hSw; (try dsimp only at hSw); go_simp; try with_reducible rfl)
              simp only [Act.put, List.setIfInBounds_toArray, List.set_cons_zero, List.set_cons_succ]
              refine wpAnyH_take (i := 4) (oi := ⟨some 59, _, _, _, _, _⟩) (v := ?_) rfl (by kernel_rfl) (by kernel_rfl) (by kernel_rfl) (fun _ _ _ h => h) (Or.inl ⟨by kernel_rfl, ?hy4⟩) (by assumption) ?_
              case hy4 => (intro w' hSw; (try dsimp only at hSw); go_simp; try with_reducible rfl)
              simp only [Act.put, List.setIfInBounds_toArray, List.set_cons_zero, List.set_cons_succ]
              refine wpAnyH_take (i := 5) (oi := ⟨some 60, _, _, _, _, _⟩) (v := ?_) rfl (by kernel_rfl) (by kernel_rfl) (by kernel_rfl) (fun _ _ _ h => h) (Or.inl ⟨by kernel_rfl, ?hy5⟩) (by assumption) ?_
              case hy5 => (intro w' hSw; (try dsimp only at hSw); go_simp; try with_reducible rfl)
              simp only [Act.put, List.setIfInBounds_toArray, List.set_cons_zero, List.set_cons_succ]
              refine wpAnyH_ready (rs := [6]) (by kernel_rfl) (by simp) ?_
              refine AllReadyH.cons (o := ⟨some 61, _, _, _, _, _⟩) rfl (fun K hK => ?_) AllReadyH.nil
              (rw [if_pos (by kernel_rfl)])
              go_simp
              refine HRd.out.mono ?_; rintro e9 y1 ⟨u1, rfl, hown1, hb1⟩; obtain ⟨A1, n1, rfl⟩ := own_form hown1; have hby := (Below.refl _ w5).drew.trans hb1; have HSy := Lib.hid (HS5.out.below hby); have HBx1 := Lib.hid (HO5.out.below hby); have HRow : Hid (ByR y1 (fun k => XN X5 w5 y1 k ∧ k ≠ m) A1 sl) := Lib.hid (byR_of_own (l := sl) hown1 (fun g hg => ⟨.inr (hown1.lt g hg), fun e => by have := (hown1.lt g hg).1; have := HS5.out.map.lt; have : w5.drew.heap.size = w5.heap.size := rfl; omega⟩)); obtain ⟨y2, r2, hs2, ho2⟩ := HSy.out.put_run e.o.n A1 sl n1 HRow.out; have HS2 := Lib.hid hs2; have k1 := HBx1.out.c 1 rfl; have k2 := (HBx1.out.keep ho2 (fun e : wr.heap.size = m => by have := HLm.out; omega)).c 1 rfl; clear hown1 hby hb1 hs2 ho2
              refine hK.out _ _ k1 (fun hHeld => ?_)
              clear hK K
              refine wpAnyH_take (i := 7) (oi := ⟨some 54, _, _, _, _, _⟩) (v := ?_) rfl (by kernel_rfl) (by kernel_rfl) (by kernel_rfl) (fun _ _ _ h => h) (Or.inl ⟨by kernel_rfl, ?hy7⟩) (by assumption) ?_
              case hy7 => (intro w' hSw; (try dsimp only at hSw); go_simp; try with_reducible rfl)
              simp only [Act.put, List.setIfInBounds_toArray, List.set_cons_zero, List.set_cons_succ]
              refine wpAnyH_take (i := 8) (oi := ⟨some 62, _, _, _, _, _⟩) (v := ?_) rfl (by kernel_rfl) (by kernel_rfl) (by kernel_rfl) (fun _ _ _ h => h) (Or.inl ⟨by kernel_rfl, ?hy8⟩) (by assumption) ?_
              case hy8 => (intro w' hSw; (try dsimp only at hSw); go_simp; try with_reducible rfl)
              simp only [Act.put, List.setIfInBounds_toArray, List.set_cons_zero, List.set_cons_succ]
              refine wpAnyH_take (i := 9) (oi := ⟨some 63, _, _, _, _, _⟩) (v := ?_) rfl (by kernel_rfl) (by kernel_rfl) (by kernel_rfl) (fun _ _ _ h => h) (Or.inl ⟨by kernel_rfl, ?hy9⟩) (by assumption) ?_
              case hy9 => (intro w' hSw; (try dsimp only at hSw); go_simp; try with_reducible rfl)
              simp only [Act.put, List.setIfInBounds_toArray, List.set_cons_zero, List.set_cons_succ]
              refine wpAnyH_ready (rs := [10]) (by kernel_rfl) (by simp) ?_
              refine AllReadyH.cons (o := ⟨none, _, _, _, _, _⟩) rfl (fun K hK => ?_) AllReadyH.nil
              (rw [if_pos (by kernel_rfl)])
              go_simp
              refine hK.out _ _ k2 (fun hHeld => ?_)
              clear hK K
              refine wpAnyH_done (by kernel_rfl) ?_ _
              have HSv3 : Hid (Svs Sn (putP ps e.o.n ⟨A1, sl, n1⟩)) := Lib.hid (HSv2.out.put HS5.out.nd HSV.out)
              clear k1 k2 r2 z0 z1 z2 HRd HBx1 HRow HSy
              go_wp2_with fail
              go_roundw
              case rel => exact ⟨k + 1, Sn, _, _, _, by omega, by go_num, HS2, HAt2, HSv3⟩
              case measure => simp [intOf]; omega
            · have HSv2 : Hid (Svs Sn (delP (delP ps e.o.n) e.o.t)) := Lib.hid (by rw [HSn.out]; exact HSv.out.del2 HOk.out HS5.out.nd e.o Hkn.out.1 Hkn.out.2)
              rw [h] at z0
              obtain ⟨y1, r1, hs1, ho1⟩ := HS5.out.del_run e.o.n 0
              obtain ⟨y2, r2, hs2, ho2⟩ := hs1.del_run e.o.t 0
              have hx1 := HO5.out.keep ho1 (fun e : wr.heap.size = m => by have := HLm.out; omega)
              have HS6 := Lib.hid hs2
              have q0 := hx1.c 0 rfl
              have q2 := hx1.c 2 rfl
              rw [h] at q0
              clear h hs1 ho1 hs2 ho2 hx1
              go_wp2_with fail
              go_roundw
              case rel => exact ⟨k + 1, Sn, X5, Y5, _, by omega, by go_num, HS6, HAt2, HSv2⟩
              case measure => simp [intOf]; omega
            all_goals
              have HSv2 : Hid (Svs Sn (delP ps e.o.n)) := Lib.hid (by rw [HSn.out]; exact HSv.out.del HOk.out HS5.out.nd e.o Hkn.out.1 Hkn.out.2 (by omega))
              rw [h] at z0
              obtain ⟨y1, r1, hs1, ho1⟩ := HS5.out.del_run e.o.n 0
              have hx1 := HO5.out.keep ho1 (fun e : wr.heap.size = m => by have := HLm.out; omega)
              have HS6 := Lib.hid hs1
              have q0 := hx1.c 0 rfl
              rw [h] at q0
              clear h hs1 ho1 hx1
              go_wp2_with fail
              go_roundw
              case rel => exact ⟨k + 1, Sn, X5, Y5, _, by omega, by go_num, HS6, HAt2, HSv2⟩
              case measure => simp [intOf]; omega
          · have t3 : (zn != 0) = true := by simpa using hz
            have HSv2 : Hid (Svs Sn ps) := Lib.hid (by rw [HSn.out]; exact HSv.out.does HAt.out.ok e.o Hkn.out.1 Hkn.out.2 (.inl (by rw [← Hzn.out]; exact hz)))
            clear hz
            go_wp2_with fail
            go_roundw
            case rel => exact ⟨k + 1, Sn, X5, Y5, ps, by omega, by go_num, HS5, HAt2, HSv2⟩
            case measure => simp [intOf]; omega
        · have z0 := HOb.out.c 0 rfl
          have z1 := HOb.out.c 1 rfl
          unfold opgC at HOb HA1 z0 z1
          have HAt2 := Lib.hid (HAt.out.mono (m := k + 1) (by omega))
          by_cases h0 : e.o.k < 0
          · have t1 : decide (e.o.k < 0) = true := decide_eq_true h0
            clear hkn h0
            go_wp2_with fail
            go_roundw
            case rel => exact ⟨k + 1, S, X5, Y5, ps, by omega, by go_num, HA1, HAt2, HSv⟩
            case measure => simp [intOf]; omega
          · have t1 : decide (e.o.k < 0) = false := decide_eq_false h0
            have t2 : decide (4 < e.o.k) = true := decide_eq_true (by omega)
            clear hkn h0
            go_wp2_with fail
            go_roundw
            case rel => exact ⟨k + 1, S, X5, Y5, ps, by omega, by go_num, HA1, HAt2, HSv⟩
            case measure => simp [intOf]; omega
      · obtain rfl : k = xs.length := by omega
        have HFt : Hid S.Fit := Lib.hid (HAt.out.fit (by have := Hf.out.1; omega))
        have HFt2 : Hid (S.crash ks).Fit := Lib.hid ((HAt.out.crash ks).fit (by have := Hf.out.1; omega))
        have HCr := Lib.hid (HS.out.fx.step (S2 := S.crash ks) (E := fun e => e = .returned (.tuple #[])) fun O D q1 q2 =>
          fcrash_calls wr O D b S q1 HFt.out KA kc ks ((rowT_of_old HKR1.out HS.out.fx.bel HS.out.old).mono fun i hi => (q2 i hi).2) (by have := HK2.out; omega))
        clear HO Hf hlt hk
        go_wp2_with fail
        refine HCr.out.mono ?_
        rintro e w5 ⟨rfl, hf5, ho5⟩
        have HS5 := Lib.hid (HS.out.keep hf5 ho5)
        have hma := HS5.out.map
        clear hf5 ho5 HCr
        go_wp2_with (first
          | (at_range; refine wpList_rangeP _ rfl _ 44 rfl 9 31 Try.underlying44 m ps rfl hma ?_; intro w0 hrg0 hb0 hs0)
          | fail)
        clear hma
        go_frame
        go_loopw [11, 12] (fun _ _ wr => ∃ todo : List (ByteArray × Sl), RangeAt slV wr m w5.heap.size ps todo ∧ Hid (∀ p ∈ todo, p ∈ ps) ∧ Hid (Below w5.heap.size w5 wr)) (fun _ _ wr => wr.rangeLeft m w5.heap.size)
        case atStart => exact ⟨ps, hrg0, Lib.hid (fun _ h => h), Lib.hid hb0⟩
        case round =>
          obtain ⟨todo, hrg, hsub, hbl⟩ := hrel
          clear hrg0 hb0 hs0
          go_wp2_with (first
            | (at_next; refine wpList_nextP _ rfl _ rfl m w5.heap.size ps todo rfl hrg ?_ ?_)
            | fail)
          · intro _
            clear hrg hsub
            go_wp2_with fail
            refine (falive_calls _).mono ?_
            rintro e w9 ⟨rfl, hb9⟩
            have HR : Hid (Below w.heap.size w w9) := Lib.hid ((HB1.out.trans (HS5.out.fx.bel.mono HB1.out.size)).trans ((hbl.out.trans (hb9.mono hbl.out.size)).mono (Nat.le_trans HB1.out.size HS5.out.fx.bel.size)))
            clear hb9 hbl
            go_wp2_with fail
            go_ret
            exact ⟨rfl, HR.out⟩
          · intro l x y d w9 htd hrg9 ho9 hs9 hen
            subst htd
            obtain ⟨cl, hcl, hpre⟩ := (HSv.out (x, y) (hsub.out (x, y) (by simp))).crash HFt.out.ok ks
            have HPre := Lib.hid hpre
            have HB9 : Hid (Below w5.heap.size w5 w9) := Lib.hid (hbl.out.trans (ho9.below hbl.out.size (fun i (e : i = w5.heap.size) => by omega)))
            have HRow := Lib.hid ((HS5.out.rows (x, y) (hsub.out (x, y) (by simp))).byt.below HB9.out)
            have HRd : Hid (Calls Try.prog 18 #[fp b, .string x] w9 fun e w' => ∃ u, e = .returned (.tuple #[u, .int .i64 0]) ∧ w'.ownsRow w9.heap.size 5 1 u cl.length (Lib.byteCells cl) ∧ Below w9.heap.size w9 w') := Lib.hid (by
              obtain ⟨O, D, h2⟩ := HS5.out.fx.at_
              have := fread_calls w9 O D b _ (objFile.below h2 HB9.out) HFt2.out x
              rw [show (S.crash ks).read x = (cl, 0) from hcl] at this
              exact this)
            have HRG := Lib.hid hrg9
            have HSub : Hid (∀ p ∈ l ++ d, p ∈ ps) := Lib.hid (fun p hp => hsub.out p (by rcases List.mem_append.1 hp with h | h <;> simp [h]))
            have Hml : Hid ((l ++ d).length < wr.rangeLeft m w5.heap.size) := Lib.hid (by rw [hrg.left]; simp)
            unfold slV at hen ⊢
            clear hcl hpre hrg hrg9 ho9 hs9 hsub hbl
            go_wp2_with fail
            refine HRd.out.mono ?_
            rintro e w10 ⟨u10, rfl, hown10, hb10⟩
            obtain ⟨A10, n10, rfl⟩ := own_form hown10
            obtain ⟨hbb, _, hcap, _⟩ := byt_of_own hown10
            have HPr := Lib.hid (bpre_calls A10 y.A n10 y.c cl y.l w10 hbb (HRow.out.below hb10) hcap HPre.out)
            have HB10 : Hid (Below w5.heap.size w5 w10) := Lib.hid (HB9.out.trans (hb10.mono HB9.out.size))
            have HRG10 := Lib.hid (HRG.out.below hb10)
            clear hown10 hbb hcap hb10 HRd HRG HRow HPre hen
            go_wp2_with fail
            refine HPr.out.mono ?_
            rintro e w11 ⟨rfl, hb11⟩
            have HRG11 := Lib.hid (HRG10.out.below hb11)
            have HB11 : Hid (Below w5.heap.size w5 w11) := Lib.hid (HB10.out.trans (hb11.mono HB10.out.size))
            have Hml2 : Hid (w11.rangeLeft m w5.heap.size < wr.rangeLeft m w5.heap.size) := Lib.hid (by rw [HRG11.out.left]; exact Hml.out)
            clear hb11 HRG10 HB10 HPr Hml
            go_wp2_with fail
            go_roundw
            case rel => exact ⟨_, HRG11.out, HSub, HB11⟩
            case measure => exact Hml2.out
  · by_cases hf2 : xs.length ≤ 80 ∧ totG xs ≤ 8000
    · have hdt : decide (xs.length ≤ 80 ∧ totG xs ≤ 8000) = true := decide_eq_true hf2
      have d0 : decide (200 < (ks.length : Int)) = true := decide_eq_true (by omega)
      rw [hdt] at Hfew
      clear hdt hf hf2 hR hKR
      go_enter Try.func4, Try.ntmps4
      go_wp2_with fail
      refine Hfew.out.mono ?_
      rintro e w1 ⟨rfl, hb1⟩
      have HB1 := Lib.hid hb1
      clear hb1 Hfew
      go_wp2_with fail
      refine (falive_calls w1).mono ?_
      rintro e w2 ⟨rfl, hb2⟩
      have HB2 := Lib.hid (HB1.out.trans (hb2.mono HB1.out.size))
      clear hb2
      go_wp2_with fail
      go_ret
      exact ⟨rfl, HB2.out⟩
    · have hdt : decide (xs.length ≤ 80 ∧ totG xs ≤ 8000) = false := decide_eq_false hf2
      rw [hdt] at Hfew
      clear hdt hf hf2 hR hKR
      go_enter Try.func4, Try.ntmps4
      go_wp2_with fail
      refine Hfew.out.mono ?_
      rintro e w1 ⟨rfl, hb1⟩
      have HB1 := Lib.hid hb1
      clear hb1 Hfew
      go_wp2_with fail
      refine (falive_calls w1).mono ?_
      rintro e w2 ⟨rfl, hb2⟩
      have HB2 := Lib.hid (HB1.out.trans (hb2.mono HB1.out.size))
      clear hb2
      go_wp2_with fail
      go_ret
      exact ⟨rfl, HB2.out⟩
end Go.Proofs.Ytaeiffpdnlejbaa
