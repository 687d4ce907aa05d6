/-
  The document's keys: what bytes from 1b on make.
  The document's keys: what bytes make.
-/
import Derived.Test.YtbkejjpkijjfaaaDoorKRefC
import Derived.Test.YtbkejjpkijjfaaaDoorRefWhole
import Derived.Test.YtbkejjpkijjfaaaDoorRefNext
namespace Go.Proofs.YtbkejjpkijjfaaaDoor
open Go Go.RowKit
set_option maxRecDepth 100000

theorem oneR_esc (b : List UInt8) (h0 : (b.getD 0 0).toNat = 27) (hp : b.take 6 ≠ pasteB) : oneR b = (((escL b).1, []), (escL b).2) := by
  unfold oneR oneL
  rw [if_neg hp, if_pos h0]
theorem paste_second (b : List UInt8) (h : b.take 6 = pasteB) : (b.getD 1 0).toNat = 91 := by
  have h2 : (b.take 6).getD 1 0 = b.getD 1 0 := by simp [List.getD_eq_getElem?_getD]
  rw [← h2, h]
  rfl
theorem rcsi_calls (A : Option Addr) (c : Nat) (b : List UInt8) (w : World) (hb : Byt w A b) (h2 : 2 ≤ b.length) (hs : b.length ≤ 1099511627776) (hlc : b.length ≤ c) (hm : c ≤ maxLen) (h0 : (b.getD 0 0).toNat = 27) (h1 : (b.getD 1 0).toNat = 91) :
    Calls Tryd.prog 50 #[.slice A b.length c] w fun e w' => e = .returned (oneV (oneR b)) ∧ Below w.heap.size w w' := by
  by_cases hp : b.take 6 = pasteB
  · exact rcsi_paste A c b w hb hs hlc hm hp
  · rw [oneR_esc b h0 hp, show escL b = csiL b by unfold escL; rw [if_neg (by omega), if_pos h1]]
    exact rcsi_np A c b w hb h2 hs hlc hm hp
set_option maxHeartbeats 16000000 in
theorem rescape_calls (A : Option Addr) (c : Nat) (b : List UInt8) (w : World) (hb : Byt w A b) (hne : 1 ≤ b.length) (hs : b.length ≤ 1099511627776) (hlc : b.length ≤ c) (hm : c ≤ maxLen) (h0 : (b.getD 0 0).toNat = 27) :
    Calls Tryd.prog 38 #[.slice A b.length c] w fun e w' => e = .returned (oneV (oneR b)) ∧ Below w.heap.size w w' := by
  have hb0 := Bx.new w 52 (.int .i64 0) (.string ⟨#[]⟩)
  have k0 : Below w.heap.size w (w.alloc (.cells #[.int .i64 0, .string ⟨#[]⟩] 52)) := (Below.refl _ w).alloc (Nat.le_refl _) _
  have B0 := Lib.hid hb0
  have K0 := Lib.hid k0
  by_cases hl1 : b.length = 1
  · have Hr : Hid (oneR b = ((0, []), 0)) := Lib.hid (by
      rw [oneR_esc b h0 (fun h => by have := congrArg List.length h; rw [List.length_take, show pasteB.length = 6 from rfl] at this; omega)]
      unfold escL
      rw [if_pos hl1])
    generalize oneR b = r at *
    rw [hl1]
    clear hb hl1 hlc hne hs h0 hb0 k0
    go_enter Tryd.func38, Tryd.ntmps38
    go_wp2
    refine bodyPost_ret (results_bx2 rfl _ _ w.heap.size (.int .i64 0) (.string ⟨#[]⟩) 52 rfl (by first | exact B0.out | exact (B0.out.set0 _).set1 _ | exact B0.out.set0 _ | exact Bx.new w _ _ _) Tryd.underlying52 (sizeRKey _)) rfl ?_
    exact ⟨by rw [Hr.out]; rfl, by first | exact K0.out | exact (K0.out.setCell (p := ⟨w.heap.size, 0, none⟩) (Nat.le_refl _) _).setCell (p := ⟨w.heap.size, 1, none⟩) (Nat.le_refl _) _ | exact K0.out.setCell (p := ⟨w.heap.size, 0, none⟩) (Nat.le_refl _) _ | exact (Below.refl _ w).alloc (Nat.le_refl _) _⟩
  have Hcs := Lib.hid (fun h1 => rcsi_calls A c b _ (hb.below k0) (by omega) hs hlc hm h0 h1)
  have Hes : Hid ((b.getD 1 0).toNat ≠ 91 → oneR b = (((escL b).1, []), (escL b).2)) := Lib.hid (fun h => oneR_esc b h0 (fun hp => h (paste_second b hp)))
  have Hel : Hid (escL b = if (b.getD 1 0).toNat = 91 then csiL b else if (b.getD 1 0).toNat = 79 then ss3L b else if (b.getD 1 0).toNat < 32 ∨ 127 < (b.getD 1 0).toNat then (27, 1) else (metaL (b.getD 1 0).toNat, 2)) := Lib.hid (by unfold escL; rw [if_neg hl1])
  have Hss : Hid (ss3L b = if b.length = 2 then (0, 0) else if lastB (b.getD 2 0).toNat = false then (0, 2) else (arrowL (b.getD 2 0).toNat, 3)) := Lib.hid rfl
  unfold maxLen at hm
  obtain ⟨g, o, rfl, hg, hc⟩ := hb.at_ (by omega)
  have HcB := Lib.hid hc
  have x1 := hc 1 (by omega)
  obtain ⟨g', o', e', hg', hc'⟩ := (hb.below k0).at_ (by omega)
  obtain ⟨rfl, rfl⟩ : g = g' ∧ o = o' := by injection e' with e'; injection e' with h1 h2; exact ⟨h1, h2⟩
  have HcB' := Lib.hid hc'
  have x1' := hc' 1 (by omega)
  have hln1 : ((b.length : Int) == 1) = false := beq_eq_false_iff_ne.2 (by omega)
  clear hb hc hc' e' h0 hb0 k0
  generalize escL b = es at *
  generalize oneR b = r at *
  have hxl := (b.getD 1 0).toNat_lt
  by_cases h91 : (b.getD 1 0).toNat = 91
  · have HC := Lib.hid (Hcs.out h91)
    rw [h91] at x1 x1'
    clear Hcs Hes Hel Hss HcB HcB' h91
    obtain ⟨⟨rk, rt⟩, rn⟩ := r
    generalize b.length = n at *
    go_enter Tryd.func38, Tryd.ntmps38
    go_wp2_with fail
    refine HC.out.mono ?_
    rintro e w1 ⟨rfl, hb1⟩
    have k1 := K0.out.trans (hb1.mono K0.out.size)
    have b1 := B0.out.below hb1
    have c0 := b1.c0
    have c1 := b1.c1
    have f0 := b1.f0
    have f1 := b1.f1
    have K1 := Lib.hid k1
    have B1 := Lib.hid b1
    clear hb1 k1 b1 HC x1 x1'
    simp only [oneV]
    go_wp2
    refine bodyPost_ret (results_bx2 rfl _ _ w.heap.size (.int .i64 (rk : Int)) (.string (bs rt)) 52 rfl ((B1.out.set0 _).set1 _) Tryd.underlying52 (sizeRKey _)) rfl ?_
    exact ⟨rfl, (K1.out.setCell (p := ⟨w.heap.size, 0, none⟩) (Nat.le_refl _) _).setCell (p := ⟨w.heap.size, 1, none⟩) (Nat.le_refl _) _⟩
  have hr := Hes.out h91
  have he := Hel.out
  rw [if_neg h91] at he
  clear Hcs Hes Hel
  by_cases h79 : (b.getD 1 0).toNat = 79
  · rw [if_pos h79, Hss.out] at he
    rw [h79] at x1 x1'
    clear h91 h79 Hss
    by_cases hl2 : b.length = 2
    · rw [if_pos hl2] at he
      have Hr : Hid (r = ((0, []), 0)) := Lib.hid (by rw [hr, he])
      have hln2 : ((b.length : Int) == 2) = true := beq_iff_eq.2 (by omega)
      clear hr he HcB HcB' hl2
      generalize b.length = n at *
      go_enter Tryd.func38, Tryd.ntmps38
      go_wp2
      refine bodyPost_ret (results_bx2 rfl _ _ w.heap.size (.int .i64 0) (.string ⟨#[]⟩) 52 rfl (by first | exact B0.out | exact (B0.out.set0 _).set1 _ | exact B0.out.set0 _ | exact Bx.new w _ _ _) Tryd.underlying52 (sizeRKey _)) rfl ?_
      exact ⟨by rw [Hr.out]; rfl, by first | exact K0.out | exact (K0.out.setCell (p := ⟨w.heap.size, 0, none⟩) (Nat.le_refl _) _).setCell (p := ⟨w.heap.size, 1, none⟩) (Nat.le_refl _) _ | exact K0.out.setCell (p := ⟨w.heap.size, 0, none⟩) (Nat.le_refl _) _ | exact (Below.refl _ w).alloc (Nat.le_refl _) _⟩
    · rw [if_neg hl2] at he
      have hln2 : ((b.length : Int) == 2) = false := beq_eq_false_iff_ne.2 (by omega)
      have y1 := HcB.out 2 (by omega)
      have y1' := HcB'.out 2 (by omega)
      have hyl := (b.getD 2 0).toNat_lt
      have hlen3 : (2 : Int) < (b.length : Int) := by omega
      cases hlb : lastB (b.getD 2 0).toNat with
      | false =>
        rw [if_pos hlb] at he
        have Hr : Hid (r = ((0, []), 2)) := Lib.hid (by rw [hr, he])
        have hnl2 : ¬ (64 ≤ (b.getD 2 0).toNat ∧ (b.getD 2 0).toNat ≤ 126) := of_decide_eq_false hlb
        clear hr he HcB HcB' hl2 hlb
        generalize (b.getD 2 0).toNat = y at *
        generalize b.length = n at *
        by_cases z1 : y < 64
        · have d3 : decide ((y : Int) < 64) = true := decide_eq_true (by omega)
          go_enter Tryd.func38, Tryd.ntmps38
          go_wp2
          refine bodyPost_ret (results_bx2 rfl _ _ w.heap.size (.int .i64 0) (.string ⟨#[]⟩) 52 rfl (by first | exact B0.out | exact (B0.out.set0 _).set1 _ | exact B0.out.set0 _ | exact Bx.new w _ _ _) Tryd.underlying52 (sizeRKey _)) rfl ?_
          exact ⟨by rw [Hr.out]; rfl, by first | exact K0.out | exact (K0.out.setCell (p := ⟨w.heap.size, 0, none⟩) (Nat.le_refl _) _).setCell (p := ⟨w.heap.size, 1, none⟩) (Nat.le_refl _) _ | exact K0.out.setCell (p := ⟨w.heap.size, 0, none⟩) (Nat.le_refl _) _ | exact (Below.refl _ w).alloc (Nat.le_refl _) _⟩
        · have d3 : decide ((y : Int) < 64) = false := decide_eq_false (by omega)
          have d4 : decide ((126 : Int) < (y : Int)) = true := decide_eq_true (by omega)
          go_enter Tryd.func38, Tryd.ntmps38
          go_wp2
          refine bodyPost_ret (results_bx2 rfl _ _ w.heap.size (.int .i64 0) (.string ⟨#[]⟩) 52 rfl (by first | exact B0.out | exact (B0.out.set0 _).set1 _ | exact B0.out.set0 _ | exact Bx.new w _ _ _) Tryd.underlying52 (sizeRKey _)) rfl ?_
          exact ⟨by rw [Hr.out]; rfl, by first | exact K0.out | exact (K0.out.setCell (p := ⟨w.heap.size, 0, none⟩) (Nat.le_refl _) _).setCell (p := ⟨w.heap.size, 1, none⟩) (Nat.le_refl _) _ | exact K0.out.setCell (p := ⟨w.heap.size, 0, none⟩) (Nat.le_refl _) _ | exact (Below.refl _ w).alloc (Nat.le_refl _) _⟩
      | true =>
        rw [if_neg (by rw [hlb]; simp)] at he
        have hla : 64 ≤ (b.getD 2 0).toNat ∧ (b.getD 2 0).toNat ≤ 126 := of_decide_eq_true hlb
        have Hr : Hid (r = ((arrowL (b.getD 2 0).toNat, []), 3)) := Lib.hid (by rw [hr, he])
        have HA := Lib.hid (fun W => rarrow_calls (b.getD 2 0).toNat W)
        clear hr he HcB HcB' hl2 hlb
        generalize arrowL (b.getD 2 0).toNat = ar at *
        generalize (b.getD 2 0).toNat = y at *
        generalize b.length = n at *
        have d3 : decide ((y : Int) < 64) = false := decide_eq_false (by omega)
        have d4 : decide ((126 : Int) < (y : Int)) = false := decide_eq_false (by omega)
        go_enter Tryd.func38, Tryd.ntmps38
        go_wp2_with fail
        refine (HA.out _).mono ?_
        rintro e w2 ⟨rfl, rfl⟩
        go_wp2
        refine bodyPost_ret (results_bx2 rfl _ _ w.heap.size (.int .i64 (ar : Int)) (.string ⟨#[]⟩) 52 rfl (by first | exact B0.out | exact (B0.out.set0 _).set1 _ | exact B0.out.set0 _ | exact Bx.new w _ _ _) Tryd.underlying52 (sizeRKey _)) rfl ?_
        exact ⟨by rw [Hr.out]; rfl, by first | exact K0.out | exact (K0.out.setCell (p := ⟨w.heap.size, 0, none⟩) (Nat.le_refl _) _).setCell (p := ⟨w.heap.size, 1, none⟩) (Nat.le_refl _) _ | exact K0.out.setCell (p := ⟨w.heap.size, 0, none⟩) (Nat.le_refl _) _ | exact (Below.refl _ w).alloc (Nat.le_refl _) _⟩
  rw [if_neg h79] at he
  clear Hss HcB HcB'
  generalize (b.getD 1 0).toNat = x at *
  generalize b.length = n at *
  have hln2 : (1 : Int) < (n : Int) := by omega
  have e91 : ((x : Int) == 91) = false := beq_eq_false_iff_ne.2 (by omega)
  have e79 : ((x : Int) == 79) = false := beq_eq_false_iff_ne.2 (by omega)
  by_cases h98 : x = 98
  · subst h98
    rw [if_neg (by omega), show metaL 98 = 9 by decide] at he
    have Hr : Hid (r = ((9, []), 2)) := Lib.hid (by rw [hr, he])
    clear hr he h91 h79 e91 e79
    go_enter Tryd.func38, Tryd.ntmps38
    go_wp2
    refine bodyPost_ret (results_bx2 rfl _ _ w.heap.size (.int .i64 9) (.string ⟨#[]⟩) 52 rfl (by first | exact B0.out | exact (B0.out.set0 _).set1 _ | exact B0.out.set0 _ | exact Bx.new w _ _ _) Tryd.underlying52 (sizeRKey _)) rfl ?_
    exact ⟨by rw [Hr.out]; rfl, by first | exact K0.out | exact (K0.out.setCell (p := ⟨w.heap.size, 0, none⟩) (Nat.le_refl _) _).setCell (p := ⟨w.heap.size, 1, none⟩) (Nat.le_refl _) _ | exact K0.out.setCell (p := ⟨w.heap.size, 0, none⟩) (Nat.le_refl _) _ | exact (Below.refl _ w).alloc (Nat.le_refl _) _⟩
  have e98 : ((x : Int) == 98) = false := beq_eq_false_iff_ne.2 (by omega)
  by_cases h102 : x = 102
  · subst h102
    rw [if_neg (by omega), show metaL 102 = 10 by decide] at he
    have Hr : Hid (r = ((10, []), 2)) := Lib.hid (by rw [hr, he])
    clear hr he h91 h79 e91 e79
    go_enter Tryd.func38, Tryd.ntmps38
    go_wp2
    refine bodyPost_ret (results_bx2 rfl _ _ w.heap.size (.int .i64 10) (.string ⟨#[]⟩) 52 rfl (by first | exact B0.out | exact (B0.out.set0 _).set1 _ | exact B0.out.set0 _ | exact Bx.new w _ _ _) Tryd.underlying52 (sizeRKey _)) rfl ?_
    exact ⟨by rw [Hr.out]; rfl, by first | exact K0.out | exact (K0.out.setCell (p := ⟨w.heap.size, 0, none⟩) (Nat.le_refl _) _).setCell (p := ⟨w.heap.size, 1, none⟩) (Nat.le_refl _) _ | exact K0.out.setCell (p := ⟨w.heap.size, 0, none⟩) (Nat.le_refl _) _ | exact (Below.refl _ w).alloc (Nat.le_refl _) _⟩
  have e102 : ((x : Int) == 102) = false := beq_eq_false_iff_ne.2 (by omega)
  by_cases h100 : x = 100
  · subst h100
    rw [if_neg (by omega), show metaL 100 = 14 by decide] at he
    have Hr : Hid (r = ((14, []), 2)) := Lib.hid (by rw [hr, he])
    clear hr he h91 h79 e91 e79
    go_enter Tryd.func38, Tryd.ntmps38
    go_wp2
    refine bodyPost_ret (results_bx2 rfl _ _ w.heap.size (.int .i64 14) (.string ⟨#[]⟩) 52 rfl (by first | exact B0.out | exact (B0.out.set0 _).set1 _ | exact B0.out.set0 _ | exact Bx.new w _ _ _) Tryd.underlying52 (sizeRKey _)) rfl ?_
    exact ⟨by rw [Hr.out]; rfl, by first | exact K0.out | exact (K0.out.setCell (p := ⟨w.heap.size, 0, none⟩) (Nat.le_refl _) _).setCell (p := ⟨w.heap.size, 1, none⟩) (Nat.le_refl _) _ | exact K0.out.setCell (p := ⟨w.heap.size, 0, none⟩) (Nat.le_refl _) _ | exact (Below.refl _ w).alloc (Nat.le_refl _) _⟩
  have e100 : ((x : Int) == 100) = false := beq_eq_false_iff_ne.2 (by omega)
  by_cases h121 : x = 121
  · subst h121
    rw [if_neg (by omega), show metaL 121 = 16 by decide] at he
    have Hr : Hid (r = ((16, []), 2)) := Lib.hid (by rw [hr, he])
    clear hr he h91 h79 e91 e79
    go_enter Tryd.func38, Tryd.ntmps38
    go_wp2
    refine bodyPost_ret (results_bx2 rfl _ _ w.heap.size (.int .i64 16) (.string ⟨#[]⟩) 52 rfl (by first | exact B0.out | exact (B0.out.set0 _).set1 _ | exact B0.out.set0 _ | exact Bx.new w _ _ _) Tryd.underlying52 (sizeRKey _)) rfl ?_
    exact ⟨by rw [Hr.out]; rfl, by first | exact K0.out | exact (K0.out.setCell (p := ⟨w.heap.size, 0, none⟩) (Nat.le_refl _) _).setCell (p := ⟨w.heap.size, 1, none⟩) (Nat.le_refl _) _ | exact K0.out.setCell (p := ⟨w.heap.size, 0, none⟩) (Nat.le_refl _) _ | exact (Below.refl _ w).alloc (Nat.le_refl _) _⟩
  have e121 : ((x : Int) == 121) = false := beq_eq_false_iff_ne.2 (by omega)
  by_cases h127 : x = 127
  · subst h127
    rw [if_neg (by omega), show metaL 127 = 13 by decide] at he
    have Hr : Hid (r = ((13, []), 2)) := Lib.hid (by rw [hr, he])
    clear hr he h91 h79 e91 e79
    go_enter Tryd.func38, Tryd.ntmps38
    go_wp2
    refine bodyPost_ret (results_bx2 rfl _ _ w.heap.size (.int .i64 13) (.string ⟨#[]⟩) 52 rfl (by first | exact B0.out | exact (B0.out.set0 _).set1 _ | exact B0.out.set0 _ | exact Bx.new w _ _ _) Tryd.underlying52 (sizeRKey _)) rfl ?_
    exact ⟨by rw [Hr.out]; rfl, by first | exact K0.out | exact (K0.out.setCell (p := ⟨w.heap.size, 0, none⟩) (Nat.le_refl _) _).setCell (p := ⟨w.heap.size, 1, none⟩) (Nat.le_refl _) _ | exact K0.out.setCell (p := ⟨w.heap.size, 0, none⟩) (Nat.le_refl _) _ | exact (Below.refl _ w).alloc (Nat.le_refl _) _⟩
  have e127 : ((x : Int) == 127) = false := beq_eq_false_iff_ne.2 (by omega)
  have hm0 : metaL x = 0 := by simp [metaL, h98, h102, h100, h121, h127]
  rw [hm0] at he
  by_cases h32 : x < 32
  · rw [if_pos (.inl h32)] at he
    have Hr : Hid (r = ((27, []), 1)) := Lib.hid (by rw [hr, he])
    have d1 : decide ((32 : Int) ≤ (x : Int)) = false := decide_eq_false (by omega)
    clear hr he hm0 h91 h79 h98 h102 h100 h121 h127
    go_enter Tryd.func38, Tryd.ntmps38
    go_wp2
    refine bodyPost_ret (results_bx2 rfl _ _ w.heap.size (.int .i64 27) (.string ⟨#[]⟩) 52 rfl (by first | exact B0.out | exact (B0.out.set0 _).set1 _ | exact B0.out.set0 _ | exact Bx.new w _ _ _) Tryd.underlying52 (sizeRKey _)) rfl ?_
    exact ⟨by rw [Hr.out]; rfl, by first | exact K0.out | exact (K0.out.setCell (p := ⟨w.heap.size, 0, none⟩) (Nat.le_refl _) _).setCell (p := ⟨w.heap.size, 1, none⟩) (Nat.le_refl _) _ | exact K0.out.setCell (p := ⟨w.heap.size, 0, none⟩) (Nat.le_refl _) _ | exact (Below.refl _ w).alloc (Nat.le_refl _) _⟩
  · have d1 : decide ((32 : Int) ≤ (x : Int)) = true := decide_eq_true (by omega)
    by_cases h128 : 127 < x
    · rw [if_pos (.inr h128)] at he
      have Hr : Hid (r = ((27, []), 1)) := Lib.hid (by rw [hr, he])
      have d2 : decide ((x : Int) < 127) = false := decide_eq_false (by omega)
      clear hr he hm0 h91 h79 h98 h102 h100 h121 h127
      go_enter Tryd.func38, Tryd.ntmps38
      go_wp2
      refine bodyPost_ret (results_bx2 rfl _ _ w.heap.size (.int .i64 27) (.string ⟨#[]⟩) 52 rfl (by first | exact B0.out | exact (B0.out.set0 _).set1 _ | exact B0.out.set0 _ | exact Bx.new w _ _ _) Tryd.underlying52 (sizeRKey _)) rfl ?_
      exact ⟨by rw [Hr.out]; rfl, by first | exact K0.out | exact (K0.out.setCell (p := ⟨w.heap.size, 0, none⟩) (Nat.le_refl _) _).setCell (p := ⟨w.heap.size, 1, none⟩) (Nat.le_refl _) _ | exact K0.out.setCell (p := ⟨w.heap.size, 0, none⟩) (Nat.le_refl _) _ | exact (Below.refl _ w).alloc (Nat.le_refl _) _⟩
    · rw [if_neg (by omega)] at he
      have Hr : Hid (r = ((0, []), 2)) := Lib.hid (by rw [hr, he])
      have d2 : decide ((x : Int) < 127) = true := decide_eq_true (by omega)
      clear hr he hm0 h91 h79 h98 h102 h100 h121 h127
      go_enter Tryd.func38, Tryd.ntmps38
      go_wp2
      refine bodyPost_ret (results_bx2 rfl _ _ w.heap.size (.int .i64 0) (.string ⟨#[]⟩) 52 rfl (by first | exact B0.out | exact (B0.out.set0 _).set1 _ | exact B0.out.set0 _ | exact Bx.new w _ _ _) Tryd.underlying52 (sizeRKey _)) rfl ?_
      exact ⟨by rw [Hr.out]; rfl, by first | exact K0.out | exact (K0.out.setCell (p := ⟨w.heap.size, 0, none⟩) (Nat.le_refl _) _).setCell (p := ⟨w.heap.size, 1, none⟩) (Nat.le_refl _) _ | exact K0.out.setCell (p := ⟨w.heap.size, 0, none⟩) (Nat.le_refl _) _ | exact (Below.refl _ w).alloc (Nat.le_refl _) _⟩

theorem paste_first (b : List UInt8) (h : b.take 6 = pasteB) : (b.getD 0 0).toNat = 27 := by
  have h2 : (b.take 6).getD 0 0 = b.getD 0 0 := by simp [List.getD_eq_getElem?_getD]
  rw [← h2, h]
  rfl
set_option maxHeartbeats 16000000 in
theorem rone_calls (A : Option Addr) (c : Nat) (b : List UInt8) (w : World) (hb : Byt w A b) (hne : 1 ≤ b.length) (hs : b.length ≤ 1099511627776) (hlc : b.length ≤ c) (hm : c ≤ maxLen) :
    Calls Tryd.prog 28 #[.slice A b.length c] w fun e w' => e = .returned (oneV (oneR b)) ∧ Below w.heap.size w w' := by
  have hb0 := Bx.new w 52 (.int .i64 0) (.string ⟨#[]⟩)
  have k0 : Below w.heap.size w (w.alloc (.cells #[.int .i64 0, .string ⟨#[]⟩] 52)) := (Below.refl _ w).alloc (Nat.le_refl _) _
  have B0 := Lib.hid hb0
  have K0 := Lib.hid k0
  have Hes := Lib.hid (fun h0 => rescape_calls A c b _ (hb.below k0) hne hs hlc hm h0)
  have HW := Lib.hid (rwhole_calls A c b _ (hb.below k0))
  have HN := Lib.hid (fun W (hW : Below w.heap.size w W) => rnext_calls A c b W (hb.below hW) (by omega))
  have hnx : nextL b = Lib.decodeL b := by
    have : b ≠ [] := List.length_pos_iff.1 (by omega)
    simp [nextL, this]
  have hv := decodeL_valid b
  have Hone : Hid ((b.getD 0 0).toNat ≠ 27 → oneR b = if (b.getD 0 0).toNat < 32 then ((ctlsL.getD (b.getD 0 0).toNat 0, []), 1) else if (b.getD 0 0).toNat = 127 then ((3, []), 1) else if wholeL b = true then (signK (Lib.decodeL b).1, (Lib.decodeL b).2) else ((0, []), 0)) := Lib.hid (fun h => by
    unfold oneR oneL
    rw [if_neg (fun hp => h (paste_first b hp)), if_neg h])
  obtain ⟨g, o, rfl, hg, hc⟩ := hb.at_ (by omega)
  have x1 := hc 0 (by omega)
  obtain ⟨g', o', e', hg', hc'⟩ := (hb.below k0).at_ (by omega)
  obtain ⟨rfl, rfl⟩ : g = g' ∧ o = o' := by injection e' with e'; injection e' with h1 h2; exact ⟨h1, h2⟩
  have x1' := hc' 0 (by omega)
  simp only [Nat.add_zero] at x1 x1'
  have hl0 : (0 : Int) < (b.length : Int) := by omega
  clear hb hc hc' e' hb0 k0
  generalize oneR b = r at *
  have hxl := (b.getD 0 0).toNat_lt
  by_cases h27 : (b.getD 0 0).toNat = 27
  · have HC := Lib.hid (Hes.out h27)
    rw [h27] at x1 x1'
    clear Hes HW HN hnx hv Hone h27
    obtain ⟨⟨rk, rt⟩, rn⟩ := r
    generalize b.length = n at *
    go_enter Tryd.func28, Tryd.ntmps28
    go_wp2_with fail
    refine HC.out.mono ?_
    rintro e w1 ⟨rfl, hb1⟩
    have k1 := K0.out.trans (hb1.mono K0.out.size)
    have b1 := B0.out.below hb1
    have c10 := b1.c0
    have c11 := b1.c1
    have f10 := b1.f0
    have f11 := b1.f1
    have K1 := Lib.hid k1
    have B1 := Lib.hid b1
    clear hb1 k1 b1
    clear HC x1 x1'
    simp only [oneV]
    go_wp2
    refine bodyPost_ret (results_bx2 rfl _ _ w.heap.size (.int .i64 (rk : Int)) (.string (bs rt)) 52 rfl (by first | exact B1.out | exact (B1.out.set0 _).set1 _ | exact B1.out.set0 _ | exact Bx.new w _ _ _) Tryd.underlying52 (sizeRKey _)) rfl ?_
    exact ⟨rfl, by first | exact K1.out | exact (K1.out.setCell (p := ⟨w.heap.size, 0, none⟩) (Nat.le_refl _) _).setCell (p := ⟨w.heap.size, 1, none⟩) (Nat.le_refl _) _ | exact K1.out.setCell (p := ⟨w.heap.size, 0, none⟩) (Nat.le_refl _) _ | exact (Below.refl _ w).alloc (Nat.le_refl _) _⟩
  have hr := Hone.out h27
  clear Hes Hone
  by_cases h32 : (b.getD 0 0).toNat < 32
  · rw [if_pos h32] at hr
    have Hr := Lib.hid hr
    have HL := Lib.hid (fun W => rlow_calls (b.getD 0 0).toNat h32 W)
    clear hr HW HN hnx hv
    generalize ctlsL.getD (b.getD 0 0).toNat 0 = kk at *
    generalize (b.getD 0 0).toNat = x at *
    generalize b.length = n at *
    have e27 : ((x : Int) == 27) = false := beq_eq_false_iff_ne.2 (by omega)
    have d32 : decide ((x : Int) < 32) = true := decide_eq_true (by omega)
    go_enter Tryd.func28, Tryd.ntmps28
    go_wp2_with fail
    refine (HL.out _).mono ?_
    rintro e w1 ⟨rfl, hb1⟩
    have k1 := K0.out.trans (hb1.mono K0.out.size)
    have b1 := B0.out.below hb1
    have c10 := b1.c0
    have c11 := b1.c1
    have f10 := b1.f0
    have f11 := b1.f1
    have K1 := Lib.hid k1
    have B1 := Lib.hid b1
    clear hb1 k1 b1
    clear HL x1 x1'
    go_wp2
    refine bodyPost_ret (results_bx2 rfl _ _ w.heap.size (.int .i64 (kk : Int)) (.string ⟨#[]⟩) 52 rfl (by first | exact B1.out | exact (B1.out.set0 _).set1 _ | exact B1.out.set0 _ | exact Bx.new w _ _ _) Tryd.underlying52 (sizeRKey _)) rfl ?_
    exact ⟨by rw [Hr.out]; rfl, by first | exact K1.out | exact (K1.out.setCell (p := ⟨w.heap.size, 0, none⟩) (Nat.le_refl _) _).setCell (p := ⟨w.heap.size, 1, none⟩) (Nat.le_refl _) _ | exact K1.out.setCell (p := ⟨w.heap.size, 0, none⟩) (Nat.le_refl _) _ | exact (Below.refl _ w).alloc (Nat.le_refl _) _⟩
  rw [if_neg h32] at hr
  by_cases h127 : (b.getD 0 0).toNat = 127
  · rw [if_pos h127] at hr
    have Hr := Lib.hid hr
    rw [h127] at x1 x1'
    clear hr HW HN hnx hv h27 h32 h127
    generalize b.length = n at *
    go_enter Tryd.func28, Tryd.ntmps28
    go_wp2
    refine bodyPost_ret (results_bx2 rfl _ _ w.heap.size (.int .i64 3) (.string ⟨#[]⟩) 52 rfl (by first | exact B0.out | exact (B0.out.set0 _).set1 _ | exact B0.out.set0 _ | exact Bx.new w _ _ _) Tryd.underlying52 (sizeRKey _)) rfl ?_
    exact ⟨by rw [Hr.out]; rfl, by first | exact K0.out | exact (K0.out.setCell (p := ⟨w.heap.size, 0, none⟩) (Nat.le_refl _) _).setCell (p := ⟨w.heap.size, 1, none⟩) (Nat.le_refl _) _ | exact K0.out.setCell (p := ⟨w.heap.size, 0, none⟩) (Nat.le_refl _) _ | exact (Below.refl _ w).alloc (Nat.le_refl _) _⟩
  rw [if_neg h127] at hr
  generalize (b.getD 0 0).toNat = x at *
  have e27 : ((x : Int) == 27) = false := beq_eq_false_iff_ne.2 (by omega)
  have d32 : decide ((x : Int) < 32) = false := decide_eq_false (by omega)
  have e127 : ((x : Int) == 127) = false := beq_eq_false_iff_ne.2 (by omega)
  cases hw : wholeL b with
  | false =>
    rw [hw] at HW hr
    have Hr : Hid (r = ((0, []), 0)) := Lib.hid (by rw [hr]; rfl)
    clear hr HN hnx hv hw
    generalize b.length = n at *
    go_enter Tryd.func28, Tryd.ntmps28
    go_wp2_with fail
    refine HW.out.mono ?_
    rintro e w1 ⟨rfl, hb1⟩
    have k1 := K0.out.trans (hb1.mono K0.out.size)
    have b1 := B0.out.below hb1
    have c10 := b1.c0
    have c11 := b1.c1
    have f10 := b1.f0
    have f11 := b1.f1
    have K1 := Lib.hid k1
    have B1 := Lib.hid b1
    clear hb1 k1 b1
    clear HW x1 x1'
    go_wp2
    refine bodyPost_ret (results_bx2 rfl _ _ w.heap.size (.int .i64 0) (.string ⟨#[]⟩) 52 rfl (by first | exact B1.out | exact (B1.out.set0 _).set1 _ | exact B1.out.set0 _ | exact Bx.new w _ _ _) Tryd.underlying52 (sizeRKey _)) rfl ?_
    exact ⟨by rw [Hr.out]; rfl, by first | exact K1.out | exact (K1.out.setCell (p := ⟨w.heap.size, 0, none⟩) (Nat.le_refl _) _).setCell (p := ⟨w.heap.size, 1, none⟩) (Nat.le_refl _) _ | exact K1.out.setCell (p := ⟨w.heap.size, 0, none⟩) (Nat.le_refl _) _ | exact (Below.refl _ w).alloc (Nat.le_refl _) _⟩
  | true =>
    rw [hw] at HW hr
    have Hr : Hid (r = (signK (Lib.decodeL b).1, (Lib.decodeL b).2)) := Lib.hid (by rw [hr]; rfl)
    have HN2 := Lib.hid (fun W hW => (HN.out W hW : Calls _ _ _ _ fun e w' => ToldNext W w' e b))
    simp only [ToldNext, hnx] at HN2
    have HS := Lib.hid (fun W => rsign_calls (Lib.decodeL b).1 hv W)
    clear hr HN hnx hv hw
    generalize signK (Lib.decodeL b).1 = sk at *
    obtain ⟨sk0, sk1⟩ := sk
    generalize Lib.decodeL b = dl at *
    obtain ⟨dr, dn⟩ := dl
    simp only at HN2 HS Hr
    generalize b.length = n at *
    go_enter Tryd.func28, Tryd.ntmps28
    go_wp2_with fail
    refine HW.out.mono ?_
    rintro e w1 ⟨rfl, hb1⟩
    have k1 := K0.out.trans (hb1.mono K0.out.size)
    have b1 := B0.out.below hb1
    have c10 := b1.c0
    have c11 := b1.c1
    have f10 := b1.f0
    have f11 := b1.f1
    have K1 := Lib.hid k1
    have B1 := Lib.hid b1
    clear hb1 k1 b1
    clear HW x1 x1' c10 c11 f10 f11
    go_wp2_with fail
    refine (HN2.out _ K1.out).mono ?_
    rintro e w2 ⟨rfl, hb2⟩
    have k2 := K1.out.trans (hb2.mono K1.out.size)
    have b2 := B1.out.below hb2
    have c20 := b2.c0
    have c21 := b2.c1
    have f20 := b2.f0
    have f21 := b2.f1
    have K2 := Lib.hid k2
    have B2 := Lib.hid b2
    clear hb2 k2 b2
    clear HN2 c20 c21 f20 f21
    go_wp2_with fail
    refine (HS.out _).mono ?_
    rintro e w3 ⟨rfl, hb3⟩
    have k3 := K2.out.trans (hb3.mono K2.out.size)
    have b3 := B2.out.below hb3
    have c30 := b3.c0
    have c31 := b3.c1
    have f30 := b3.f0
    have f31 := b3.f1
    have K3 := Lib.hid k3
    have B3 := Lib.hid b3
    clear hb3 k3 b3
    clear HS
    go_wp2
    refine bodyPost_ret (results_bx2 rfl _ _ w.heap.size (.int .i64 (sk0 : Int)) (.string (bs sk1)) 52 rfl (by first | exact B3.out | exact (B3.out.set0 _).set1 _ | exact B3.out.set0 _ | exact Bx.new w _ _ _) Tryd.underlying52 (sizeRKey _)) rfl ?_
    exact ⟨by rw [Hr.out]; rfl, by first | exact K3.out | exact (K3.out.setCell (p := ⟨w.heap.size, 0, none⟩) (Nat.le_refl _) _).setCell (p := ⟨w.heap.size, 1, none⟩) (Nat.le_refl _) _ | exact K3.out.setCell (p := ⟨w.heap.size, 0, none⟩) (Nat.le_refl _) _ | exact (Below.refl _ w).alloc (Nat.le_refl _) _⟩
end Go.Proofs.YtbkejjpkijjfaaaDoor
