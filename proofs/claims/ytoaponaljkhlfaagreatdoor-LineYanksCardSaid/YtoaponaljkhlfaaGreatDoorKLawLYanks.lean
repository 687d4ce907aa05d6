/-
  LineYanks (layer 7).
-/
import Derived.Test.YtoaponaljkhlfaaGreatDoorPz39
namespace Go.Proofs.YtoaponaljkhlfaaGreatDoor
open Go Go.RowKit
open Go.Lib (hid)
set_option maxRecDepth 100000
set_option maxHeartbeats 8000000 in
theorem lyanks_calls (A : Option Addr) (c : Nat) (os : List OpL) (kind : Int) (w : World) (hO : RdL w A os) (hl : os.length ≤ 9223372036854775807) (hsp : Spans w) :
  Calls Tryz.prog 4 #[.slice A os.length c, .int .i64 kind] w fun e w' => e = .returned (.bool true) ∧ Below w.heap.size w w' := by
 have Hfew := hid (few7_calls A c os w hO hl)
 have HO := hid hO
 have HS := hid hsp
 clear hO hsp
 by_cases hq : os.length ≤ 120 ∧ totL os ≤ 4000
 ·rw [decide_eq_true hq] at Hfew
  have HQ := hid hq
  clear hq
  by_cases k1 : kind < 11
  ·have d1 : decide (kind < 11) = true := decide_eq_true k1
   clear k1
   go_enter Tryz.func4, Tryz.ntmps4
   go_wp2_with fail
   refine Hfew.out.mono ?_
   rintro e w1 ⟨rfl, hb1⟩
   have HB1 := hid hb1
   have Hal := hid (lalive_calls w1 (spans_below HS.out hb1))
   clear hb1 Hfew
   go_wp2_with fail
   refine Hal.out.mono ?_
   rintro e w9 ⟨rfl, hb9⟩
   have HB9 := hid (HB1.out.trans (hb9.mono HB1.out.size))
   clear hb9 Hal
   go_wp2
   go_ret
   exact ⟨rfl, HB9.out⟩
  ·have d1 : ¬ kind < 11 := k1
   by_cases k2 : 14 < kind
   ·have d2 : decide (14 < kind) = true := decide_eq_true k2
    clear k1 k2
    go_enter Tryz.func4, Tryz.ntmps4
    go_wp2_with fail
    refine Hfew.out.mono ?_
    rintro e w1 ⟨rfl, hb1⟩
    have HB1 := hid hb1
    have Hal := hid (lalive_calls w1 (spans_below HS.out hb1))
    clear hb1 Hfew
    go_wp2_with fail
    refine Hal.out.mono ?_
    rintro e w9 ⟨rfl, hb9⟩
    have HB9 := hid (HB1.out.trans (hb9.mono HB1.out.size))
    clear hb9 Hal
    go_wp2
    go_ret
    exact ⟨rfl, HB9.out⟩
   ·have d2 : ¬ 14 < kind := k2
    have hkk : 11 ≤ kind ∧ kind ≤ 14 := by omega
    clear k1 k2
    go_enter Tryz.func4, Tryz.ntmps4
    go_wp2_with fail
    refine Hfew.out.mono ?_
    rintro e w1 ⟨rfl, hb1⟩
    have HB1 := hid hb1
    clear hb1 Hfew
    go_wp2_with fail
    refine (new_callsL w1 (spans_below HS.out HB1.out)).mono ?_
    rintro e w2 ⟨b0, rfl, h2⟩
    have h4 : LnD w w2 b0 LN.new dr0 ds0 0 0 := LnX.start (by
     obtain ⟨O, F, a1, a2, a3⟩ := h2
     exact ⟨O, F, a1, fun k hk => Nat.le_trans HB1.out.size (a2 k hk), HB1.out.trans (a3.mono HB1.out.size)⟩) (LN.new_sm 0)
    have H4 : Hid (LnX w (w2.alloc (.cells #[.string ⟨#[]⟩, .int .i64 0, .slice none 0 0, .slice none 0 0, .bool false, .slice none 0 0, .int .i64 0, .int .i64 0, .int .i64 0, .int .i64 0] 32)) (fun k => k = w2.heap.size) b0 LN.new dr0 ds0 (600 * 0) (600 * 0)) := hid (h4.new ((Below.refl _ w2).alloc (Nat.le_refl _) _) (fun k (hk : k = w2.heap.size) => ⟨by omega, by rw [World.size_alloc]; omega⟩))
    have HB4 : Hid (BxA (w2.alloc (.cells #[.string ⟨#[]⟩, .int .i64 0, .slice none 0 0, .slice none 0 0, .bool false, .slice none 0 0, .int .i64 0, .int .i64 0, .int .i64 0, .int .i64 0] 32)) w2.heap.size 32 (dsK dr0 ds0)) := hid (BxA.new w2 32 dsZ)
    clear h2 h4
    go_wp2_with fail
    go_loopw [5, 34] (fun v3 v23 wr => ∃ (k b : Nat) (s : LN) (r : DR) (d : DS), k ≤ os.length ∧ v23 = .int .i64 (k : Int) ∧ v3 = .pointer (some ⟨b, 0, none⟩) ∧ Hid (LnX w wr (fun k => k = w2.heap.size) b s r d (600 * k) (600 * k)) ∧ Hid (BxA wr w2.heap.size 32 (dsK r d))) (fun _ v23 _ => os.length - (intOf v23).toNat)
    case atStart => exact ⟨0, b0, LN.new, dr0, ds0, Nat.zero_le _, rfl, rfl, H4, HB4⟩
    case round =>
     obtain ⟨k, b, s, r, d, hk, rfl, rfl, hX, hB⟩ := hrel
     clear H4 HB4
     by_cases hlt : k < os.length
     ·obtain ⟨g, og, rfl, hg, e0, e1, e2, e3, _⟩ := (HO.out.below hX.out.bel).at_ hlt
      have Hkb : Hid (k ≤ 120 ∧ (os.getD k OpL.none_).t.size ≤ 100000) := hid ⟨by have := HQ.out.1; omega, by
       have h1 := totL_take os k hlt
       have h2 := totL_mono os (k + 1) os.length (by omega)
       rw [List.take_length] at h2
       have := HQ.out.2
       omega⟩
      have hx5 := hX.out.below ((Below.refl _ wr).alloc (Nat.le_refl _) (.cells #[.int .i64 (os.getD k OpL.none_).k, .int .i64 (os.getD k OpL.none_).q, .string (os.getD k OpL.none_).t, .int .i64 (os.getD k OpL.none_).g] 36))
      have hb5 := hB.out.alloc (.cells #[.int .i64 (os.getD k OpL.none_).k, .int .i64 (os.getD k OpL.none_).q, .string (os.getD k OpL.none_).t, .int .i64 (os.getD k OpL.none_).g] 36)
      have hn5 := BxA.new wr 36 [.int .i64 (os.getD k OpL.none_).k, .int .i64 (os.getD k OpL.none_).q, .string (os.getD k OpL.none_).t, .int .i64 (os.getD k OpL.none_).g]
      have m0 := hn5.c 0 rfl
      have m1 := hn5.c 1 rfl
      have m2 := hn5.c 2 rfl
      have m3 := hn5.c 3 rfl
      have a0 := hb5.c 0 rfl
      have a1 := hb5.c 1 rfl
      have a2 := hb5.c 2 rfl
      have a3 := hb5.c 3 rfl
      have a4 := hb5.c 4 rfl
      have a5 := hb5.c 5 rfl
      have a6 := hb5.c 6 rfl
      have a7 := hb5.c 7 rfl
      have a8 := hb5.c 8 rfl
      have a9 := hb5.c 9 rfl
      have HX5 := hid hx5
      have HB5 := hid hb5
      have Hdo := hid (ldoes_calls w _ (fun k => k = w2.heap.size) b s r d (600 * k) (by have := Hkb.out.1; omega) HS.out (os.getD k OpL.none_) Hkb.out.2 hx5)
      unfold dsV at Hdo
      clear hX hB hx5 hb5 hn5
      generalize os.getD k OpL.none_ = o at *
      have hkl : (k : Int) < (os.length : Int) := by omega
      go_wp2_with fail
      refine Hdo.out.mono ?_
      rintro e w5 ⟨b', r', d', q, rfl, hx, ho⟩
      have hb := HB5.out.keep ho (fun hn => hn rfl)
      clear Hdo HB5 HX5 ho
      clear m0 m1 m2 m3 a0 a1 a2 a3 a4 a5 a6 a7 a8 a9
      have u0 := hb.free 0
      have u1 := hb.free 1
      have u2 := hb.free 2
      have u3 := hb.free 3
      have u4 := hb.free 4
      have u5 := hb.free 5
      have u6 := hb.free 6
      have u7 := hb.free 7
      have u8 := hb.free 8
      have u9 := hb.free 9
      have k0 := hb.c 0 rfl
      have k1 := hb.c 1 rfl
      have k2 := hb.c 2 rfl
      have k3 := hb.c 3 rfl
      have k4 := hb.c 4 rfl
      have k5 := hb.c 5 rfl
      have k6 := hb.c 6 rfl
      have k7 := hb.c 7 rfl
      have k8 := hb.c 8 rfl
      have k9 := hb.c 9 rfl
      obtain ⟨W6, hW6⟩ : ∃ W6, ((((((((((w5.setCell ⟨w2.heap.size, 0, none⟩ (.string (bs d'.now.1))).setCell ⟨w2.heap.size, 1, none⟩ (.int .i64 d'.now.2)).setCell ⟨w2.heap.size, 2, none⟩ (.slice r'.A1 d'.back.length r'.c1)).setCell ⟨w2.heap.size, 3, none⟩ (.slice r'.A2 d'.forth.length r'.c2)).setCell ⟨w2.heap.size, 4, none⟩ (.bool d'.opn)).setCell ⟨w2.heap.size, 5, none⟩ (.slice r'.A3 d'.kills.length r'.c3)).setCell ⟨w2.heap.size, 6, none⟩ (.int .i64 d'.top)).setCell ⟨w2.heap.size, 7, none⟩ (.int .i64 d'.last)).setCell ⟨w2.heap.size, 8, none⟩ (.int .i64 d'.fr)).setCell ⟨w2.heap.size, 9, none⟩ (.int .i64 d'.to_)) = W6 := ⟨_, rfl⟩
      have ho6 : Only (fun i => i = w2.heap.size) w5 W6 := by rw [← hW6]; exact ten_onlyD w5 w2.heap.size r' d'
      have h06 : BxA W6 w2.heap.size 32 [.string (bs d'.now.1), .int .i64 d'.now.2, .slice r'.A1 d'.back.length r'.c1, .slice r'.A2 d'.forth.length r'.c2, .bool d'.opn, .slice r'.A3 d'.kills.length r'.c3, .int .i64 d'.top, .int .i64 d'.last, .int .i64 d'.fr, .int .i64 d'.to_] := by rw [← hW6]; exact ten_boxD hb r' d'
      have HX6 := hid (hx.store rfl ho6)
      have HB6 := hid h06
      clear hx hb ho6 h06
      go_wp2_with fail
      go_roundw
      case rel => exact ⟨k + 1, b', _, r', d', by omega, by go_num, rfl, HX6, HB6⟩
      case measure => simp [intOf]; omega
     ·obtain rfl : k = os.length := by omega
      have HX : Hid (LnX w wr (fun _ => False) b s r d 100000 100000) := hid ((hX.out.out (fun _ h => h.elim)).more (by have := HQ.out.1; omega) (by have := HQ.out.1; omega))
      clear hX hB
      clear hlt hk
      go_wp2_with fail
      refine (HX.out.line (C' := 100000) (LN.key_sm0 HX.out.sm 5 [] rfl) (fun O F hl => key_callsL wr O F b s hl (spans_below HS.out HX.out.bel) 5 [] (by decide) (HX.out.sm.mono (by decide)))).mono ?_
      rintro e w6 ⟨rfl, hx, ho⟩
      have HX1 := hid hx
      clear hx ho HX
      go_wp2_with fail
      refine (HX1.out.line (C' := 100000) (LN.key_sm0 HX1.out.sm 6 [] rfl) (fun O F hl => key_callsL w6 O F b _ hl (spans_below HS.out HX1.out.bel) 6 [] (by decide) (HX1.out.sm.mono (by decide)))).mono ?_
      rintro e w7 ⟨rfl, hx, ho⟩
      have HX2 := hid hx
      clear hx ho HX1
      have hla := hid (LN.mv_last s)
      generalize (s.key 5 []).key 6 [] = s1 at *
      go_wp2_with fail
      refine (HX2.out.rd (fun O F hl => buf_callsL w7 O F b s1 hl (spans_below HS.out HX2.out.bel))).mono ?_
      rintro e w8 ⟨rfl, hx, _⟩
      have HX3 : Hid (LnX w (w8.alloc (.cells #[.string (bs s1.buf.1), .int .i64 (s1.buf.2 : Int)] 43)) (fun k => k = w8.heap.size) b s1 r d 100000 100000) := hid (hx.new ((Below.refl _ w8).alloc (Nat.le_refl _) _) (fun k (hk : k = w8.heap.size) => ⟨by omega, by rw [World.size_alloc]; omega⟩))
      have HA3 : Hid (BxA (w8.alloc (.cells #[.string (bs s1.buf.1), .int .i64 (s1.buf.2 : Int)] 43)) w8.heap.size 43 [.string (bs s1.buf.1), .int .i64 (s1.buf.2 : Int)]) := hid (BxA.new w8 43 _)
      obtain ⟨f, t, ah, hk2, hf, ht, hft⟩ := LN.key_kill s1 hx.ok hkk
      have HOk1 := hid hx.ok
      have HBd : Hid (s1.buf.1.length ≤ 600 ∧ s1.buf.2 ≤ 600) := hid (by
       have h1 : Rt s1.buf.1 s1.buf.2 := hx.ok.rt.1
       have h2 := h1.2.1
       have h3 := h1.2.2.le
       omega)
      have HFT := hid (And.intro hf (And.intro ht hft))
      have HK2 := hid hk2
      clear hx HX2 hk2 hf ht hft
      go_wp2_with fail
      refine (HX3.out.line (LN.key_sm HOk1.out HX3.out.sm kind []) (fun O F hl => key_callsL _ O F b s1 hl (spans_below HS.out HX3.out.bel) kind [] (by decide) (HX3.out.sm.mono (by decide)))).mono ?_
      rintro e w9 ⟨rfl, hx, ho⟩
      rw [HK2.out] at hx
      have HX4 := hid hx
      have HA4 := hid (HA3.out.keep ho (fun hn => hn rfl))
      clear hx ho HX3 HA3
      go_wp2_with fail
      refine (HX4.out.rd (fun O F hl => buf_callsL w9 O F b _ hl (spans_below HS.out HX4.out.bel))).mono ?_
      rintro e w10 ⟨rfl, hx, hbel⟩
      have HY : Hid ((s1.kill f t ah).buf.1 ≠ s1.buf.1 → LN.YankAt s1 (s1.kill f t ah) f (goneS s1.buf.1 f t) ∧ f + (goneS s1.buf.1 f t).length = t) := hid (fun hne => LN.YankAt.of HOk1.out (by rw [hla.out]; exact fun e => Lst.noConfusion e) HFT.out.1 HFT.out.2.1 hx.ok hne)
      have hft := HFT.out.2.2
      generalize goneS s1.buf.1 f t = gn at *
      have HX5 : Hid (LnX w (w10.alloc (.cells #[.string (bs (s1.kill f t ah).buf.1), .int .i64 ((s1.kill f t ah).buf.2 : Int)] 43)) (fun k => k = w8.heap.size ∨ k = w10.heap.size) b (s1.kill f t ah) r d 100000 (100000 + 600)) := hid (hx.add ((Below.refl _ w10).alloc (Nat.le_refl _) _) (fun k (hk : k = w10.heap.size) => ⟨by omega, by rw [World.size_alloc]; omega⟩))
      have HA5 : Hid (BxA (w10.alloc (.cells #[.string (bs (s1.kill f t ah).buf.1), .int .i64 ((s1.kill f t ah).buf.2 : Int)] 43)) w8.heap.size 43 [.string (bs s1.buf.1), .int .i64 (s1.buf.2 : Int)]) := hid ((HA4.out.below hbel).alloc _)
      have HC5 : Hid (BxA (w10.alloc (.cells #[.string (bs (s1.kill f t ah).buf.1), .int .i64 ((s1.kill f t ah).buf.2 : Int)] 43)) w10.heap.size 43 [.string (bs (s1.kill f t ah).buf.1), .int .i64 ((s1.kill f t ah).buf.2 : Int)]) := hid (BxA.new w10 43 _)
      clear hx hbel HX4 HA4 HFT HK2 HOk1 hla
      have hs1 : s1.buf = (s1.buf.1, s1.buf.2) := rfl
      have hs2 : (s1.kill f t ah).buf = ((s1.kill f t ah).buf.1, (s1.kill f t ah).buf.2) := rfl
      generalize s1.kill f t ah = s2 at *
      obtain ⟨W5, hW5⟩ : ∃ W5, w10.alloc (.cells #[.string (bs s2.buf.1), .int .i64 (s2.buf.2 : Int)] 43) = W5 := ⟨_, rfl⟩
      rw [hW5] at HX5 HA5 HC5
      have u0 := HA5.out.c 0 rfl
      have u1 := HA5.out.c 1 rfl
      have v0 := HC5.out.c 0 rfl
      have v1 := HC5.out.c 1 rfl
      by_cases hxy : s2.buf.1 = s1.buf.1
      ·have q1 : (s2.buf.1 == s1.buf.1) = true := beq_iff_eq.2 hxy
       clear hxy HY
       go_wp2_with fail
       refine (lalive_calls W5 (spans_below HS.out HX5.out.bel)).mono ?_
       rintro e w9 ⟨rfl, hb9⟩
       have HB9 := hid (HX5.out.bel.trans (hb9.mono HX5.out.bel.size))
       clear hb9
       go_wp2_with fail
       go_ret
       exact ⟨rfl, HB9.out⟩
      ·have q1 : (s2.buf.1 == s1.buf.1) = false := beq_eq_false_iff_ne.2 hxy
       obtain ⟨hY, hgt⟩ := HY.out hxy
       obtain ⟨rest, hrest⟩ := hY.ring
       have HYk := hid hY.yank
       have hlen := hY.len
       have htot := hY.to_
       have HR := hid hrest
       have h6 : s1.buf.1.length ≤ 600 ∧ s2.buf.1.length ≤ 600 ∧ s1.buf.2 ≤ 600 ∧ s2.buf.2 ≤ 600 := by
        have h1 : Rt s2.buf.1 s2.buf.2 := HX5.out.ok.rt.1
        have h2 := h1.2.1
        have h3 := h1.2.2.le
        have h4 := HBd.out
        omega
       have HNe := hid hxy
       clear hxy HY hY hrest
       go_wp2_with fail
       refine (HX5.out.rd (E := fun e w' => ∃ A c, e = .returned (.slice A s2.ring.l.length c) ∧ RdV Value.string w' A s2.ring.l) (fun O F hl => (kills_callsL W5 O F b s2 hl (spans_below HS.out HX5.out.bel)).mono (fun _ _ hh => by obtain ⟨A, c, e1, e2, e3⟩ := hh; exact ⟨⟨A, c, e1, e2⟩, e3⟩))).mono ?_
       rintro e w12 ⟨⟨A1, c1, rfl, hr⟩, hx, hbel⟩
       rw [HR.out] at hr
       rw [HR.out]
       obtain ⟨g, og, rfl, hg, hc⟩ := hr (by simp)
       have hpos : (0 : Int) < ((rest.length + 1 : Nat) : Int) := by omega
       have cc0 : w12.cell? ⟨g, og, none⟩ = some (.string (bs gn)) := hc 0 _ rfl
       have HX6 := hid hx
       have HA6 := hid (HA5.out.below hbel)
       have HC6 := hid (HC5.out.below hbel)
       have a0 := HA6.out.c 0 rfl
       have a1 := HA6.out.c 1 rfl
       have b0 := HC6.out.c 0 rfl
       have b1 := HC6.out.c 1 rfl
       clear hx hbel HX5 HA5 HC5 hr hc u0 u1 v0 v1 HR
       have hgl := bs_size gn
       have hsl1 := bs_size s1.buf.1
       have hsl2 := bs_size s2.buf.1
       rw [show (bs gn :: rest).length = rest.length + 1 from rfl]
       generalize rest.length + 1 = nk at *
       have hkc : kind = 12 ∨ kind = 13 ∨ (kind ≠ 12 ∧ kind ≠ 13) := by omega
       rcases hkc with k12 | k13 | k1213
       case' inl =>
        rw [if_pos (.inl k12)] at hft
        have hw : IntKind.i64.wrap ((s1.buf.2 : Int) - (gn.length : Int)) = (f : Int) := by rw [IntWalk.i64_in _ (by omega)]; omega
        subst k12
       case' inr.inl =>
        rw [if_pos (.inr k13)] at hft
        have hw : IntKind.i64.wrap ((s1.buf.2 : Int) - (gn.length : Int)) = (f : Int) := by rw [IntWalk.i64_in _ (by omega)]; omega
        subst k13
       case' inr.inr =>
        obtain ⟨k12, k13⟩ := k1213
        rw [if_neg (fun e => e.elim k12 k13)] at hft
        have e12 : (kind == 12) = false := beq_eq_false_iff_ne.2 k12
        have e13 : (kind == 13) = false := beq_eq_false_iff_ne.2 k13
        clear k12 k13
        rw [← hft] at a1
        clear hft
       all_goals
        by_cases hcf : s2.buf.2 = f
        ·rw [hcf] at b1
         have q5 : ((s1.buf.1.length : Int) != (s1.buf.1.length : Int)) = false := bne_self_eq_false _
         have hsum : IntKind.i64.wrap ((gn.length : Int) + (s2.buf.1.length : Int)) = (s1.buf.1.length : Int) := by rw [IntWalk.i64_in _ (by omega)]; omega
         obtain ⟨y1, y2, y3⟩ := HYk.out hcf
         have HY1 := hid y1
         have HY2 := hid y2
         have HY3 := hid y3
         clear y1 y2 y3 HYk hcf
         go_wp2_with fail
         refine (HX6.out.rd (fun O F hl => undos_callsL w12 O F b s2 hl (spans_below HS.out HX6.out.bel))).mono ?_
         rintro e w13 ⟨rfl, hx, hbel⟩
         have hbk : s2.log.back.length ≤ 32 := by have h1 := hx.ok.log.len; have h2 := hx.ok.lim; omega
         have HX7 := hid hx
         have HA7 := hid (HA6.out.below hbel)
         have HC7 := hid (HC6.out.below hbel)
         clear hx hbel HX6 HA6 HC6 a0 a1 b0 b1 cc0
         generalize s2.log.back.length = nb at *
         generalize s2.log.forth.length = nf at *
         go_wp2_with fail
         refine (HX7.out.line (C' := 100600) (LN.key_sm0 HX7.out.sm 15 [] rfl) (fun O F hl => key_callsL w13 O F b s2 hl (spans_below HS.out HX7.out.bel) 15 [] (by decide) (HX7.out.sm.mono (by decide)))).mono ?_
         rintro e w14 ⟨rfl, hx, ho⟩
         have HX8 := hid hx
         have HA8 := hid (HA7.out.keep ho (fun hn => hn (.inl rfl)))
         have HC8 := hid (HC7.out.keep ho (fun hn => hn (.inr rfl)))
         clear hx ho HX7 HA7 HC7
         generalize s2.key 15 [] = s3 at *
         go_wp2_with fail
         refine (HX8.out.rd (fun O F hl => undos_callsL w14 O F b s3 hl (spans_below HS.out HX8.out.bel))).mono ?_
         rintro e w15 ⟨rfl, hx, hbel⟩
         rw [HY2.out]
         have HX9 := hid hx
         have HA9 := hid (HA8.out.below hbel)
         have HC9 := hid (HC8.out.below hbel)
         clear hx hbel HX8 HA8 HC8 HY2
         have HSS : Hid (∀ W, Below w15.heap.size w15 W → W.cell? ⟨w8.heap.size, 0, none⟩ = some (.string (bs s1.buf.1))) := hid (fun W hW => (HA9.out.below hW).c 0 rfl)
         have a0 := HA9.out.c 0 rfl
         have hwa : IntKind.i64.wrap ((nb : Int) + 1) = ((nb + 1 : Nat) : Int) := by rw [IntWalk.i64_in _ (by omega)]; omega
         have hmn : min ((nb + 1 : Nat) : Int) 32 = ((min (nb + 1) 32 : Nat) : Int) := by omega
         have tq : (s1.buf.1 == s1.buf.1) = true := beq_self_eq_true _
         go_upto_region 28 with fail
         refine wp_region_held_drew (S := (fun w' => w'.cell? ⟨w8.heap.size, 0, none⟩ = some (.string (bs s1.buf.1)))) (by kernel_rfl) a0 (fun hHeld => ?_)
         refine wpAnyH_take (i := 0) (oi := ⟨some 113, _, _, _, _, _⟩) (v := ?_) rfl (by kernel_rfl) (by kernel_rfl) (by kernel_rfl) (fun _ _ _ h => h) (Or.inl ⟨by kernel_rfl, ?hy0⟩) (by assumption) ?_
         case hy0 => (intro w' hSw; (try dsimp only at hSw); go_simp; try with_reducible rfl)
         simp only [Act.put, List.setIfInBounds_toArray, List.set_cons_zero, List.set_cons_succ]
         refine wpAnyH_take (i := 3) (oi := ⟨some 116, _, _, _, _, _⟩) (v := ?_) rfl (by kernel_rfl) (by kernel_rfl) (by kernel_rfl) (fun _ _ _ h => h) (Or.inl ⟨by kernel_rfl, ?hy3⟩) (by assumption) ?_
         case hy3 => (intro w' hSw; (try dsimp only at hSw); go_simp; try with_reducible rfl)
         simp only [Act.put, List.setIfInBounds_toArray, List.set_cons_zero, List.set_cons_succ]
         refine wpAnyH_take (i := 4) (oi := ⟨some 117, _, _, _, _, _⟩) (v := ?_) rfl (by kernel_rfl) (by kernel_rfl) (by kernel_rfl) (fun _ _ _ h => h) (Or.inl ⟨by kernel_rfl, ?hy4⟩) (by assumption) ?_
         case hy4 => (intro w' hSw; (try dsimp only at hSw); go_simp; try with_reducible rfl)
         simp only [Act.put, List.setIfInBounds_toArray, List.set_cons_zero, List.set_cons_succ]
         refine wpAnyH_ready (rs := [1]) (by kernel_rfl) (by simp) ?_
         refine AllReadyH.cons (o := ⟨some 114, _, _, _, _, _⟩) rfl (fun K hK => ?_) AllReadyH.nil
         (rw [if_pos (by kernel_rfl)])
         go_simp
         refine (HX9.out.below Below.drewR |>.rd (fun O F hl => buf_callsL w15.drew O F b s3 hl (spans_below HS.out (HX9.out.below Below.drewR).bel))).mono ?_
         rintro e w16 ⟨rfl, hx, hbel⟩
         rw [HY1.out]
         have q16 := HSS.out w16 (Below.drewR.trans hbel)
         have HX10 := hid hx
         have HA10 := hid (HA9.out.below (Below.drewR.trans hbel))
         have HC10 := hid (HC9.out.below (Below.drewR.trans hbel))
         have fb := field_buf0 (.string (bs s1.buf.1)) (.int .i64 (s3.buf.2 : Int))
         clear hx hbel HX9 HA9 HC9
         refine hK.out _ _ q16 (fun hHeld => ?_)
         clear hK K
         refine wpAnyH_take (i := 2) (oi := ⟨some 115, _, _, _, _, _⟩) (v := ?_) rfl (by kernel_rfl) (by kernel_rfl) (by kernel_rfl) (fun _ _ _ h => h) (Or.inl ⟨by kernel_rfl, ?hy2⟩) (by assumption) ?_
         case hy2 => (intro w' hSw; (try dsimp only at hSw); go_simp; try with_reducible rfl)
         simp only [Act.put, List.setIfInBounds_toArray, List.set_cons_zero, List.set_cons_succ]
         refine wpAnyH_take (i := 5) (oi := ⟨some 118, _, _, _, _, _⟩) (v := ?_) rfl (by kernel_rfl) (by kernel_rfl) (by kernel_rfl) (fun _ _ _ h => h) (Or.inl ⟨by kernel_rfl, ?hy5⟩) (by assumption) ?_
         case hy5 => (intro w' hSw; (try dsimp only at hSw); go_simp; try with_reducible rfl)
         simp only [Act.put, List.setIfInBounds_toArray, List.set_cons_zero, List.set_cons_succ]
         refine wpAnyH_take (i := 6) (oi := ⟨some 119, _, _, _, _, _⟩) (v := ?_) rfl (by kernel_rfl) (by kernel_rfl) (by kernel_rfl) (fun _ _ _ h => h) (Or.inl ⟨by kernel_rfl, ?hy6⟩) (by assumption) ?_
         case hy6 => (intro w' hSw; (try dsimp only at hSw); go_simp; try with_reducible rfl)
         simp only [Act.put, List.setIfInBounds_toArray, List.set_cons_zero, List.set_cons_succ]
         refine wpAnyH_take (i := 7) (oi := ⟨some 120, _, _, _, _, _⟩) (v := ?_) rfl (by kernel_rfl) (by kernel_rfl) (by kernel_rfl) (fun _ _ _ h => h) (Or.inl ⟨by kernel_rfl, ?hy7⟩) (by assumption) ?_
         case hy7 => (intro w' hSw; (try dsimp only at hSw); go_simp; try with_reducible rfl)
         simp only [Act.put, List.setIfInBounds_toArray, List.set_cons_zero, List.set_cons_succ]
         refine wpAnyH_take (i := 8) (oi := ⟨some 121, _, _, _, _, _⟩) (v := ?_) rfl (by kernel_rfl) (by kernel_rfl) (by kernel_rfl) (fun _ _ _ h => h) (Or.inl ⟨by kernel_rfl, ?hy8⟩) (by assumption) ?_
         case hy8 => (intro w' hSw; (try dsimp only at hSw); go_simp; try with_reducible rfl)
         simp only [Act.put, List.setIfInBounds_toArray, List.set_cons_zero, List.set_cons_succ]
         refine wpAnyH_take (i := 9) (oi := ⟨some 122, _, _, _, _, _⟩) (v := ?_) rfl (by kernel_rfl) (by kernel_rfl) (by kernel_rfl) (fun _ _ _ h => h) (Or.inl ⟨by kernel_rfl, ?hy9⟩) (by assumption) ?_
         case hy9 => (intro w' hSw; (try dsimp only at hSw); go_simp; try with_reducible rfl)
         simp only [Act.put, List.setIfInBounds_toArray, List.set_cons_zero, List.set_cons_succ]
         refine wpAnyH_take (i := 10) (oi := ⟨some 123, _, _, _, _, _⟩) (v := ?_) rfl (by kernel_rfl) (by kernel_rfl) (by kernel_rfl) (fun _ _ _ h => h) (Or.inl ⟨by kernel_rfl, ?hy10⟩) (by assumption) ?_
         case hy10 => (intro w' hSw; (try dsimp only at hSw); go_simp; try with_reducible rfl)
         simp only [Act.put, List.setIfInBounds_toArray, List.set_cons_zero, List.set_cons_succ]
         refine wpAnyH_take (i := 11) (oi := ⟨some 124, _, _, _, _, _⟩) (v := ?_) rfl (by kernel_rfl) (by kernel_rfl) (by kernel_rfl) (fun _ _ _ h => h) (Or.inl ⟨by kernel_rfl, ?hy11⟩) (by assumption) ?_
         case hy11 => (intro w' hSw; (try dsimp only at hSw); go_simp; try with_reducible rfl)
         simp only [Act.put, List.setIfInBounds_toArray, List.set_cons_zero, List.set_cons_succ]
         refine wpAnyH_take (i := 12) (oi := ⟨some 125, _, _, _, _, _⟩) (v := ?_) rfl (by kernel_rfl) (by kernel_rfl) (by kernel_rfl) (fun _ _ _ h => h) (Or.inl ⟨by kernel_rfl, ?hy12⟩) (by assumption) ?_
         case hy12 => (intro w' hSw; (try dsimp only at hSw); go_simp; try with_reducible rfl)
         simp only [Act.put, List.setIfInBounds_toArray, List.set_cons_zero, List.set_cons_succ]
         refine wpAnyH_done (by kernel_rfl) ?_ _
         go_wp2_with fail
         refine (HX10.out.line (C' := 100600) (LN.key_sm0 HX10.out.sm 17 [] rfl) (fun O F hl => key_callsL w16 O F b s3 hl (spans_below HS.out HX10.out.bel) 17 [] (by decide) (HX10.out.sm.mono (by decide)))).mono ?_
         rintro e w17 ⟨rfl, hx, ho⟩
         have HX11 := hid hx
         have HC11 := hid (HC10.out.keep ho (fun hn => hn (.inr rfl)))
         clear hx ho HX10 HA10 HC10 HSS q16 hHeld fb tq a0
         generalize s3.key 17 [] = s4 at *
         generalize hsx : s2.buf = sx at *
         obtain ⟨xs, xa⟩ := sx
         have q1 := eqT (bs xs) (xa : Int)
         go_upto_region 31 with fail
         refine wp_region_held_drew (S := (fun w' => w'.cell? ⟨w10.heap.size, 0, none⟩ = some (.string (bs xs)) ∧ w'.cell? ⟨w10.heap.size, 1, none⟩ = some (.int .i64 (xa : Int)))) (by kernel_rfl) ⟨HC11.out.c 0 rfl, HC11.out.c 1 rfl⟩ (fun hHeld => ?_)
         refine wpAnyH_ready (rs := [0]) (by kernel_rfl) (by simp) ?_
         refine AllReadyH.cons (o := ⟨some 129, _, _, _, _, _⟩) rfl (fun K hK => ?_) AllReadyH.nil
         (rw [if_pos (by kernel_rfl)])
         go_simp
         refine (lalive_calls _ (spans_below HS.out (HX11.out.bel.trans ((Below.drewR).mono HX11.out.bel.size)))).mono ?_
         rintro e w18 ⟨rfl, hb10⟩
         have HC12 := hid (HC11.out.drw.below hb10)
         have HX12 := hid ((HX11.out.below Below.drewR).below hb10)
         clear hb10
         refine hK.out _ _ ⟨HC12.out.c 0 rfl, HC12.out.c 1 rfl⟩ (fun hHeld => ?_)
         clear hK K
         refine wpAnyH_take (i := 1) (oi := ⟨some 130, _, _, _, _, _⟩) (v := ?_) rfl (by kernel_rfl) (by kernel_rfl) (by kernel_rfl) (fun _ _ _ h => h) (Or.inl ⟨by kernel_rfl, ?hy1⟩) (by assumption) ?_
         case hy1 => (intro w' hSw; (try dsimp only at hSw); go_simp; try with_reducible rfl)
         simp only [Act.put, List.setIfInBounds_toArray, List.set_cons_zero, List.set_cons_succ]
         refine wpAnyH_take (i := 2) (oi := ⟨some 131, _, _, _, _, _⟩) (v := ?_) rfl (by kernel_rfl) (by kernel_rfl) (by kernel_rfl) (fun _ _ _ h => h) (Or.inl ⟨by kernel_rfl, ?hy2⟩) (by assumption) ?_
         case hy2 => (intro w' hSw; (try dsimp only at hSw); go_simp; try with_reducible rfl)
         simp only [Act.put, List.setIfInBounds_toArray, List.set_cons_zero, List.set_cons_succ]
         refine wpAnyH_take (i := 4) (oi := ⟨some 133, _, _, _, _, _⟩) (v := ?_) rfl (by kernel_rfl) (by kernel_rfl) (by kernel_rfl) (fun _ _ _ h => h) (Or.inl ⟨by kernel_rfl, ?hy4⟩) (by assumption) ?_
         case hy4 => (intro w' hSw; (try dsimp only at hSw); go_simp; try with_reducible rfl)
         simp only [Act.put, List.setIfInBounds_toArray, List.set_cons_zero, List.set_cons_succ]
         refine wpAnyH_ready (rs := [3]) (by kernel_rfl) (by simp) ?_
         refine AllReadyH.cons (o := ⟨some 132, _, _, _, _, _⟩) rfl (fun K hK => ?_) AllReadyH.nil
         (rw [if_pos (by kernel_rfl)])
         go_simp
         refine (HX12.out.rd (fun O F hl => buf_callsL _ O F b _ hl (spans_below HS.out HX12.out.bel))).mono ?_
         rintro e w19 ⟨rfl, hx11, hb11⟩
         have HC13 := hid (HC12.out.below hb11)
         have HX13 := hid hx11
         rw [HY3.out]
         clear hx11 hb11
         refine hK.out _ _ ⟨HC13.out.c 0 rfl, HC13.out.c 1 rfl⟩ (fun hHeld => ?_)
         clear hK K
         refine wpAnyH_take (i := 5) (oi := ⟨some 134, _, _, _, _, _⟩) (v := ?_) rfl (by kernel_rfl) (by kernel_rfl) (by kernel_rfl) (fun _ _ _ h => h) (Or.inl ⟨by kernel_rfl, ?hy5⟩) (by assumption) ?_
         case hy5 => (intro w' hSw; (try dsimp only at hSw); go_simp; try with_reducible rfl)
         simp only [Act.put, List.setIfInBounds_toArray, List.set_cons_zero, List.set_cons_succ]
         refine wpAnyH_take (i := 6) (oi := ⟨some 135, _, _, _, _, _⟩) (v := ?_) rfl (by kernel_rfl) (by kernel_rfl) (by kernel_rfl) (fun _ _ _ h => h) (Or.inl ⟨by kernel_rfl, ?hy6⟩) (by assumption) ?_
         case hy6 => (intro w' hSw; (try dsimp only at hSw); go_simp; try with_reducible rfl)
         simp only [Act.put, List.setIfInBounds_toArray, List.set_cons_zero, List.set_cons_succ]
         refine wpAnyH_take (i := 7) (oi := ⟨some 4, _, _, _, _, _⟩) (v := ?_) rfl (by kernel_rfl) (by kernel_rfl) (by kernel_rfl) (fun _ _ _ h => h) (Or.inl ⟨by kernel_rfl, ?hy7⟩) (by assumption) ?_
         case hy7 => (intro w' hSw; (try dsimp only at hSw); go_simp; try with_reducible rfl)
         simp only [Act.put, List.setIfInBounds_toArray, List.set_cons_zero, List.set_cons_succ]
         refine wpAnyH_done (by kernel_rfl) ?_ _
         go_wp2_with fail
         go_ret
         exact ⟨rfl, HX13.out.bel⟩
        ·clear HYk
         go_wp2_with fail
         refine (lalive_calls w12 (spans_below HS.out HX6.out.bel)).mono ?_
         rintro e w13 ⟨rfl, hb9⟩
         have HB9 := hid (HX6.out.bel.trans (hb9.mono HX6.out.bel.size))
         clear hb9
         go_wp2_with fail
         go_ret
         exact ⟨rfl, HB9.out⟩
 ·rw [decide_eq_false hq] at Hfew
  clear hq
  go_enter Tryz.func4, Tryz.ntmps4
  go_wp2_with fail
  refine Hfew.out.mono ?_
  rintro e w1 ⟨rfl, hb1⟩
  have HB1 := hid hb1
  have Hal := hid (lalive_calls w1 (spans_below HS.out hb1))
  clear hb1 Hfew
  go_wp2_with fail
  refine Hal.out.mono ?_
  rintro e w9 ⟨rfl, hb9⟩
  have HB9 := hid (HB1.out.trans (hb9.mono HB1.out.size))
  clear hb9 Hal
  go_wp2
  go_ret
  exact ⟨rfl, HB9.out⟩
end Go.Proofs.YtoaponaljkhlfaaGreatDoor
