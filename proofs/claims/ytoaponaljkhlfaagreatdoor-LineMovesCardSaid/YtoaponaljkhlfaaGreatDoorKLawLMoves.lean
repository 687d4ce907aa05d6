/-
  LineMoves (layer 7).
-/
import Derived.Test.YtoaponaljkhlfaaGreatDoorPz39
import Derived.Test.YtoaponaljkhlfaaGreatDoorPz40
namespace Go.Proofs.YtoaponaljkhlfaaGreatDoor
open Go Go.RowKit
open Go.Lib (hid)
set_option maxRecDepth 100000
set_option maxHeartbeats 8000000 in
theorem lmoves_calls (A : Option Addr) (c : Nat) (os : List OpL) (A2 : Option Addr) (c2 : Nat) (zs : List Int) (w : World) (hO : RdL w A os) (hl : os.length ≤ 9223372036854775807) (hZ : RdV (Value.int .i64) w A2 zs) (hl2 : zs.length ≤ 9223372036854775807) (hsp : Spans w) :
  Calls Tryz.prog 5 #[.slice A os.length c, .slice A2 zs.length c2] w fun e w' => e = .returned (.bool true) ∧ Below w.heap.size w w' := by
 have Hfew := hid (few7_calls A c os w hO hl)
 have HO := hid hO
 have HS := hid hsp
 have HZ := hid hZ
 clear hO hsp hZ
 by_cases hq : os.length ≤ 120 ∧ totL os ≤ 4000
 ·rw [decide_eq_true hq] at Hfew
  have HQ := hid hq
  clear hq
  by_cases k1 : (40 : Int) < (zs.length : Int)
  ·have d1 : decide ((40 : Int) < (zs.length : Int)) = true := decide_eq_true k1
   clear k1
   go_enter Tryz.func5, Tryz.ntmps5
   go_wp2_with fail
   refine Hfew.out.mono ?_
   rintro e w1 ⟨rfl, hb1⟩
   have HB1 := hid hb1
   have Hal := hid (lalive_calls w1 (spans_below HS.out hb1))
   clear hb1 Hfew
   go_wp2_with fail
   refine Hal.out.mono ?_
   rintro e w9 ⟨rfl, hb9⟩
   have HB9 := hid (HB1.out.trans (hb9.mono HB1.out.size))
   clear hb9 Hal
   go_wp2
   go_ret
   exact ⟨rfl, HB9.out⟩
  ·have d1 : ¬ (40 : Int) < (zs.length : Int) := k1
   clear k1
   go_enter Tryz.func5, Tryz.ntmps5
   go_wp2_with fail
   refine Hfew.out.mono ?_
   rintro e w1 ⟨rfl, hb1⟩
   have HB1 := hid hb1
   clear hb1 Hfew
   go_wp2_with fail
   refine (new_callsL w1 (spans_below HS.out HB1.out)).mono ?_
   rintro e w2 ⟨b0, rfl, h2⟩
   have h4 : LnD w w2 b0 LN.new dr0 ds0 0 0 := LnX.start (by
    obtain ⟨O, F, a1, a2, a3⟩ := h2
    exact ⟨O, F, a1, fun k hk => Nat.le_trans HB1.out.size (a2 k hk), HB1.out.trans (a3.mono HB1.out.size)⟩) (LN.new_sm 0)
   have H4 : Hid (LnX w (w2.alloc (.cells #[.string ⟨#[]⟩, .int .i64 0, .slice none 0 0, .slice none 0 0, .bool false, .slice none 0 0, .int .i64 0, .int .i64 0, .int .i64 0, .int .i64 0] 32)) (fun k => k = w2.heap.size) b0 LN.new dr0 ds0 (600 * 0) (600 * 0)) := hid (h4.new ((Below.refl _ w2).alloc (Nat.le_refl _) _) (fun k (hk : k = w2.heap.size) => ⟨by omega, by rw [World.size_alloc]; omega⟩))
   have HB4 : Hid (BxA (w2.alloc (.cells #[.string ⟨#[]⟩, .int .i64 0, .slice none 0 0, .slice none 0 0, .bool false, .slice none 0 0, .int .i64 0, .int .i64 0, .int .i64 0, .int .i64 0] 32)) w2.heap.size 32 (dsK dr0 ds0)) := hid (BxA.new w2 32 dsZ)
   clear h2 h4
   go_wp2_with fail
   go_loopw [5, 33] (fun v3 v23 wr => ∃ (k b : Nat) (s : LN) (r : DR) (d : DS), k ≤ os.length ∧ v23 = .int .i64 (k : Int) ∧ v3 = .pointer (some ⟨b, 0, none⟩) ∧ Hid (LnX w wr (fun k => k = w2.heap.size) b s r d (600 * k) (600 * k)) ∧ Hid (BxA wr w2.heap.size 32 (dsK r d))) (fun _ v23 _ => os.length - (intOf v23).toNat)
   case atStart => exact ⟨0, b0, LN.new, dr0, ds0, Nat.zero_le _, rfl, rfl, H4, HB4⟩
   case round =>
    obtain ⟨k, b, s, r, d, hk, rfl, rfl, hX, hB⟩ := hrel
    clear H4 HB4
    by_cases hlt : k < os.length
    ·obtain ⟨g, og, rfl, hg, e0, e1, e2, e3, _⟩ := (HO.out.below hX.out.bel).at_ hlt
     have Hkb : Hid (k ≤ 120 ∧ (os.getD k OpL.none_).t.size ≤ 100000) := hid ⟨by have := HQ.out.1; omega, by
      have h1 := totL_take os k hlt
      have h2 := totL_mono os (k + 1) os.length (by omega)
      rw [List.take_length] at h2
      have := HQ.out.2
      omega⟩
     have hx5 := hX.out.below ((Below.refl _ wr).alloc (Nat.le_refl _) (.cells #[.int .i64 (os.getD k OpL.none_).k, .int .i64 (os.getD k OpL.none_).q, .string (os.getD k OpL.none_).t, .int .i64 (os.getD k OpL.none_).g] 36))
     have hb5 := hB.out.alloc (.cells #[.int .i64 (os.getD k OpL.none_).k, .int .i64 (os.getD k OpL.none_).q, .string (os.getD k OpL.none_).t, .int .i64 (os.getD k OpL.none_).g] 36)
     have hn5 := BxA.new wr 36 [.int .i64 (os.getD k OpL.none_).k, .int .i64 (os.getD k OpL.none_).q, .string (os.getD k OpL.none_).t, .int .i64 (os.getD k OpL.none_).g]
     have m0 := hn5.c 0 rfl
     have m1 := hn5.c 1 rfl
     have m2 := hn5.c 2 rfl
     have m3 := hn5.c 3 rfl
     have a0 := hb5.c 0 rfl
     have a1 := hb5.c 1 rfl
     have a2 := hb5.c 2 rfl
     have a3 := hb5.c 3 rfl
     have a4 := hb5.c 4 rfl
     have a5 := hb5.c 5 rfl
     have a6 := hb5.c 6 rfl
     have a7 := hb5.c 7 rfl
     have a8 := hb5.c 8 rfl
     have a9 := hb5.c 9 rfl
     have HX5 := hid hx5
     have HB5 := hid hb5
     have Hdo := hid (ldoes_calls w _ (fun k => k = w2.heap.size) b s r d (600 * k) (by have := Hkb.out.1; omega) HS.out (os.getD k OpL.none_) Hkb.out.2 hx5)
     unfold dsV at Hdo
     clear hX hB hx5 hb5 hn5
     generalize os.getD k OpL.none_ = o at *
     have hkl : (k : Int) < (os.length : Int) := by omega
     go_wp2_with fail
     refine Hdo.out.mono ?_
     rintro e w5 ⟨b', r', d', q, rfl, hx, ho⟩
     have hb := HB5.out.keep ho (fun hn => hn rfl)
     clear Hdo HB5 HX5 ho
     clear m0 m1 m2 m3 a0 a1 a2 a3 a4 a5 a6 a7 a8 a9
     have u0 := hb.free 0
     have u1 := hb.free 1
     have u2 := hb.free 2
     have u3 := hb.free 3
     have u4 := hb.free 4
     have u5 := hb.free 5
     have u6 := hb.free 6
     have u7 := hb.free 7
     have u8 := hb.free 8
     have u9 := hb.free 9
     have k0 := hb.c 0 rfl
     have k1 := hb.c 1 rfl
     have k2 := hb.c 2 rfl
     have k3 := hb.c 3 rfl
     have k4 := hb.c 4 rfl
     have k5 := hb.c 5 rfl
     have k6 := hb.c 6 rfl
     have k7 := hb.c 7 rfl
     have k8 := hb.c 8 rfl
     have k9 := hb.c 9 rfl
     obtain ⟨W6, hW6⟩ : ∃ W6, ((((((((((w5.setCell ⟨w2.heap.size, 0, none⟩ (.string (bs d'.now.1))).setCell ⟨w2.heap.size, 1, none⟩ (.int .i64 d'.now.2)).setCell ⟨w2.heap.size, 2, none⟩ (.slice r'.A1 d'.back.length r'.c1)).setCell ⟨w2.heap.size, 3, none⟩ (.slice r'.A2 d'.forth.length r'.c2)).setCell ⟨w2.heap.size, 4, none⟩ (.bool d'.opn)).setCell ⟨w2.heap.size, 5, none⟩ (.slice r'.A3 d'.kills.length r'.c3)).setCell ⟨w2.heap.size, 6, none⟩ (.int .i64 d'.top)).setCell ⟨w2.heap.size, 7, none⟩ (.int .i64 d'.last)).setCell ⟨w2.heap.size, 8, none⟩ (.int .i64 d'.fr)).setCell ⟨w2.heap.size, 9, none⟩ (.int .i64 d'.to_)) = W6 := ⟨_, rfl⟩
     have ho6 : Only (fun i => i = w2.heap.size) w5 W6 := by rw [← hW6]; exact ten_onlyD w5 w2.heap.size r' d'
     have h06 : BxA W6 w2.heap.size 32 [.string (bs d'.now.1), .int .i64 d'.now.2, .slice r'.A1 d'.back.length r'.c1, .slice r'.A2 d'.forth.length r'.c2, .bool d'.opn, .slice r'.A3 d'.kills.length r'.c3, .int .i64 d'.top, .int .i64 d'.last, .int .i64 d'.fr, .int .i64 d'.to_] := by rw [← hW6]; exact ten_boxD hb r' d'
     have HX6 := hid (hx.store rfl ho6)
     have HB6 := hid h06
     clear hx hb ho6 h06
     go_wp2_with fail
     go_roundw
     case rel => exact ⟨k + 1, b', _, r', d', by omega, by go_num, rfl, HX6, HB6⟩
     case measure => simp [intOf]; omega
    ·obtain rfl : k = os.length := by omega
     have HX : Hid (LnX w wr (fun _ => False) b s r d 100000 100000) := hid ((hX.out.out (fun _ h => h.elim)).more (by have := HQ.out.1; omega) (by have := HQ.out.1; omega))
     clear hX hB
     clear hlt hk
     go_wp2_with fail
     have fb := field_buf0 (.string (bs s.buf.1)) (.int .i64 (s.buf.2 : Int))
     refine (HX.out.rd (fun O F hl => buf_callsL wr O F b s hl (spans_below HS.out HX.out.bel))).mono ?_
     rintro e w6 ⟨rfl, hx, hbel⟩
     have HX6 := hid hx
     clear hx hbel
     clear HX
     go_wp2_with fail
     refine (HX6.out.rd (E := fun e w' => ∃ A c, e = .returned (.slice A s.ring.l.length c)) (fun O F hl => (kills_callsL w6 O F b s hl (spans_below HS.out HX6.out.bel)).mono (fun _ _ hh => by obtain ⟨A, c, e1, e2, e3⟩ := hh; exact ⟨⟨A, c, e1⟩, e3⟩))).mono ?_
     rintro e w7 ⟨⟨Ak7, ck7, rfl⟩, hx, hbel⟩
     have HX7 := hid hx
     clear hx hbel HX6
     go_wp2_with fail
     refine (HX7.out.rd (fun O F hl => undos_callsL w7 O F b s hl (spans_below HS.out HX7.out.bel))).mono ?_
     rintro e w8 ⟨rfl, hx, hbel⟩
     have HX8 := hid hx
     clear hx hbel HX7
     have HK8 : Hid (s.buf.1 = s.buf.1 ∧ s.log.back.length = s.log.back.length ∧ s.log.forth.length = s.log.forth.length ∧ s.ring.l.length = s.ring.l.length) := hid ⟨rfl, rfl, rfl, rfl⟩
     have HT : Hid (Rt s.buf.1 s.buf.2) := hid HX8.out.ok.rt.1
     clear fb
     generalize hx : s.buf.1 = x at *
     generalize hnb : s.log.back.length = nb at *
     generalize hnf : s.log.forth.length = nf at *
     generalize hnk : s.ring.l.length = nk at *
     go_wp2_with fail
     go_loopw [59] (fun v59 wr => ∃ (k : Nat) (s : LN), k ≤ zs.length ∧ v59 = .int .i64 (k : Int) ∧ Hid (LnX w wr (fun _ => False) b s r d 100000 100000) ∧ Hid (s.buf.1 = x ∧ s.log.back.length = nb ∧ s.log.forth.length = nf ∧ s.ring.l.length = nk)) (fun v59 _ => zs.length - (intOf v59).toNat)
     case atStart => exact ⟨0, s, Nat.zero_le _, rfl, HX8, hid ⟨hx, hnb, hnf, hnk⟩⟩
     case round =>
      clear hx hnb hnf hnk HX8 HK8 HT
      obtain ⟨k, s, hk, rfl, HX, HQ2⟩ := hrel
      by_cases hlt : k < zs.length
      ·obtain ⟨g, og, rfl, hg, hc⟩ := HZ.out (by omega)
       have hz0 : zs[k]? = some (zs.getD k 0) := by rw [List.getD_eq_getElem?_getD, List.getElem?_eq_getElem hlt]; rfl
       have ck : wr.cell? ⟨g, og + k, none⟩ = some (.int .i64 (zs.getD k 0)) := by rw [HX.out.bel.cell (p := ⟨g, og + k, none⟩) hg]; exact hc k _ hz0
       have hkl : (k : Int) < (zs.length : Int) := by omega
       clear hz0 hc
       generalize zs.getD k 0 = q at *
       by_cases k1 : q < 5
       ·have d1 : decide (q < 5) = true := decide_eq_true k1
        clear k1
        go_wp2_with fail
        go_roundw
        case rel => exact ⟨k + 1, s, by omega, by go_num, HX, HQ2⟩
        case measure => simp [intOf]; omega
       ·have d1 : ¬ q < 5 := k1
        by_cases k2 : 10 < q
        ·have d2 : decide (10 < q) = true := decide_eq_true k2
         clear k1 k2
         go_wp2_with fail
         go_roundw
         case rel => exact ⟨k + 1, s, by omega, by go_num, HX, HQ2⟩
         case measure => simp [intOf]; omega
        ·have d2 : ¬ 10 < q := k2
         have hqq : 5 ≤ q ∧ q ≤ 10 := by omega
         clear k1 k2
         obtain ⟨hx, hnb, hnf, hnk⟩ := HQ2.out
         have HT : Hid (Rt s.buf.1 s.buf.2) := hid HX.out.ok.rt.1
         have HQQ := hid hqq
         clear hqq
         rw [hx] at HT
         go_wp2_with fail
         have fb := field_buf1L (.string (bs x)) (.int .i64 (s.buf.2 : Int))
         refine (HX.out.rd (fun O F hl => buf_callsL wr O F b s hl (spans_below HS.out HX.out.bel))).mono ?_
         rintro e w11 ⟨rfl, hx11, hbel⟩
         rw [hx]
         have HX1 := hid hx11
         have HE : Hid (s.log.back.length = nb ∧ s.log.forth.length = nf ∧ s.ring.l.length = nk ∧ s.buf.1 = x) := hid ⟨hnb, hnf, hnk, hx⟩
         clear hx11 hbel hx hnb hnf hnk HX HQ2 ck hg
         go_wp2_with fail
         refine (HX1.out.line (C' := 100000) (LN.key_sm0 HX1.out.sm q [] (LN.key_mvV s HQQ.out).2.2.2.2) (fun O F hl => key_callsL w11 O F b s hl (spans_below HS.out HX1.out.bel) q [] (by decide) (HX1.out.sm.mono (by decide)))).mono ?_
         rintro e w12 ⟨rfl, hx, ho⟩
         have HX2 := hid hx
         have HE2 : Hid ((s.key q []).buf = (x, wantM x s.buf.2 q) ∧ (s.key q []).log.back.length = nb ∧ (s.key q []).log.forth.length = nf ∧ (s.key q []).ring.l.length = nk) := hid (by
          obtain ⟨h1, h2, h3, h4, _⟩ := LN.key_mvV s HQQ.out
          obtain ⟨e1, e2, e3, e4⟩ := HE.out
          rw [h1, h2, h3, h4, e4]
          exact ⟨rfl, e1, e2, e3⟩)
         have HL : Hid (x.length ≤ 137438953472 ∧ mS x = x ∧ mA x (s.buf.2 : Int) = s.buf.2) := hid ⟨Nat.le_trans HT.out.2.1 (by decide), HT.out.make.1, HT.out.make.2⟩
         clear hx ho HX1 HE
         generalize s.buf.2 = at0 at *
         generalize s.key q [] = s2 at *
         have hmm := @run_makeMap Tryz.prog
         have HX3 : Hid (LnX w (w12.alloc (.map #[] 0)) (fun k => k = w12.heap.size) b s2 r d 100000 100000) := hid (HX2.out.new ((Below.refl _ w12).alloc (Nat.le_refl _) _) (fun k (hk : k = w12.heap.size) => ⟨by omega, by rw [World.size_alloc]; omega⟩))
         have m0 : (w12.alloc (.map #[] 0)).heap[w12.heap.size]? = some (.map #[] 0) := World.alloc_heap_new w12 _
         obtain ⟨W3, hW3⟩ : ∃ W3, w12.alloc (.map #[] 0) = W3 := ⟨_, rfl⟩
         rw [hW3] at HX3 m0
         clear HX2
         go_wp2_with fail
         clear hmm hW3
         refine (prev_calls x (at0 : Int) HL.out.1 W3 (spans_below HS.out HX3.out.bel)).mono ?_
         rintro e v3 ⟨rfl, hb⟩
         rw [HL.out.2.1, HL.out.2.2]
         have mm := (hb.block _ (HX3.out.mem rfl).1).trans m0
         have hxx := HX3.out.below hb
         obtain ⟨W4, run4, m1, oo⟩ := run_put_new (P := Tryz.prog) (t := 49) Tryz.underlying49 Tryz.underlying3 v3 w12.heap.size _ _ mm 5 (.int .i64 ((prvL x at0 : Nat) : Int)) (by simp [Instr.findNow])
         have HX4 := hid (hxx.store rfl oo)
         clear mm hxx oo hb m0 HX3
         go_wp2_with fail
         clear run4
         refine (next_callsT x (at0 : Int) HL.out.1 W4 (spans_below HS.out HX4.out.bel)).mono ?_
         rintro e v4 ⟨rfl, hb⟩
         rw [HL.out.2.1, HL.out.2.2]
         have mm := (hb.block _ (HX4.out.mem rfl).1).trans m1
         have hxx := HX4.out.below hb
         obtain ⟨W5, run5, m2, oo⟩ := run_put_new (P := Tryz.prog) (t := 49) Tryz.underlying49 Tryz.underlying3 v4 w12.heap.size _ _ mm 6 (.int .i64 ((nxtL x at0 : Nat) : Int)) (by simp [Instr.findNow, Instr.sameNow])
         have HX5 := hid (hxx.store rfl oo)
         clear mm hxx oo hb m1 HX4
         have mm := m2
         have hxx := HX5.out
         obtain ⟨W6, run6, m3, oo⟩ := run_put_new (P := Tryz.prog) (t := 49) Tryz.underlying49 Tryz.underlying3 W5 w12.heap.size _ _ mm 8 (.int .i64 ((x.length : Nat) : Int)) (by simp [Instr.findNow, Instr.sameNow])
         have HX6 := hid (hxx.store rfl oo)
         clear mm hxx oo m2 HX5
         go_wp2_with fail
         clear run6
         refine (wordLeft_calls x (at0 : Int) HL.out.1 W6 (spans_below HS.out HX6.out.bel)).mono ?_
         rintro e v6 ⟨rfl, hb⟩
         rw [HL.out.2.1, HL.out.2.2]
         have mm := (hb.block _ (HX6.out.mem rfl).1).trans m3
         have hxx := HX6.out.below hb
         obtain ⟨W7, run7, m4, oo⟩ := run_put_new (P := Tryz.prog) (t := 49) Tryz.underlying49 Tryz.underlying3 v6 w12.heap.size _ _ mm 9 (.int .i64 ((wlL x at0 : Nat) : Int)) (by simp [Instr.findNow, Instr.sameNow])
         have HX7 := hid (hxx.store rfl oo)
         clear mm hxx oo hb m3 HX6
         go_wp2_with fail
         clear run7
         refine (wordRight_calls x (at0 : Int) HL.out.1 W7 (spans_below HS.out HX7.out.bel)).mono ?_
         rintro e v7 ⟨rfl, hb⟩
         rw [HL.out.2.1, HL.out.2.2]
         have mm := (hb.block _ (HX7.out.mem rfl).1).trans m4
         have hxx := HX7.out.below hb
         obtain ⟨W8, run8, m5, oo⟩ := run_put_new (P := Tryz.prog) (t := 49) Tryz.underlying49 Tryz.underlying3 v7 w12.heap.size _ _ mm 10 (.int .i64 ((wrL x at0 : Nat) : Int)) (by simp [Instr.findNow, Instr.sameNow])
         have HX8 := hid (hxx.store rfl oo)
         clear mm hxx oo hb m4 HX7
         have mE : W8.heap[w12.heap.size]? = some (.map (mvE x at0) 5) := m5
         have HXE := HX8
         clear m5 HX8
         have look := mv_look mE HQQ.out
         have HX9 : Hid (LnX w W8 (fun _ => False) b s2 r d 100000 100000) := hid (HXE.out.out (fun _ h => h.elim))
         clear mE HXE HT HL
         go_wp2_with fail
         refine (HX9.out.rd (fun O F hl => undos_callsL W8 O F b s2 hl (spans_below HS.out HX9.out.bel))).mono ?_
         rintro e w15 ⟨rfl, hx, hbel⟩
         have HX10 := hid hx
         clear hx hbel HX9
         rw [HE2.out.2.1, HE2.out.2.2.1]
         clear look
         go_wp2_with fail
         have fb0 := field_buf0 (.string (bs x)) (.int .i64 (wantM x at0 q : Int))
         have fb1 := field_buf1L (.string (bs x)) (.int .i64 (wantM x at0 q : Int))
         have tq : (x == x) = true := beq_self_eq_true _
         have t1 : ∀ n : Int, (n != n) = false := fun n => bne_self_eq_false n
         have ta := t1 (wantM x at0 q : Int)
         have tb := t1 (nb : Int)
         have tc := t1 (nf : Int)
         have td := t1 (nk : Int)
         clear t1
         generalize wantM x at0 q = wt at *
         refine (HX10.out.rd (fun O F hl => buf_callsL w15 O F b s2 hl (spans_below HS.out HX10.out.bel))).mono ?_
         rintro e w16 ⟨rfl, hx, hbel⟩
         have HX11 := hid hx
         clear hx hbel HX10
         rw [HE2.out.1]
         go_wp2_with fail
         refine (HX11.out.rd (fun O F hl => buf_callsL w16 O F b s2 hl (spans_below HS.out HX11.out.bel))).mono ?_
         rintro e w17 ⟨rfl, hx, hbel⟩
         have HX12 := hid hx
         clear hx hbel HX11
         rw [HE2.out.1]
         go_wp2_with fail
         refine (HX12.out.rd (E := fun e w' => ∃ A c, e = .returned (.slice A s2.ring.l.length c)) (fun O F hl => (kills_callsL w17 O F b s2 hl (spans_below HS.out HX12.out.bel)).mono (fun _ _ hh => by obtain ⟨A, c, e1, e2, e3⟩ := hh; exact ⟨⟨A, c, e1⟩, e3⟩))).mono ?_
         rintro e w18 ⟨⟨Ak8, ck8, rfl⟩, hx, hbel⟩
         have HX13 := hid hx
         clear hx hbel HX12
         rw [HE2.out.2.2.2]
         go_wp2_with fail
         go_roundw
         case rel => exact ⟨k + 1, s2, by omega, by go_num, HX13, hid ⟨by rw [HE2.out.1], HE2.out.2⟩⟩
         case measure => simp [intOf]; omega
      ·obtain rfl : k = zs.length := by omega
       go_wp2_with fail
       refine (lalive_calls wr (spans_below HS.out HX.out.bel)).mono ?_
       rintro e w9 ⟨rfl, hb9⟩
       have HB9 := hid (HX.out.bel.trans (hb9.mono HX.out.bel.size))
       clear hb9
       go_wp2_with fail
       go_ret
       exact ⟨rfl, HB9.out⟩
 ·rw [decide_eq_false hq] at Hfew
  clear hq
  go_enter Tryz.func5, Tryz.ntmps5
  go_wp2_with fail
  refine Hfew.out.mono ?_
  rintro e w1 ⟨rfl, hb1⟩
  have HB1 := hid hb1
  have Hal := hid (lalive_calls w1 (spans_below HS.out hb1))
  clear hb1 Hfew
  go_wp2_with fail
  refine Hal.out.mono ?_
  rintro e w9 ⟨rfl, hb9⟩
  have HB9 := hid (HB1.out.trans (hb9.mono HB1.out.size))
  clear hb9 Hal
  go_wp2
  go_ret
  exact ⟨rfl, HB9.out⟩
end Go.Proofs.YtoaponaljkhlfaaGreatDoor
