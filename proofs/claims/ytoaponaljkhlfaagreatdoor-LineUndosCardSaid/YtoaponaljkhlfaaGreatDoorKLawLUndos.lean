/-
  LineUndos (layer 7).
-/
import Derived.Test.YtoaponaljkhlfaaGreatDoorPz39
namespace Go.Proofs.YtoaponaljkhlfaaGreatDoor
open Go Go.RowKit
open Go.Lib (hid)
set_option maxRecDepth 100000
set_option maxHeartbeats 8000000 in
theorem lundos_calls (A : Option Addr) (c : Nat) (os : List OpL) (w : World) (hO : RdL w A os) (hl : os.length ≤ 9223372036854775807) (hsp : Spans w) :
  Calls Tryz.prog 3 #[.slice A os.length c] w fun e w' => e = .returned (.bool true) ∧ Below w.heap.size w w' := by
 have Hfew := hid (few7_calls A c os w hO hl)
 have HO := hid hO
 have HS := hid hsp
 clear hO hsp
 by_cases hq : os.length ≤ 120 ∧ totL os ≤ 4000
 ·rw [decide_eq_true hq] at Hfew
  have HQ := hid hq
  clear hq
  go_enter Tryz.func3, Tryz.ntmps3
  go_wp2_with fail
  refine Hfew.out.mono ?_
  rintro e w1 ⟨rfl, hb1⟩
  have HB1 := hid hb1
  clear hb1 Hfew
  go_wp2_with fail
  refine (new_callsL w1 (spans_below HS.out HB1.out)).mono ?_
  rintro e w2 ⟨b0, rfl, h2⟩
  have h4 : LnD w w2 b0 LN.new dr0 ds0 0 0 := LnX.start (by
   obtain ⟨O, F, a1, a2, a3⟩ := h2
   exact ⟨O, F, a1, fun k hk => Nat.le_trans HB1.out.size (a2 k hk), HB1.out.trans (a3.mono HB1.out.size)⟩) (LN.new_sm 0)
  have H4 : Hid (LnX w (w2.alloc (.cells #[.string ⟨#[]⟩, .int .i64 0, .slice none 0 0, .slice none 0 0, .bool false, .slice none 0 0, .int .i64 0, .int .i64 0, .int .i64 0, .int .i64 0] 32)) (fun k => k = w2.heap.size) b0 LN.new dr0 ds0 (600 * 0) (600 * 0)) := hid (h4.new ((Below.refl _ w2).alloc (Nat.le_refl _) _) (fun k (hk : k = w2.heap.size) => ⟨by omega, by rw [World.size_alloc]; omega⟩))
  have HB4 : Hid (BxA (w2.alloc (.cells #[.string ⟨#[]⟩, .int .i64 0, .slice none 0 0, .slice none 0 0, .bool false, .slice none 0 0, .int .i64 0, .int .i64 0, .int .i64 0, .int .i64 0] 32)) w2.heap.size 32 (dsK dr0 ds0)) := hid (BxA.new w2 32 dsZ)
  clear h2 h4
  go_wp2_with fail
  go_loopw [3, 23] (fun v3 v23 wr => ∃ (k b : Nat) (s : LN) (r : DR) (d : DS), k ≤ os.length ∧ v23 = .int .i64 (k : Int) ∧ v3 = .pointer (some ⟨b, 0, none⟩) ∧ Hid (LnX w wr (fun k => k = w2.heap.size) b s r d (600 * k) (600 * k)) ∧ Hid (BxA wr w2.heap.size 32 (dsK r d))) (fun _ v23 _ => os.length - (intOf v23).toNat)
  case atStart => exact ⟨0, b0, LN.new, dr0, ds0, Nat.zero_le _, rfl, rfl, H4, HB4⟩
  case round =>
   obtain ⟨k, b, s, r, d, hk, rfl, rfl, hX, hB⟩ := hrel
   clear H4 HB4
   by_cases hlt : k < os.length
   ·obtain ⟨g, og, rfl, hg, e0, e1, e2, e3, _⟩ := (HO.out.below hX.out.bel).at_ hlt
    have Hkb : Hid (k ≤ 120 ∧ (os.getD k OpL.none_).t.size ≤ 100000) := hid ⟨by have := HQ.out.1; omega, by
     have h1 := totL_take os k hlt
     have h2 := totL_mono os (k + 1) os.length (by omega)
     rw [List.take_length] at h2
     have := HQ.out.2
     omega⟩
    have hx5 := hX.out.below ((Below.refl _ wr).alloc (Nat.le_refl _) (.cells #[.int .i64 (os.getD k OpL.none_).k, .int .i64 (os.getD k OpL.none_).q, .string (os.getD k OpL.none_).t, .int .i64 (os.getD k OpL.none_).g] 36))
    have hb5 := hB.out.alloc (.cells #[.int .i64 (os.getD k OpL.none_).k, .int .i64 (os.getD k OpL.none_).q, .string (os.getD k OpL.none_).t, .int .i64 (os.getD k OpL.none_).g] 36)
    have hn5 := BxA.new wr 36 [.int .i64 (os.getD k OpL.none_).k, .int .i64 (os.getD k OpL.none_).q, .string (os.getD k OpL.none_).t, .int .i64 (os.getD k OpL.none_).g]
    have m0 := hn5.c 0 rfl
    have m1 := hn5.c 1 rfl
    have m2 := hn5.c 2 rfl
    have m3 := hn5.c 3 rfl
    have a0 := hb5.c 0 rfl
    have a1 := hb5.c 1 rfl
    have a2 := hb5.c 2 rfl
    have a3 := hb5.c 3 rfl
    have a4 := hb5.c 4 rfl
    have a5 := hb5.c 5 rfl
    have a6 := hb5.c 6 rfl
    have a7 := hb5.c 7 rfl
    have a8 := hb5.c 8 rfl
    have a9 := hb5.c 9 rfl
    have HX5 := hid hx5
    have HB5 := hid hb5
    have Hdo := hid (ldoes_calls w _ (fun k => k = w2.heap.size) b s r d (600 * k) (by have := Hkb.out.1; omega) HS.out (os.getD k OpL.none_) Hkb.out.2 hx5)
    unfold dsV at Hdo
    clear hX hB hx5 hb5 hn5
    generalize os.getD k OpL.none_ = o at *
    have hkl : (k : Int) < (os.length : Int) := by omega
    go_wp2_with fail
    refine Hdo.out.mono ?_
    rintro e w5 ⟨b', r', d', q, rfl, hx, ho⟩
    have hb := HB5.out.keep ho (fun hn => hn rfl)
    clear Hdo HB5 HX5 ho
    clear m0 m1 m2 m3 a0 a1 a2 a3 a4 a5 a6 a7 a8 a9
    have u0 := hb.free 0
    have u1 := hb.free 1
    have u2 := hb.free 2
    have u3 := hb.free 3
    have u4 := hb.free 4
    have u5 := hb.free 5
    have u6 := hb.free 6
    have u7 := hb.free 7
    have u8 := hb.free 8
    have u9 := hb.free 9
    have k0 := hb.c 0 rfl
    have k1 := hb.c 1 rfl
    have k2 := hb.c 2 rfl
    have k3 := hb.c 3 rfl
    have k4 := hb.c 4 rfl
    have k5 := hb.c 5 rfl
    have k6 := hb.c 6 rfl
    have k7 := hb.c 7 rfl
    have k8 := hb.c 8 rfl
    have k9 := hb.c 9 rfl
    obtain ⟨W6, hW6⟩ : ∃ W6, ((((((((((w5.setCell ⟨w2.heap.size, 0, none⟩ (.string (bs d'.now.1))).setCell ⟨w2.heap.size, 1, none⟩ (.int .i64 d'.now.2)).setCell ⟨w2.heap.size, 2, none⟩ (.slice r'.A1 d'.back.length r'.c1)).setCell ⟨w2.heap.size, 3, none⟩ (.slice r'.A2 d'.forth.length r'.c2)).setCell ⟨w2.heap.size, 4, none⟩ (.bool d'.opn)).setCell ⟨w2.heap.size, 5, none⟩ (.slice r'.A3 d'.kills.length r'.c3)).setCell ⟨w2.heap.size, 6, none⟩ (.int .i64 d'.top)).setCell ⟨w2.heap.size, 7, none⟩ (.int .i64 d'.last)).setCell ⟨w2.heap.size, 8, none⟩ (.int .i64 d'.fr)).setCell ⟨w2.heap.size, 9, none⟩ (.int .i64 d'.to_)) = W6 := ⟨_, rfl⟩
    have ho6 : Only (fun i => i = w2.heap.size) w5 W6 := by rw [← hW6]; exact ten_onlyD w5 w2.heap.size r' d'
    have h06 : BxA W6 w2.heap.size 32 [.string (bs d'.now.1), .int .i64 d'.now.2, .slice r'.A1 d'.back.length r'.c1, .slice r'.A2 d'.forth.length r'.c2, .bool d'.opn, .slice r'.A3 d'.kills.length r'.c3, .int .i64 d'.top, .int .i64 d'.last, .int .i64 d'.fr, .int .i64 d'.to_] := by rw [← hW6]; exact ten_boxD hb r' d'
    have HX6 := hid (hx.store rfl ho6)
    have HB6 := hid h06
    clear hx hb ho6 h06
    go_wp2_with fail
    go_roundw
    case rel => exact ⟨k + 1, b', _, r', d', by omega, by go_num, rfl, HX6, HB6⟩
    case measure => simp [intOf]; omega
   ·obtain rfl : k = os.length := by omega
    have HX : Hid (LnX w wr (fun _ => False) b s r d 100000 100000) := hid ((hX.out.out (fun _ h => h.elim)).more (by have := HQ.out.1; omega) (by have := HQ.out.1; omega))
    clear hX hB
    go_wp2_with fail
    refine (HX.out.rd (fun O F hl => undos_callsL wr O F b _ hl (spans_below HS.out HX.out.bel))).mono ?_
    rintro e w6 ⟨rfl, hx, hbel⟩
    have HX6 := hid hx
    have hA : s.At (totB s.log) s.log.back.length s.log.forth.length := ⟨rfl, rfl, rfl⟩
    have hn32 : s.log.back.length + s.log.forth.length ≤ 32 := by have h1 := hx.ok.log.len; have h2 := hx.ok.lim; omega
    clear hx HX hbel
    have HX := HX6
    clear HX6
    generalize totB s.log = T at *
    generalize s.log.back.length = n at *
    generalize s.log.forth.length = f at *
    have HA : Hid (s.At T (n + 0) (f - 0)) := hid hA
    clear hA
    go_wp2_with fail
    go_loopw [42] (fun v42 wr => ∃ (k : Nat) (s : LN), k ≤ f ∧ v42 = .int .i64 (k : Int) ∧ Hid (LnX w wr (fun _ => False) b s r d 100000 100000) ∧ Hid (s.At T (n + k) (f - k))) (fun v42 _ => f - (intOf v42).toNat)
    case atStart => exact ⟨0, s, Nat.zero_le _, rfl, HX, HA⟩
    case round =>
     clear HX HA
     obtain ⟨k, s, hk, rfl, HX, HA⟩ := hrel
     by_cases hlt : k < f
     ·have hkl : (k : Int) < ((f : Nat) : Int) := by omega
      go_wp2_with fail
      refine (HX.out.line (LN.key_sm0 HX.out.sm 18 [] rfl) (fun O F hl => key_callsL wr O F b s hl (spans_below HS.out HX.out.bel) 18 [] (by simp) (HX.out.sm.mono (by omega)))).mono ?_
      rintro e w7 ⟨rfl, hx, ho⟩
      have HX7 := hid hx
      have HA7 : Hid ((s.key 18 []).At T (n + (k + 1)) (f - (k + 1))) := hid (by
       have h := HA.out
       rw [show f - k = f - (k + 1) + 1 by omega] at h
       exact h.redo)
      clear hx ho HX HA
      go_wp2_with fail
      go_roundw
      case rel => exact ⟨k + 1, _, by omega, by go_num, HX7, HA7⟩
      case measure => simp [intOf]; omega
     ·obtain rfl : f = k := by omega
      go_wp2_with fail
      have hbuf := HA.out.buf
      refine (HX.out.rd (fun O F hl => buf_callsL _ O F b s hl (spans_below HS.out HX.out.bel))).mono ?_
      rintro e w8 ⟨rfl, hx, hbel⟩
      generalize hxb : s.buf = x at *
      obtain ⟨xs, xa⟩ := x
      have HA8 : Hid (s.At T (n + f) 0) := hid (by have := HA.out; rw [Nat.sub_self] at this; exact this)
      have HT : Hid (T[n + f]? = some (xs, xa)) := hid hbuf
      have HX8 : Hid (LnX w (w8.alloc (.cells #[.string (bs xs), .int .i64 (xa : Int)] 43)) (fun k => k = w8.heap.size) b s r d 100000 100000) := hid (hx.new ((Below.refl _ w8).alloc (Nat.le_refl _) _) (fun k (hk : k = w8.heap.size) => ⟨by omega, by rw [World.size_alloc]; omega⟩))
      have HQ8 : Hid (BxA (w8.alloc (.cells #[.string (bs xs), .int .i64 (xa : Int)] 43)) w8.heap.size 43 [.string (bs xs), .int .i64 (xa : Int)]) := hid (BxA.new w8 43 _)
      clear hx hbel hbuf HX HA hxb hlt
      have HX := HX8
      have HA := HA8
      clear HX8 HA8
      go_wp2_with fail
      refine (HX.out.rd (fun O F hl => undos_callsL _ O F b _ hl (spans_below HS.out HX.out.bel))).mono ?_
      rintro e w9 ⟨rfl, hx, hbel⟩
      rw [HA.out.back, HA.out.forth]
      have HX9 := hid hx
      have HA9 : Hid (s.At T (n + f - 0) 0) := HA
      have HQ9 := hid (HQ8.out.below hbel)
      clear hx hbel HX HQ8 HA
      have HX := HX9
      have HA := HA9
      have HQ8 := HQ9
      clear HX9 HA9 HQ9
      have hN : n + f ≤ 32 := hn32
      generalize n + f = N at *
      go_wp2_with fail
      go_loopw [56] (fun v56 wr => ∃ (k : Nat) (s : LN), k ≤ N ∧ v56 = .int .i64 (k : Int) ∧ Hid (LnX w wr (fun k => k = w8.heap.size) b s r d 100000 100000) ∧ Hid (s.At T (N - k) k) ∧ Hid (BxA wr w8.heap.size 43 [.string (bs xs), .int .i64 (xa : Int)])) (fun v56 _ => N - (intOf v56).toNat)
      case atStart => exact ⟨0, s, Nat.zero_le _, rfl, HX, HA, HQ8⟩
      case round =>
       clear HX HA HQ8
       obtain ⟨k, s, hk, rfl, HX, HA, HQ8⟩ := hrel
       by_cases hlt : k < N
       ·have hkl : (k : Int) < ((N : Nat) : Int) := by omega
        go_wp2_with fail
        refine (HX.out.line (LN.key_sm0 HX.out.sm 17 [] rfl) (fun O F hl => key_callsL wr O F b s hl (spans_below HS.out HX.out.bel) 17 [] (by simp) (HX.out.sm.mono (by omega)))).mono ?_
        rintro e w7 ⟨rfl, hx, ho⟩
        have HX7 := hid hx
        have HA7 : Hid ((s.key 17 []).At T (N - (k + 1)) (k + 1)) := hid (by
         have h := HA.out
         rw [show N - k = N - (k + 1) + 1 by omega] at h
         exact h.undo)
        have HQ87 : Hid (BxA w7 w8.heap.size 43 [.string (bs xs), .int .i64 (xa : Int)]) := hid (HQ8.out.keep ho (fun hn => hn rfl))
        clear hx ho HX HA HQ8
        go_wp2_with fail
        go_roundw
        case rel => exact ⟨k + 1, _, by omega, by go_num, HX7, HA7, HQ87⟩
        case measure => simp [intOf]; omega
       ·obtain rfl : N = k := by omega
        go_wp2_with fail
        refine (HX.out.rd (fun O F hl => undos_callsL _ O F b _ hl (spans_below HS.out HX.out.bel))).mono ?_
        rintro e w9 ⟨rfl, hx, hbel⟩
        rw [HA.out.back, HA.out.forth, Nat.sub_self]
        have HX9 := hid hx
        have HA9 : Hid (s.At T (0 + 0) (N - 0)) := hid (by have := HA.out; rw [Nat.sub_self] at this; exact this)
        have HQ9 := hid (HQ8.out.below hbel)
        clear hx hbel HX HQ8 HA hlt hk
        have HX := HX9
        have HA := HA9
        have HQ8 := HQ9
        clear HX9 HA9 HQ9
        go_wp2_with fail
        go_loopw [68] (fun v68 wr => ∃ (k : Nat) (s : LN), k ≤ N ∧ v68 = .int .i64 (k : Int) ∧ Hid (LnX w wr (fun k => k = w8.heap.size) b s r d 100000 100000) ∧ Hid (s.At T (0 + k) (N - k)) ∧ Hid (BxA wr w8.heap.size 43 [.string (bs xs), .int .i64 (xa : Int)])) (fun v68 _ => N - (intOf v68).toNat)
        case atStart => exact ⟨0, s, Nat.zero_le _, rfl, HX, HA, HQ8⟩
        case round =>
         clear HX HA HQ8
         obtain ⟨k, s, hk, rfl, HX, HA, HQ8⟩ := hrel
         by_cases hlt : k < N
         ·have hkl : (k : Int) < ((N : Nat) : Int) := by omega
          go_wp2_with fail
          refine (HX.out.line (LN.key_sm0 HX.out.sm 18 [] rfl) (fun O F hl => key_callsL wr O F b s hl (spans_below HS.out HX.out.bel) 18 [] (by simp) (HX.out.sm.mono (by omega)))).mono ?_
          rintro e w7 ⟨rfl, hx, ho⟩
          have HX7 := hid hx
          have HA7 : Hid ((s.key 18 []).At T (0 + (k + 1)) (N - (k + 1))) := hid (by
           have h := HA.out
           rw [show N - k = N - (k + 1) + 1 by omega] at h
           exact h.redo)
          have HQ87 : Hid (BxA w7 w8.heap.size 43 [.string (bs xs), .int .i64 (xa : Int)]) := hid (HQ8.out.keep ho (fun hn => hn rfl))
          clear hx ho HX HA HQ8
          go_wp2_with fail
          go_roundw
          case rel => exact ⟨k + 1, _, by omega, by go_num, HX7, HA7, HQ87⟩
          case measure => simp [intOf]; omega
         ·obtain rfl : N = k := by omega
          have hF : s.buf = (xs, xa) := by
           have h1 := HA.out.buf
           rw [Nat.zero_add, HT.out] at h1
           exact (Option.some.inj h1).symm
          have HF := hid hF
          have q1 := eqT (bs xs) (xa : Int)
          clear hF
          go_wp2_with fail
          refine wp_region_held_drew (S := (fun w' => w'.cell? ⟨w8.heap.size, 0, none⟩ = some (.string (bs xs)) ∧ w'.cell? ⟨w8.heap.size, 1, none⟩ = some (.int .i64 (xa : Int)))) (by kernel_rfl) ⟨HQ8.out.c 0 rfl, HQ8.out.c 1 rfl⟩ (fun hHeld => ?_)
          refine rdH 0 fun K hK => ?_
          go_simp
          refine (lalive_calls _ (spans_below HS.out (HX.out.bel.trans ((Below.drewR).mono HX.out.bel.size)))).mono ?_
          rintro e w10 ⟨rfl, hb10⟩
          have HQ10 := hid (HQ8.out.drw.below hb10)
          have HX10 := hid ((HX.out.below Below.drewR).below hb10)
          clear hb10
          refine hK.out _ _ ⟨HQ10.out.c 0 rfl, HQ10.out.c 1 rfl⟩ (fun hHeld => ?_)
          clear hK K
          refine tkH 1 ?_
          refine tkH 2 ?_
          refine tkH 3 ?_
          refine tkH 4 ?_
          refine tkH 5 ?_
          refine tkH 6 ?_
          refine tkH 7 ?_
          refine tkH 8 ?_
          refine tkH 9 ?_
          refine tkH 10 ?_
          refine tkH 11 ?_
          refine tkH 13 ?_
          refine rdH 12 fun K hK => ?_
          go_simp
          refine (HX10.out.rd (fun O F hl => buf_callsL _ O F b _ hl (spans_below HS.out HX10.out.bel))).mono ?_
          rintro e w11 ⟨rfl, hx11, hb11⟩
          have HQ11 := hid (HQ10.out.below hb11)
          have HX11 := hid hx11
          rw [HF.out]
          clear hx11 hb11
          refine hK.out _ _ ⟨HQ11.out.c 0 rfl, HQ11.out.c 1 rfl⟩ (fun hHeld => ?_)
          clear hK K
          refine tkH 14 ?_
          refine tkH 15 ?_
          refine tkH 16 ?_
          refine wpAnyH_done (by kernel_rfl) ?_ _
          go_wp2_with fail
          go_ret
          exact ⟨rfl, HX11.out.bel⟩
 ·rw [decide_eq_false hq] at Hfew
  clear hq
  go_enter Tryz.func3, Tryz.ntmps3
  go_wp2_with fail
  refine Hfew.out.mono ?_
  rintro e w1 ⟨rfl, hb1⟩
  have HB1 := hid hb1
  have Hal := hid (lalive_calls w1 (spans_below HS.out hb1))
  clear hb1 Hfew
  go_wp2_with fail
  refine Hal.out.mono ?_
  rintro e w9 ⟨rfl, hb9⟩
  have HB9 := hid (HB1.out.trans (hb9.mono HB1.out.size))
  clear hb9 Hal
  go_wp2
  go_ret
  exact ⟨rfl, HB9.out⟩
end Go.Proofs.YtoaponaljkhlfaaGreatDoor
