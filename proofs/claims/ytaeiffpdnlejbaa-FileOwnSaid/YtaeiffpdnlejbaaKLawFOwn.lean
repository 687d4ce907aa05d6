/-
  The walk of FileOwn (layer 10).
-/
import Derived.Test.YtaeiffpdnlejbaaPa25
namespace Go.Proofs.Ytaeiffpdnlejbaa
open Go Go.RowKit
set_option maxRecDepth 100000

/-- A row of bytes that a call owns: its box of cells. -/
theorem own_box {w : World} {base : Nat} {v : Value} {l : List UInt8} (h : w.ownsRow base 5 1 v l.length (Lib.byteCells l)) (hl : 0 < l.length) : ∃ g c cur, v = .slice (some ⟨g, 0, none⟩) l.length c ∧ base ≤ g ∧ g < w.heap.size ∧ BxA w g 5 cur ∧ cur[0]? = some (.int .u8 ((l.getD 0 0).toNat : Int)) := by
  have hh := h
  rcases h.2 with ⟨_, h0⟩ | ⟨g, cap, cur, rfl, hge, hm, hnc, hcm, hcs, htk⟩
  · omega
  · refine ⟨g, cap, cur.toList, rfl, hge, (Array.getElem?_eq_some_iff.1 hm).1, by simpa [BxA] using hm, ?_⟩
    have h1 := hh.cells (g := g) rfl 0 (.int .u8 ((l.getD 0 0).toNat : Int)) (by simp [Lib.byteCells, hl, List.getD])
    simp [World.cell?, hm, Addr.add] at h1
    simpa using h1
theorem at_own1 (l : List UInt8) (hl : l.length ≤ 1000) : (holeS [l] 1 (-1)).At 1 := by
  have h := FS.At.new.write nA l
  rw [hole_new, hole_write _ _ _ _ (by simp; omega)] at h
  exact h
theorem at_own2 (l : List UInt8) (hl : l.length ≤ 1000) : (FS.mk [⟨nA, l, []⟩] 1 2 (-1) (-1) false).At 2 := by
  have h := (at_own1 l hl).does ⟨1, nA, nA, [], 0, []⟩ (by decide)
  have e : (doF (holeS [l] 1 (-1)) ⟨1, nA, nA, [], 0, []⟩).1 = FS.mk [⟨nA, l, []⟩] 1 2 (-1) (-1) false := own_synced l
  rwa [e] at h
set_option maxHeartbeats 8000000 in
theorem fown_law (A : Option Addr) (c : Nat) (l : List UInt8) (kp : Bool) (w : World) (hB : Byt w A l) (hA : A = none → c = 0) (hl : l.length ≤ 9223372036854775807) :
    Calls Try.prog 9 #[.slice A l.length c, .bool kp] w fun e w' => e = .returned (.bool true) ∧ Below w.heap.size w w' := by
  obtain ⟨i1, hi1, hy0, hy1, hy2⟩ := info_parts info8
  have HB := Lib.hid hB
  have HA := Lib.hid hA
  clear hB hA
  go_enter Try.func9, Try.ntmps9
  go_wp2_with fail
  refine (fnew_calls w).mono ?_
  rintro e w1 ⟨b, rfl, hin⟩
  have HI := Lib.hid hin
  clear hin
  by_cases h1 : l.length < 1
  · have d1 : decide ((l.length : Int) < 1) = true := decide_eq_true (by omega)
    go_wp2_with fail
    refine (falive_calls w1).mono ?_
    rintro e w2 ⟨rfl, hb2⟩
    have HB2 := Lib.hid (HI.out.bel.trans (hb2.mono HI.out.bel.size))
    clear hb2
    go_wp2_with fail
    go_ret
    exact ⟨rfl, HB2.out⟩
  have d1 : decide ((l.length : Int) < 1) = false := decide_eq_false (by omega)
  by_cases h2 : 1000 < l.length
  · have d2 : decide (1000 < (l.length : Int)) = true := decide_eq_true (by omega)
    go_wp2_with fail
    refine (falive_calls w1).mono ?_
    rintro e w2 ⟨rfl, hb2⟩
    have HB2 := Lib.hid (HI.out.bel.trans (hb2.mono HI.out.bel.size))
    clear hb2
    go_wp2_with fail
    go_ret
    exact ⟨rfl, HB2.out⟩
  have d2 : decide (1000 < (l.length : Int)) = false := decide_eq_false (by omega)
  have k4 := HI.out.bel.alloc HI.out.bel.size (.cells #[] 5)
  obtain ⟨v5, w5, hrun5, hown5, hg5⟩ := run_append_byt (P := Try.prog) (w1.alloc (.cells #[] 5)) w1.heap.size 31 31 i1 Try.underlying31 hi1 hy0 hy1 hy2 (.slice (some ⟨w1.heap.size, 0, none⟩) 0 0) [] (own_empty w1 w1.heap.size (Nat.le_refl _)) A c l HA.out (HB.out.below k4) (by simp; omega) (by simp)
  have k45 : Below w1.heap.size w1 w5 := below_own ((Below.refl _ _).alloc (Nat.le_refl _) _) hg5 (own_empty w1 w1.heap.size (Nat.le_refl _)) (Nat.le_refl _) (by simp)
  simp only [List.nil_append] at hown5
  obtain ⟨g5, c5, cur5, rfl, hge5, hlt5, hbx5, hcu5⟩ := own_box hown5 (by omega)
  have hfx := (FX.of_in HI.out).below k45
  have hX5 : XN (fun k => k < w.heap.size) w1 w5 g5 := .inr ⟨hge5, hlt5⟩
  have hY5 : XN (fun _ => False) w1 w5 g5 := .inr ⟨hge5, hlt5⟩
  have hby5 : ByR w5 (XN (fun k => k < w.heap.size) w1 w5) (some ⟨g5, 0, none⟩) l := byR_of_own hown5 (fun g hg => by injection hg with hg; rw [← hg]; exact hX5)
  have hold : ∀ k, k < w.heap.size → XN (fun k => k < w.heap.size) w1 w5 k := fun k h => .inl h
  generalize XN (fun k => k < w.heap.size) w1 w5 = X at *
  generalize XN (fun _ => False) w1 w5 = Y at *
  have Hw := Lib.hid (hfx.step (S2 := holeS [l] 1 (-1)) (E := fun e => e = .returned (.int .i64 0)) fun O D q1 q2 => by
    have := fwrite_calls _ O D b FS.new q1 (FS.At.new.fit (by omega)) nA (some ⟨g5, 0, none⟩) c5 l (hby5.mono fun k hk => (q2 k hk).2) (fun h => by cases h) (by omega)
    rw [hole_new, hole_write _ _ _ _ (by simp; omega)] at this
    exact this)
  have Hr5 := Lib.hid hrun5
  have HX5 := Lib.hid hX5
  have HY5 := Lib.hid hY5
  have Hbx5 := Lib.hid hbx5
  have Hcu5 := Lib.hid hcu5
  have Hge5 : Hid (w.heap.size ≤ g5) := Lib.hid (Nat.le_trans HI.out.bel.size hge5)
  have Hl := Lib.hid h2
  have hpos : (0 : Int) < (l.length : Int) := by omega
  clear hrun5 hown5 hg5 k4 k45 hfx hX5 hY5 hby5 hbx5 hcu5 hge5 hlt5 HI h1 h2
  go_wp2_with (at_builtin; refine wpList_append_g (o := ⟨some 32, _, _, _, _, _⟩) (by kernel_rfl) (.tmp 30) (.tmp 31) 31 rfl _ _ rfl rfl Hr5.out ?_)
  clear Hr5
  go_wp2_with fail
  refine Hw.out.mono ?_
  rintro e w6 ⟨rfl, hf6, ho6⟩
  have hbx6 := Hbx5.out.keep ho6 (fun h => h HX5.out)
  have y0 := hbx6.c 0 Hcu5.out
  have f0 := hbx6.free 0
  have HF6 := Lib.hid hf6
  clear Hw hf6 ho6 Hbx5 hbx6
  generalize l.getD 0 0 = u0 at *
  have HF7 := Lib.hid (FX.wrote (W2 := w6.setCell ⟨g5, 0, none⟩ (.int .u8 (((u0.toNat : Int) + 1) % 256))) HF6.out (only_set w6 ⟨g5, 0, none⟩ _) (fun k h => by rw [h]; exact HY5.out) (fun k h => by rw [h]; exact Hge5.out))
  cases kp
  · go_wp2_with fail
    have HF8 := HF7
    generalize w6.setCell ⟨g5, 0, none⟩ (.int .u8 (((u0.toNat : Int) + 1) % 256)) = W8 at *
    obtain ⟨S, hS⟩ : ∃ S, S = holeS [l] 1 (-1) := ⟨_, rfl⟩
    have HAt : Hid (S.At 2) := Lib.hid (by rw [hS]; exact (at_own1 l (by have := Hl.out; omega)).mono (by omega))
    have Hr : Hid (S.read nA = (l, 0)) := Lib.hid (by rw [hS, hole_read _ _ _ (by simp)]; simp)
    have Hc : Hid ((S.crash [true]).read nA = (l, 0)) := Lib.hid (by rw [hS]; exact own_crash2 l)
    rw [← hS] at HF8
    clear hS HF7 HF6 y0 f0 HX5 HY5 Hcu5
    have hpos2 : (0 : Int) < (l.length : Int) := hpos
    have HRd : Hid (Calls Try.prog 18 #[fp b, .string nA] W8 fun e w' => ∃ u, e = .returned (.tuple #[u, .int .i64 0]) ∧ w'.ownsRow W8.heap.size 5 1 u l.length (Lib.byteCells l) ∧ Below W8.heap.size W8 w') := Lib.hid (by
      obtain ⟨O, D, h⟩ := HF8.out.at_
      have hq := fread_calls W8 O D b _ h (HAt.out.fit (by omega)) nA
      rw [Hr.out] at hq
      exact hq)
    refine HRd.out.mono ?_
    rintro e w9 ⟨u9, rfl, hown9, hb9⟩
    obtain ⟨g9, c9, cur9, rfl, hge9, hlt9, hbx9, hcu9⟩ := own_box hown9 (by omega)
    have hby9 := (byt_of_own hown9).1
    have HF9 := Lib.hid (HF8.out.below hb9)
    have HY9 : Hid (XN Y W8 w9 g9) := Lib.hid (.inr ⟨hge9, hlt9⟩)
    have Hge9 : Hid (w.heap.size ≤ g9) := Lib.hid (Nat.le_trans HF8.out.bel.size hge9)
    have Hbx9 := Lib.hid hbx9
    have Hcu9 := Lib.hid hcu9
    have HBq := Lib.hid (beq_calls (some ⟨g9, 0, none⟩) A c9 c l l w9 hby9 (HB.out.below HF9.out.bel))
    rw [decide_eq_true rfl] at HBq
    clear hown9 hb9 hge9 hlt9 hbx9 hcu9 hby9 HRd HF8 hpos2
    go_wp2_with fail
    refine HBq.out.mono ?_
    rintro e w10 ⟨rfl, hb10⟩
    have HF10 := Lib.hid (HF9.out.below hb10)
    have hbx10 := Hbx9.out.below hb10
    have y9 := hbx10.c 0 Hcu9.out
    have f9 := hbx10.free 0
    have HY10 : Hid (XN (XN Y W8 w9) w9 w10 g9) := Lib.hid (.inl HY9.out)
    generalize l.getD 0 0 = u1 at *
    clear hb10 HBq HF9 HY9 hbx10 Hbx9 Hcu9
    go_wp2_with fail
    have HF11 := Lib.hid (FX.wrote (W2 := w10.setCell ⟨g9, 0, none⟩ (.int .u8 (((u1.toNat : Int) + 1) % 256))) HF10.out (only_set w10 ⟨g9, 0, none⟩ _) (fun k h => by rw [h]; exact HY10.out) (fun k h => by rw [h]; exact Hge9.out))
    have Hs11 : Hid ((w10.setCell ⟨g9, 0, none⟩ (.int .u8 (((u1.toNat : Int) + 1) % 256))).heap.size = w10.heap.size) := Lib.hid (by simp)
    generalize w10.setCell ⟨g9, 0, none⟩ (.int .u8 (((u1.toNat : Int) + 1) % 256)) = w11 at *
    generalize XN (XN X W8 w9) w9 w10 = X11 at HF11
    generalize XN (XN Y W8 w9) w9 w10 = Y11 at HF11
    have HF12 := Lib.hid (HF11.out.below ((Below.refl _ w11).alloc (Nat.le_refl _) (.cells #[.bool true] 4)))
    have hrt := row_true w11 (D := XN X11 w11 (w11.alloc (.cells #[.bool true] 4))) (XN.new (by simp))
    have HCr := Lib.hid (HF12.out.step (S2 := S.crash [true]) (E := fun e => e = .returned (.tuple #[])) fun O D q1 q2 =>
      fcrash_calls _ O D b S q1 (HAt.out.fit (by omega)) (some ⟨w11.heap.size, 0, none⟩) 1 [true] (hrt.mono fun k hk => (q2 k hk).2) (by decide))
    rw [Hs11.out] at HCr
    clear HF11 HF12 hrt y9 f9 HF10 HY10 Hs11
    refine HCr.out.mono ?_
    rintro e w13 ⟨rfl, hf13, _⟩
    have HF13 := Lib.hid hf13
    clear hf13 HCr
    go_wp2_with fail
    have HRd2 : Hid (Calls Try.prog 18 #[fp b, .string nA] w13 fun e w' => ∃ u, e = .returned (.tuple #[u, .int .i64 0]) ∧ w'.ownsRow w13.heap.size 5 1 u l.length (Lib.byteCells l) ∧ Below w13.heap.size w13 w') := Lib.hid (by
      obtain ⟨O, D, h⟩ := HF13.out.at_
      have hq := fread_calls w13 O D b _ h ((HAt.out.crash [true]).fit (by omega)) nA
      rw [Hc.out] at hq
      exact hq)
    refine HRd2.out.mono ?_
    rintro e w14 ⟨u14, rfl, hown14, hb14⟩
    obtain ⟨A14, c14, rfl⟩ := own_form hown14
    have HBy14 := Lib.hid (byt_of_own hown14).1
    have HF14 := Lib.hid (HF13.out.below hb14)
    clear hown14 hb14 HRd2 HF13
    go_wp2_with fail
    refine (falive_calls w14).mono ?_
    rintro e w15 ⟨rfl, hb15⟩
    have HB15 := Lib.hid (HF14.out.bel.trans (hb15.mono HF14.out.bel.size))
    have HBq2 := Lib.hid (beq_calls A14 A c14 c l l w15 (HBy14.out.below hb15) (HB.out.below HB15.out))
    rw [decide_eq_true rfl] at HBq2
    clear hb15 HF14 HBy14
    go_wp2_with fail
    refine HBq2.out.mono ?_
    rintro e w16 ⟨rfl, hb16⟩
    have HB16 := Lib.hid (HB15.out.trans (hb16.mono HB15.out.size))
    clear hb16 HBq2
    go_wp2_with fail
    go_ret
    exact ⟨rfl, HB16.out⟩
  · go_wp2_with fail
    have HSy := Lib.hid (HF7.out.step (S2 := FS.mk [⟨nA, l, []⟩] 1 2 (-1) (-1) false) (E := fun e => ∃ z, e = .returned (.int .i64 z)) fun O D q1 q2 => by
      have hq := fsync_calls _ O D b _ q1 ((at_own1 l (by have := Hl.out; omega)).fit (by omega)) nA
      rw [own_synced] at hq
      exact hq.mono (by rintro e w ⟨h1, h2⟩; exact ⟨⟨_, h1⟩, h2⟩))
    refine HSy.out.mono ?_
    rintro e W8 ⟨⟨z, rfl⟩, hf8, _⟩
    have HF8 := Lib.hid hf8
    obtain ⟨S, hS⟩ : ∃ S, S = FS.mk [⟨nA, l, []⟩] 1 2 (-1) (-1) false := ⟨_, rfl⟩
    have HAt : Hid (S.At 2) := Lib.hid (by rw [hS]; exact at_own2 l (by have := Hl.out; omega))
    have Hr : Hid (S.read nA = (l, 0)) := Lib.hid (by rw [hS]; exact own_read l 1 2)
    have Hc : Hid ((S.crash [true]).read nA = (l, 0)) := Lib.hid (by rw [hS]; exact own_crash l 1 2)
    rw [← hS] at HF8
    clear hS hf8 HSy HF7 HF6 y0 f0 HX5 HY5 Hcu5
    go_wp2_with fail
    have hpos2 : (0 : Int) < (l.length : Int) := hpos
    have HRd : Hid (Calls Try.prog 18 #[fp b, .string nA] W8 fun e w' => ∃ u, e = .returned (.tuple #[u, .int .i64 0]) ∧ w'.ownsRow W8.heap.size 5 1 u l.length (Lib.byteCells l) ∧ Below W8.heap.size W8 w') := Lib.hid (by
      obtain ⟨O, D, h⟩ := HF8.out.at_
      have hq := fread_calls W8 O D b _ h (HAt.out.fit (by omega)) nA
      rw [Hr.out] at hq
      exact hq)
    refine HRd.out.mono ?_
    rintro e w9 ⟨u9, rfl, hown9, hb9⟩
    obtain ⟨g9, c9, cur9, rfl, hge9, hlt9, hbx9, hcu9⟩ := own_box hown9 (by omega)
    have hby9 := (byt_of_own hown9).1
    have HF9 := Lib.hid (HF8.out.below hb9)
    have HY9 : Hid (XN Y W8 w9 g9) := Lib.hid (.inr ⟨hge9, hlt9⟩)
    have Hge9 : Hid (w.heap.size ≤ g9) := Lib.hid (Nat.le_trans HF8.out.bel.size hge9)
    have Hbx9 := Lib.hid hbx9
    have Hcu9 := Lib.hid hcu9
    have HBq := Lib.hid (beq_calls (some ⟨g9, 0, none⟩) A c9 c l l w9 hby9 (HB.out.below HF9.out.bel))
    rw [decide_eq_true rfl] at HBq
    clear hown9 hb9 hge9 hlt9 hbx9 hcu9 hby9 HRd HF8 hpos2
    go_wp2_with fail
    refine HBq.out.mono ?_
    rintro e w10 ⟨rfl, hb10⟩
    have HF10 := Lib.hid (HF9.out.below hb10)
    have hbx10 := Hbx9.out.below hb10
    have y9 := hbx10.c 0 Hcu9.out
    have f9 := hbx10.free 0
    have HY10 : Hid (XN (XN Y W8 w9) w9 w10 g9) := Lib.hid (.inl HY9.out)
    generalize l.getD 0 0 = u1 at *
    clear hb10 HBq HF9 HY9 hbx10 Hbx9 Hcu9
    go_wp2_with fail
    have HF11 := Lib.hid (FX.wrote (W2 := w10.setCell ⟨g9, 0, none⟩ (.int .u8 (((u1.toNat : Int) + 1) % 256))) HF10.out (only_set w10 ⟨g9, 0, none⟩ _) (fun k h => by rw [h]; exact HY10.out) (fun k h => by rw [h]; exact Hge9.out))
    have Hs11 : Hid ((w10.setCell ⟨g9, 0, none⟩ (.int .u8 (((u1.toNat : Int) + 1) % 256))).heap.size = w10.heap.size) := Lib.hid (by simp)
    generalize w10.setCell ⟨g9, 0, none⟩ (.int .u8 (((u1.toNat : Int) + 1) % 256)) = w11 at *
    generalize XN (XN X W8 w9) w9 w10 = X11 at HF11
    generalize XN (XN Y W8 w9) w9 w10 = Y11 at HF11
    have HF12 := Lib.hid (HF11.out.below ((Below.refl _ w11).alloc (Nat.le_refl _) (.cells #[.bool true] 4)))
    have hrt := row_true w11 (D := XN X11 w11 (w11.alloc (.cells #[.bool true] 4))) (XN.new (by simp))
    have HCr := Lib.hid (HF12.out.step (S2 := S.crash [true]) (E := fun e => e = .returned (.tuple #[])) fun O D q1 q2 =>
      fcrash_calls _ O D b S q1 (HAt.out.fit (by omega)) (some ⟨w11.heap.size, 0, none⟩) 1 [true] (hrt.mono fun k hk => (q2 k hk).2) (by decide))
    rw [Hs11.out] at HCr
    clear HF11 HF12 hrt y9 f9 HF10 HY10 Hs11
    refine HCr.out.mono ?_
    rintro e w13 ⟨rfl, hf13, _⟩
    have HF13 := Lib.hid hf13
    clear hf13 HCr
    go_wp2_with fail
    have HRd2 : Hid (Calls Try.prog 18 #[fp b, .string nA] w13 fun e w' => ∃ u, e = .returned (.tuple #[u, .int .i64 0]) ∧ w'.ownsRow w13.heap.size 5 1 u l.length (Lib.byteCells l) ∧ Below w13.heap.size w13 w') := Lib.hid (by
      obtain ⟨O, D, h⟩ := HF13.out.at_
      have hq := fread_calls w13 O D b _ h ((HAt.out.crash [true]).fit (by omega)) nA
      rw [Hc.out] at hq
      exact hq)
    refine HRd2.out.mono ?_
    rintro e w14 ⟨u14, rfl, hown14, hb14⟩
    obtain ⟨A14, c14, rfl⟩ := own_form hown14
    have HBy14 := Lib.hid (byt_of_own hown14).1
    have HF14 := Lib.hid (HF13.out.below hb14)
    clear hown14 hb14 HRd2 HF13
    go_wp2_with fail
    refine (falive_calls w14).mono ?_
    rintro e w15 ⟨rfl, hb15⟩
    have HB15 := Lib.hid (HF14.out.bel.trans (hb15.mono HF14.out.bel.size))
    have HBq2 := Lib.hid (beq_calls A14 A c14 c l l w15 (HBy14.out.below hb15) (HB.out.below HB15.out))
    rw [decide_eq_true rfl] at HBq2
    clear hb15 HF14 HBy14
    go_wp2_with fail
    refine HBq2.out.mono ?_
    rintro e w16 ⟨rfl, hb16⟩
    have HB16 := Lib.hid (HB15.out.trans (hb16.mono HB15.out.size))
    clear hb16 HBq2
    go_wp2_with fail
    go_ret
    exact ⟨rfl, HB16.out⟩
end Go.Proofs.Ytaeiffpdnlejbaa
