/-
  Layer 7 and what it stands on, part 33 (LnK LnL LnM LnN).
-/
import Derived.Test.YtoaponaljkhlfaaDoorPk32
namespace Go.Proofs.YtoaponaljkhlfaaDoor
section
open Go Go.RowKit
set_option maxRecDepth 100000
section
variable (w : World) (O F : Nat → Prop) (b : Nat) (s : LN)
theorem boxD (w : World) : ∃ W2, w.alloc (.cells #[.int .i64 0, .int .i64 0, .int .i64 0] 49) = W2 ∧ Below w.heap.size w W2 ∧ W2.heap.size = w.heap.size + 1 ∧ BxA W2 w.heap.size 49 [.int .i64 0, .int .i64 0, .int .i64 0] :=
  ⟨_, rfl, (Below.refl _ w).alloc (Nat.le_refl _) _, World.size_alloc _ _, BxA.new w 49 [.int .i64 0, .int .i64 0, .int .i64 0]⟩
set_option maxHeartbeats 2000000 in
theorem kill_callsL (h : LineL w O F b s) (hsp : Spans w) (hB : SmR s.ring 1000000) (f t : Nat) (hf : IsB s.buf.1 f) (ht : IsB s.buf.1 t) (ahead : Bool) :
    Calls Tryd.prog 90 #[.pointer (some ⟨b, 0, none⟩), .int .i64 (f : Int), .int .i64 (t : Int), .func (.func (joinF ahead)) #[] #[]] w fun e w' => e = .returned (dV .kill) ∧ ToLn w O F w' b ⟨(s.cut f t).log, LN.killed s.ring s.last ahead (s.gone f t), s.last⟩ := by
  obtain ⟨W2, hW2, hB2, hs2, hd2⟩ := boxD w
  have HB2 := Lib.hid hB2
  have HN2 := Lib.hid hs2
  have HD2 := Lib.hid hd2
  have H := Lib.hid h
  have H2 := Lib.hid (objLn.below h hB2)
  have HS := Lib.hid hsp
  have hrt := (line_ok h).rt.1
  have hl6 : s.buf.1.length ≤ 137438953472 := Nat.le_trans hrt.2.1 (by decide)
  have e1 : mS s.buf.1 = s.buf.1 := hrt.make.1
  have e2 : mA s.buf.1 s.buf.2 = s.buf.2 := hrt.make.2
  have e3 : backL s.buf.1 (f : Int) = f := hf.back
  have e4 : backL s.buf.1 (t : Int) = t := ht.back
  have HC := Lib.hid (fun W hS => cutT_calls s.buf.1 s.buf.2 (f : Int) (t : Int) hl6 W hS)
  rw [e1, e2, e3, e4] at HC
  have HR : Hid (Rt (cutR s.buf.1 s.buf.2 f t).1 (cutR s.buf.1 s.buf.2 f t).2.1) := Lib.hid (LN.cutR_rt (line_ok h).rt.1 hf ht)
  have HG : Hid ((cutR s.buf.1 s.buf.2 f t).2.2.length ≤ 600) := Lib.hid (LN.gone_le (line_ok h) f t)
  have hcl : (s.cut f t).log = wrG s.log ((cutR s.buf.1 s.buf.2 f t).1, (cutR s.buf.1 s.buf.2 f t).2.1) 0 := rfl
  have hcg : s.gone f t = (cutR s.buf.1 s.buf.2 f t).2.2 := rfl
  rw [hcl, hcg]
  have HSm := Lib.hid hB
  clear h hsp hB2 hs2 hd2 hrt hl6 e1 e2 e3 e4 hf ht hcl hcg hB
  generalize cutR s.buf.1 s.buf.2 f t = c at *
  obtain ⟨cs, ca, cg⟩ := c
  dsimp only at HC HR HG ⊢
  go_enter Tryd.func90, Tryd.ntmps90
  go_wp2_with fail
  refine (buf_callsL W2 O F b s H2.out (spans_below HS.out HB2.out)).mono ?_
  rintro e w3 ⟨rfl, hb3⟩
  have HB3 := Lib.hid hb3
  clear hb3
  go_wp2_with fail
  refine (HC.out w3 (spans_below HS.out (HB2.out.trans (HB3.out.mono HB2.out.size)))).mono ?_
  rintro e w4 ⟨rfl, hb4⟩
  have hb4' := HB3.out.trans (hb4.mono HB3.out.size)
  have x3 := Bx.new w4 23 (.string ⟨#[]⟩) (.int .i64 0)
  have f0 := x3.f0
  have f1 := x3.f1
  have g0 := x3.c0
  have g1 := x3.c1
  have x4 := Bx.new w4 23 (.string (bs cs)) (.int .i64 (ca : Int))
  have hb5 := hb4'.alloc hb4'.size (.cells #[.string (bs cs), .int .i64 (ca : Int)] 23)
  obtain ⟨W4, hW4⟩ : ∃ W4, w4.alloc (.cells #[.string (bs cs), .int .i64 (ca : Int)] 23) = W4 := ⟨_, rfl⟩
  rw [hW4] at x4 hb5
  have y0 := x4.c0
  have y1 := x4.c1
  have HB5 := Lib.hid hb5
  clear x3 x4 hb5 hb4 hb4' HC
  go_wp2_with fail
  refine (write_callsL W4 O F b s (objLn.below H2.out HB5.out) (cs, ca) HR.out).mono ?_
  rintro e w8 ⟨rfl, ht⟩
  by_cases hg : cg = []
  · subst hg
    have hq : (bs ([] : List UInt8)) = (⟨#[]⟩ : ByteArray) := rfl
    have hf := fin3 H.out HB2.out (Nat.le_refl _) (by have := HN2.out; omega) HD2.out HB5.out ht
    have HF := Lib.hid hf.2
    have hd9 := hf.1
    have q0 := hd9.c 0 rfl
    have q1 := hd9.c 1 rfl
    have q2 := hd9.c 2 rfl
    have p0 := hd9.free 0
    have p1 := hd9.free 1
    have p2 := hd9.free 2
    have HD9 := Lib.hid hd9
    clear hf hd9
    go_wp2_with fail
    refine bodyPost_ret (results_bx3 rfl _ _ (w.heap.size) _ _ _ 49 rfl (three_box HD9.out _ _ _) Tryd.underlying49 (szD _)) rfl ?_
    exact ⟨rfl, by rw [show LN.killed s.ring s.last ahead [] = s.ring from if_pos rfl]; exact HF.out _ _ _⟩
  · have hge : cg.isEmpty = false := by cases cg with
      | nil => exact absurd rfl hg
      | cons x l => rfl
    have HT := Lib.hid ht
    clear ht
    go_wp2_with fail
    obtain ⟨O8, F8, a1, a2⟩ := HT.out
    refine (keep_callsL w8 O8 F8 b _ a1 cg hg HG.out HSm.out ahead).mono ?_
    rintro e w9 ⟨rfl, ht9⟩
    have ht10 : ToLn W4 O F w9 b ⟨wrG s.log (cs, ca) 0, LN.killed s.ring s.last ahead cg, s.last⟩ := StepF.tom a2 ht9
    have hf := fin3 H.out HB2.out (Nat.le_refl _) (by have := HN2.out; omega) HD2.out HB5.out ht10
    have HF := Lib.hid hf.2
    have hd9 := hf.1
    have q0 := hd9.c 0 rfl
    have q1 := hd9.c 1 rfl
    have q2 := hd9.c 2 rfl
    have p0 := hd9.free 0
    have p1 := hd9.free 1
    have p2 := hd9.free 2
    have HD9 := Lib.hid hd9
    clear hf hd9
    go_wp2_with fail
    refine bodyPost_ret (results_bx3 rfl _ _ (w.heap.size) _ _ _ 49 rfl (three_box HD9.out _ _ _) Tryd.underlying49 (szD _)) rfl ?_
    exact ⟨rfl, HF.out _ _ _⟩
theorem field_buf1L (a b : Value) : ∀ W : World, (Instr.field 23 (.agg #[a, b]) 1).run Tryd.prog W = .ok b W := fun W => by kernel_rfl
theorem killTo_callsL (h : LineL w O F b s) (hsp : Spans w) (hB : SmR s.ring 1000000) (t : Nat) (hq : IsB s.buf.1 t) :
    Calls Tryd.prog 75 #[.pointer (some ⟨b, 0, none⟩), .int .i64 (t : Int)] w fun e w' => e = .returned (dV .kill) ∧ ToLn w O F w' b ⟨(s.cut s.buf.2 t).log, LN.killed s.ring s.last false (s.gone s.buf.2 t), s.last⟩ := by
  obtain ⟨W2, hW2, hB2, hs2, hd2⟩ := boxD w
  have HB2 := Lib.hid hB2
  have HN2 := Lib.hid hs2
  have HD2 := Lib.hid hd2
  have H := Lib.hid h
  have H2 := Lib.hid (objLn.below h hB2)
  have HS := Lib.hid hsp
  have hat : IsB s.buf.1 s.buf.2 := (line_ok h).rt.1.2.2
  have HK := Lib.hid (fun W O' F' (h' : LineL W O' F' b s) hS => kill_callsL W O' F' b s h' hS hB s.buf.2 t hat hq false)
  rw [show joinF false = 91 from rfl] at HK
  have fb := field_buf1L (.string (bs s.buf.1)) (.int .i64 (s.buf.2 : Int))
  clear h hsp hB2 hs2 hd2 hq hat hB
  go_enter Tryd.func75, Tryd.ntmps75
  go_wp2_with fail
  refine (buf_callsL W2 O F b s H2.out (spans_below HS.out HB2.out)).mono ?_
  rintro e w3 ⟨rfl, hb3⟩
  have HB3 := Lib.hid hb3
  clear hb3
  go_wp2_with fail
  refine (HK.out w3 O F (objLn.below H2.out HB3.out) (spans_below HS.out (HB2.out.trans (HB3.out.mono HB2.out.size)))).mono ?_
  rintro e w8 ⟨rfl, ht⟩
  have hf := fin3 H.out HB2.out (Nat.le_refl _) (by have := HN2.out; omega) HD2.out HB3.out ht
  have HF := Lib.hid hf.2
  have hd9 := hf.1
  have q0 := hd9.c 0 rfl
  have q1 := hd9.c 1 rfl
  have q2 := hd9.c 2 rfl
  have p0 := hd9.free 0
  have p1 := hd9.free 1
  have p2 := hd9.free 2
  have HD9 := Lib.hid hd9
  clear hf hd9
  go_wp2_with fail
  refine bodyPost_ret (results_bx3 rfl _ _ (w.heap.size) _ _ _ 49 rfl (three_box HD9.out _ _ _) Tryd.underlying49 (szD _)) rfl ?_
  exact ⟨rfl, HF.out _ _ _⟩
theorem killFrom_callsL (h : LineL w O F b s) (hsp : Spans w) (hB : SmR s.ring 1000000) (f : Nat) (hq : IsB s.buf.1 f) :
    Calls Tryd.prog 76 #[.pointer (some ⟨b, 0, none⟩), .int .i64 (f : Int)] w fun e w' => e = .returned (dV .kill) ∧ ToLn w O F w' b ⟨(s.cut f s.buf.2).log, LN.killed s.ring s.last true (s.gone f s.buf.2), s.last⟩ := by
  obtain ⟨W2, hW2, hB2, hs2, hd2⟩ := boxD w
  have HB2 := Lib.hid hB2
  have HN2 := Lib.hid hs2
  have HD2 := Lib.hid hd2
  have H := Lib.hid h
  have H2 := Lib.hid (objLn.below h hB2)
  have HS := Lib.hid hsp
  have hat : IsB s.buf.1 s.buf.2 := (line_ok h).rt.1.2.2
  have HK := Lib.hid (fun W O' F' (h' : LineL W O' F' b s) hS => kill_callsL W O' F' b s h' hS hB f s.buf.2 hq hat true)
  rw [show joinF true = 92 from rfl] at HK
  have fb := field_buf1L (.string (bs s.buf.1)) (.int .i64 (s.buf.2 : Int))
  clear h hsp hB2 hs2 hd2 hq hat hB
  go_enter Tryd.func76, Tryd.ntmps76
  go_wp2_with fail
  refine (buf_callsL W2 O F b s H2.out (spans_below HS.out HB2.out)).mono ?_
  rintro e w3 ⟨rfl, hb3⟩
  have HB3 := Lib.hid hb3
  clear hb3
  go_wp2_with fail
  refine (HK.out w3 O F (objLn.below H2.out HB3.out) (spans_below HS.out (HB2.out.trans (HB3.out.mono HB2.out.size)))).mono ?_
  rintro e w8 ⟨rfl, ht⟩
  have hf := fin3 H.out HB2.out (Nat.le_refl _) (by have := HN2.out; omega) HD2.out HB3.out ht
  have HF := Lib.hid hf.2
  have hd9 := hf.1
  have q0 := hd9.c 0 rfl
  have q1 := hd9.c 1 rfl
  have q2 := hd9.c 2 rfl
  have p0 := hd9.free 0
  have p1 := hd9.free 1
  have p2 := hd9.free 2
  have HD9 := Lib.hid hd9
  clear hf hd9
  go_wp2_with fail
  refine bodyPost_ret (results_bx3 rfl _ _ (w.heap.size) _ _ _ 49 rfl (three_box HD9.out _ _ _) Tryd.underlying49 (szD _)) rfl ?_
  exact ⟨rfl, HF.out _ _ _⟩
end
end
section
open Go Go.RowKit
set_option maxRecDepth 100000
section
variable (w : World) (O F : Nat → Prop) (b : Nat) (s : LN)
set_option maxHeartbeats 2000000 in
theorem act_killEnd (k0 : Int) (t : ByteArray) (h : LineL w O F b s) (hsp : Spans w) (hB : SmR s.ring 1000000) :
    Calls Tryd.prog 51 #[.pointer (some ⟨b, 0, none⟩), .agg #[.int .i64 k0, .string t]] w fun e w' => e = .returned (dV .kill) ∧ ToLn w O F w' b ⟨(s.cut s.buf.2 s.buf.1.length).log, LN.killed s.ring s.last false (s.gone s.buf.2 s.buf.1.length), s.last⟩ := by
  obtain ⟨W2, hW2, hB2, hs2, hk2, hd2⟩ := boxesA w k0 t
  have HB2 := Lib.hid hB2
  have HN2 := Lib.hid hs2
  have HD2 := Lib.hid hd2
  have H := Lib.hid h
  have H2 := Lib.hid (objLn.below h hB2)
  have HS := Lib.hid hsp
  have hrt := (line_ok h).rt.1
  have hl6 : s.buf.1.length ≤ 137438953472 := Nat.le_trans hrt.2.1 (by decide)
  have e1 : mS s.buf.1 = s.buf.1 := hrt.make.1
  have e2 : mA s.buf.1 s.buf.2 = s.buf.2 := hrt.make.2
  have HK := Lib.hid (fun W O' F' (h' : LineL W O' F' b s) hS => killTo_callsL W O' F' b s h' hS hB _ (isB_all _))
  have hsz := bs_size s.buf.1
  have fb := field_buf0L (.string (bs s.buf.1)) (.int .i64 (s.buf.2 : Int))
  clear hB h hsp hB2 hs2 hk2 hd2 hrt hl6 e1 e2
  go_enter Tryd.func51, Tryd.ntmps51
  go_wp2_with fail
  refine (buf_callsL W2 O F b s H2.out (spans_below HS.out HB2.out)).mono ?_
  rintro e w3 ⟨rfl, hb3⟩
  have HB3 := Lib.hid hb3
  clear hb3
  go_wp2_with fail
  refine (HK.out w3 O F (objLn.below H2.out HB3.out) (spans_below HS.out (HB2.out.trans (HB3.out.mono HB2.out.size)))).mono ?_
  rintro e w8 ⟨rfl, ht⟩
  have hf := fin3 H.out HB2.out (Nat.le_add_right _ 1) (by have := HN2.out; omega) HD2.out HB3.out ht
  have HF := Lib.hid hf.2
  have hd9 := hf.1
  have q0 := hd9.c 0 rfl
  have q1 := hd9.c 1 rfl
  have q2 := hd9.c 2 rfl
  have p0 := hd9.free 0
  have p1 := hd9.free 1
  have p2 := hd9.free 2
  have HD9 := Lib.hid hd9
  clear hf hd9
  go_wp2_with fail
  refine bodyPost_ret (results_bx3 rfl _ _ (w.heap.size + 1) _ _ _ 49 rfl (three_box HD9.out _ _ _) Tryd.underlying49 (szD _)) rfl ?_
  exact ⟨rfl, HF.out _ _ _⟩
set_option maxHeartbeats 2000000 in
theorem act_killWord (k0 : Int) (t : ByteArray) (h : LineL w O F b s) (hsp : Spans w) (hB : SmR s.ring 1000000) :
    Calls Tryd.prog 52 #[.pointer (some ⟨b, 0, none⟩), .agg #[.int .i64 k0, .string t]] w fun e w' => e = .returned (dV .kill) ∧ ToLn w O F w' b ⟨(s.cut s.buf.2 (wrL s.buf.1 s.buf.2)).log, LN.killed s.ring s.last false (s.gone s.buf.2 (wrL s.buf.1 s.buf.2)), s.last⟩ := by
  obtain ⟨W2, hW2, hB2, hs2, hk2, hd2⟩ := boxesA w k0 t
  have HB2 := Lib.hid hB2
  have HN2 := Lib.hid hs2
  have HD2 := Lib.hid hd2
  have H := Lib.hid h
  have H2 := Lib.hid (objLn.below h hB2)
  have HS := Lib.hid hsp
  have hrt := (line_ok h).rt.1
  have hl6 : s.buf.1.length ≤ 137438953472 := Nat.le_trans hrt.2.1 (by decide)
  have e1 : mS s.buf.1 = s.buf.1 := hrt.make.1
  have e2 : mA s.buf.1 s.buf.2 = s.buf.2 := hrt.make.2
  have HQ := Lib.hid (fun W hS => wordRight_calls s.buf.1 s.buf.2 hl6 W hS)
  rw [e1, e2] at HQ
  have HK := Lib.hid (fun W O' F' (h' : LineL W O' F' b s) hS => killTo_callsL W O' F' b s h' hS hB (wrL s.buf.1 s.buf.2) hrt.wr)
  clear hB h hsp hB2 hs2 hk2 hd2 hrt hl6 e1 e2
  go_enter Tryd.func52, Tryd.ntmps52
  go_wp2_with fail
  refine (buf_callsL W2 O F b s H2.out (spans_below HS.out HB2.out)).mono ?_
  rintro e w3 ⟨rfl, hb3⟩
  have x3 := Bx.new w3 23 (.string ⟨#[]⟩) (.int .i64 0)
  have f0 := x3.f0
  have f1 := x3.f1
  have g0 := x3.c0
  have g1 := x3.c1
  have x4 := Bx.new w3 23 (.string (bs s.buf.1)) (.int .i64 (s.buf.2 : Int))
  have hb4 := hb3.alloc hb3.size (.cells #[.string (bs s.buf.1), .int .i64 (s.buf.2 : Int)] 23)
  obtain ⟨W4, hW4⟩ : ∃ W4, w3.alloc (.cells #[.string (bs s.buf.1), .int .i64 (s.buf.2 : Int)] 23) = W4 := ⟨_, rfl⟩
  rw [hW4] at x4 hb4
  have y0 := x4.c0
  have y1 := x4.c1
  have HB4 := Lib.hid hb4
  clear x3 x4 hb4
  go_wp2_with fail
  refine (HQ.out W4 (spans_below HS.out (HB2.out.trans (HB4.out.mono HB2.out.size)))).mono ?_
  rintro e w5 ⟨rfl, hb5⟩
  have HB5 := Lib.hid (HB4.out.trans (hb5.mono HB4.out.size))
  clear hb5 HQ y0 y1
  go_wp2_with fail
  refine (HK.out w5 O F (objLn.below H2.out HB5.out) (spans_below HS.out (HB2.out.trans (HB5.out.mono HB2.out.size)))).mono ?_
  rintro e w8 ⟨rfl, ht⟩
  have hf := fin3 H.out HB2.out (Nat.le_add_right _ 1) (by have := HN2.out; omega) HD2.out HB5.out ht
  have HF := Lib.hid hf.2
  have hd9 := hf.1
  have q0 := hd9.c 0 rfl
  have q1 := hd9.c 1 rfl
  have q2 := hd9.c 2 rfl
  have p0 := hd9.free 0
  have p1 := hd9.free 1
  have p2 := hd9.free 2
  have HD9 := Lib.hid hd9
  clear hf hd9
  go_wp2_with fail
  refine bodyPost_ret (results_bx3 rfl _ _ (w.heap.size + 1) _ _ _ 49 rfl (three_box HD9.out _ _ _) Tryd.underlying49 (szD _)) rfl ?_
  exact ⟨rfl, HF.out _ _ _⟩
set_option maxHeartbeats 2000000 in
theorem act_killStart (k0 : Int) (t : ByteArray) (h : LineL w O F b s) (hsp : Spans w) (hB : SmR s.ring 1000000) :
    Calls Tryd.prog 53 #[.pointer (some ⟨b, 0, none⟩), .agg #[.int .i64 k0, .string t]] w fun e w' => e = .returned (dV .kill) ∧ ToLn w O F w' b ⟨(s.cut 0 s.buf.2).log, LN.killed s.ring s.last true (s.gone 0 s.buf.2), s.last⟩ := by
  obtain ⟨W2, hW2, hB2, hs2, hk2, hd2⟩ := boxesA w k0 t
  have HB2 := Lib.hid hB2
  have HN2 := Lib.hid hs2
  have HD2 := Lib.hid hd2
  have H := Lib.hid h
  have H2 := Lib.hid (objLn.below h hB2)
  have HS := Lib.hid hsp
  have hrt := (line_ok h).rt.1
  have hl6 : s.buf.1.length ≤ 137438953472 := Nat.le_trans hrt.2.1 (by decide)
  have e1 : mS s.buf.1 = s.buf.1 := hrt.make.1
  have e2 : mA s.buf.1 s.buf.2 = s.buf.2 := hrt.make.2
  have HK := Lib.hid (fun W O' F' (h' : LineL W O' F' b s) hS => killFrom_callsL W O' F' b s h' hS hB 0 (isB_zero _))
  clear hB h hsp hB2 hs2 hk2 hd2 hrt hl6 e1 e2
  go_enter Tryd.func53, Tryd.ntmps53
  go_wp2_with fail
  refine (HK.out W2 O F (objLn.below H2.out (Below.refl _ W2)) (spans_below HS.out (HB2.out.trans ((Below.refl _ W2).mono HB2.out.size)))).mono ?_
  rintro e w8 ⟨rfl, ht⟩
  have hf := fin3 H.out HB2.out (Nat.le_add_right _ 1) (by have := HN2.out; omega) HD2.out (Below.refl _ W2) ht
  have HF := Lib.hid hf.2
  have hd9 := hf.1
  have q0 := hd9.c 0 rfl
  have q1 := hd9.c 1 rfl
  have q2 := hd9.c 2 rfl
  have p0 := hd9.free 0
  have p1 := hd9.free 1
  have p2 := hd9.free 2
  have HD9 := Lib.hid hd9
  clear hf hd9
  go_wp2_with fail
  refine bodyPost_ret (results_bx3 rfl _ _ (w.heap.size + 1) _ _ _ 49 rfl (three_box HD9.out _ _ _) Tryd.underlying49 (szD _)) rfl ?_
  exact ⟨rfl, HF.out _ _ _⟩
set_option maxHeartbeats 2000000 in
theorem act_killBack (k0 : Int) (t : ByteArray) (h : LineL w O F b s) (hsp : Spans w) (hB : SmR s.ring 1000000) :
    Calls Tryd.prog 54 #[.pointer (some ⟨b, 0, none⟩), .agg #[.int .i64 k0, .string t]] w fun e w' => e = .returned (dV .kill) ∧ ToLn w O F w' b ⟨(s.cut (wlL s.buf.1 s.buf.2) s.buf.2).log, LN.killed s.ring s.last true (s.gone (wlL s.buf.1 s.buf.2) s.buf.2), s.last⟩ := by
  obtain ⟨W2, hW2, hB2, hs2, hk2, hd2⟩ := boxesA w k0 t
  have HB2 := Lib.hid hB2
  have HN2 := Lib.hid hs2
  have HD2 := Lib.hid hd2
  have H := Lib.hid h
  have H2 := Lib.hid (objLn.below h hB2)
  have HS := Lib.hid hsp
  have hrt := (line_ok h).rt.1
  have hl6 : s.buf.1.length ≤ 137438953472 := Nat.le_trans hrt.2.1 (by decide)
  have e1 : mS s.buf.1 = s.buf.1 := hrt.make.1
  have e2 : mA s.buf.1 s.buf.2 = s.buf.2 := hrt.make.2
  have HQ := Lib.hid (fun W hS => wordLeft_calls s.buf.1 s.buf.2 hl6 W hS)
  rw [e1, e2] at HQ
  have HK := Lib.hid (fun W O' F' (h' : LineL W O' F' b s) hS => killFrom_callsL W O' F' b s h' hS hB (wlL s.buf.1 s.buf.2) hrt.wl)
  clear hB h hsp hB2 hs2 hk2 hd2 hrt hl6 e1 e2
  go_enter Tryd.func54, Tryd.ntmps54
  go_wp2_with fail
  refine (buf_callsL W2 O F b s H2.out (spans_below HS.out HB2.out)).mono ?_
  rintro e w3 ⟨rfl, hb3⟩
  have x3 := Bx.new w3 23 (.string ⟨#[]⟩) (.int .i64 0)
  have f0 := x3.f0
  have f1 := x3.f1
  have g0 := x3.c0
  have g1 := x3.c1
  have x4 := Bx.new w3 23 (.string (bs s.buf.1)) (.int .i64 (s.buf.2 : Int))
  have hb4 := hb3.alloc hb3.size (.cells #[.string (bs s.buf.1), .int .i64 (s.buf.2 : Int)] 23)
  obtain ⟨W4, hW4⟩ : ∃ W4, w3.alloc (.cells #[.string (bs s.buf.1), .int .i64 (s.buf.2 : Int)] 23) = W4 := ⟨_, rfl⟩
  rw [hW4] at x4 hb4
  have y0 := x4.c0
  have y1 := x4.c1
  have HB4 := Lib.hid hb4
  clear x3 x4 hb4
  go_wp2_with fail
  refine (HQ.out W4 (spans_below HS.out (HB2.out.trans (HB4.out.mono HB2.out.size)))).mono ?_
  rintro e w5 ⟨rfl, hb5⟩
  have HB5 := Lib.hid (HB4.out.trans (hb5.mono HB4.out.size))
  clear hb5 HQ y0 y1
  go_wp2_with fail
  refine (HK.out w5 O F (objLn.below H2.out HB5.out) (spans_below HS.out (HB2.out.trans (HB5.out.mono HB2.out.size)))).mono ?_
  rintro e w8 ⟨rfl, ht⟩
  have hf := fin3 H.out HB2.out (Nat.le_add_right _ 1) (by have := HN2.out; omega) HD2.out HB5.out ht
  have HF := Lib.hid hf.2
  have hd9 := hf.1
  have q0 := hd9.c 0 rfl
  have q1 := hd9.c 1 rfl
  have q2 := hd9.c 2 rfl
  have p0 := hd9.free 0
  have p1 := hd9.free 1
  have p2 := hd9.free 2
  have HD9 := Lib.hid hd9
  clear hf hd9
  go_wp2_with fail
  refine bodyPost_ret (results_bx3 rfl _ _ (w.heap.size + 1) _ _ _ 49 rfl (three_box HD9.out _ _ _) Tryd.underlying49 (szD _)) rfl ?_
  exact ⟨rfl, HF.out _ _ _⟩
end
end
section
open Go Go.RowKit
set_option maxRecDepth 100000
section
variable (w : World) (O F : Nat → Prop) (b : Nat) (s : LN)
theorem boxesB (w : World) (x : Bf) : ∃ W2, (w.alloc (.cells #[.string (bs x.1), .int .i64 (x.2 : Int)] 23)).alloc (.cells #[.int .i64 0, .int .i64 0, .int .i64 0] 49) = W2 ∧ Below w.heap.size w W2 ∧ W2.heap.size = w.heap.size + 2 ∧ Bx W2 w.heap.size 23 (.string (bs x.1)) (.int .i64 (x.2 : Int)) ∧ BxA W2 (w.heap.size + 1) 49 [.int .i64 0, .int .i64 0, .int .i64 0] := by
  refine ⟨_, rfl, ((Below.refl _ w).alloc (Nat.le_refl _) _).alloc (by rw [World.size_alloc]; omega) _, by rw [World.size_alloc, World.size_alloc], (Bx.new w _ _ _).alloc _, ?_⟩
  have := BxA.new (w.alloc (.cells #[.string (bs x.1), .int .i64 (x.2 : Int)] 23)) 49 [.int .i64 0, .int .i64 0, .int .i64 0]
  rwa [World.size_alloc] at this
theorem Rt.fits_ins {x : Bf} (hx : Rt x.1 x.2) (k : ByteArray) (hk : k.size ≤ 1000000) (hf : fits x (plainL (bl k))) (W : World) (hS : Spans W) :
    Calls Tryd.prog 37 #[.agg #[.string (bs x.1), .int .i64 (x.2 : Int)], .string k] W fun e w' => e = .returned (.tuple #[.agg #[.string (bs (insB x (plainL (bl k))).1), .int .i64 ((insB x (plainL (bl k))).2 : Int)], .int .i64 0]) ∧ Below W.heap.size W w' := by
  have hl : (bl k).length ≤ 137438953472 := by
    have : (bl k).length = k.size := by unfold bl; simp
    omega
  have h1 : mS x.1 = x.1 := hx.make.1
  have h2 : mA x.1 x.2 = x.2 := hx.make.2
  have := insert_ok x.1 (bl k) x.2 (Nat.le_trans hx.2.1 (by decide)) hl W hS (by rw [h1]; exact hf)
  rwa [h1, h2, bs_bl] at this
theorem Rt.no_ins {x : Bf} (hx : Rt x.1 x.2) (k : ByteArray) (hk : k.size ≤ 1000000) (hf : ¬ fits x (plainL (bl k))) (W : World) (hS : Spans W) :
    Calls Tryd.prog 37 #[.agg #[.string (bs x.1), .int .i64 (x.2 : Int)], .string k] W fun e w' => e = .returned (.tuple #[.agg #[.string (bs x.1), .int .i64 (x.2 : Int)], .int .i64 30]) ∧ Below W.heap.size W w' := by
  have hl : (bl k).length ≤ 137438953472 := by
    have : (bl k).length = k.size := by unfold bl; simp
    omega
  have h1 : mS x.1 = x.1 := hx.make.1
  have h2 : mA x.1 x.2 = x.2 := hx.make.2
  have := insert_no x.1 (bl k) x.2 (Nat.le_trans hx.2.1 (by decide)) hl W hS (by rw [h1]; unfold fits at hf; omega)
  rwa [h1, h2, bs_bl] at this
set_option maxHeartbeats 2000000 in
theorem bring_yes (h : LineL w O F b s) (hsp : Spans w) (x : Bf) (hx : Rt x.1 x.2) (k : ByteArray) (hk : k.size ≤ 1000000) (hfit : fits x (plainL (bl k))) :
    Calls Tryd.prog 79 #[.pointer (some ⟨b, 0, none⟩), .agg #[.string (bs x.1), .int .i64 (x.2 : Int)], .string k] w fun e w' => e = .returned (.tuple #[dV (.yank x.2 (insB x (plainL (bl k))).2), .bool true]) ∧ ToLn w O F w' b ⟨wrG s.log (insB x (plainL (bl k))) 0, s.ring, s.last⟩ := by
  obtain ⟨W2, hW2, hB2, hs2, hk2, hd2⟩ := boxesB w x
  have HB2 := Lib.hid hB2
  have HN2 := Lib.hid hs2
  have HD2 := Lib.hid hd2
  have HX2 := Lib.hid hk2
  have H := Lib.hid h
  have H2 := Lib.hid (objLn.below h hB2)
  have HS := Lib.hid hsp
  have c0 := hk2.c0
  have c1 := hk2.c1
  have HI := Lib.hid (hx.fits_ins k hk hfit)
  have HR : Hid (Rt (insB x (plainL (bl k))).1 (insB x (plainL (bl k))).2) := Lib.hid (LN.insB_rt hx (plain_P (bl k)) hfit)
  have hno : ∀ n, w.heap.size ≤ n → ¬ O n := fun n hn hk => by have := objLn.lt h n (.inl hk); omega
  have HNO := Lib.hid hno
  have g1 : ((0 : Int) != 0) = false := rfl
  clear hno
  generalize insB x (plainL (bl k)) = y at *
  clear h hsp hB2 hs2 hk2 hd2 hx hfit
  go_enter Tryd.func79, Tryd.ntmps79
  go_wp2_with fail
  refine (HI.out W2 (spans_below HS.out HB2.out)).mono ?_
  rintro e w4 ⟨rfl, hb4⟩
  have x3 := Bx.new w4 23 (.string ⟨#[]⟩) (.int .i64 0)
  have f0 := x3.f0
  have f1 := x3.f1
  have g2 := x3.c0
  have g3 := x3.c1
  have x4 := Bx.new w4 23 (.string (bs y.1)) (.int .i64 (y.2 : Int))
  have hb5 := hb4.alloc hb4.size (.cells #[.string (bs y.1), .int .i64 (y.2 : Int)] 23)
  obtain ⟨W4, hW4⟩ : ∃ W4, w4.alloc (.cells #[.string (bs y.1), .int .i64 (y.2 : Int)] 23) = W4 := ⟨_, rfl⟩
  rw [hW4] at x4 hb5
  have y0 := x4.c0
  have y1 := x4.c1
  have HB5 := Lib.hid hb5
  have HX4 := Lib.hid x4
  have HL4 := Lib.hid hb4.size
  clear x3 x4 hb5 hb4 HI
  go_wp2_with fail
  refine (write_callsL W4 O F b s (objLn.below H2.out HB5.out) y HR.out).mono ?_
  rintro e w8 ⟨rfl, ht⟩
  obtain ⟨_, _, _, ho8, _⟩ := id ht
  have z0 := ho8.cell (HX2.out.below HB5.out).c1 (show ¬ O w.heap.size from HNO.out _ (Nat.le_refl _))
  have z1 := ho8.cell HX4.out.c1 (show ¬ O w4.heap.size from HNO.out _ (Nat.le_trans HB2.out.size HL4.out))
  clear y0 y1 c0 c1 ho8
  have hf := fin3 H.out HB2.out (Nat.le_add_right _ 1) (by have := HN2.out; omega) HD2.out HB5.out ht
  have HF := Lib.hid hf.2
  have hd9 := hf.1
  have q0 := hd9.c 0 rfl
  have q1 := hd9.c 1 rfl
  have q2 := hd9.c 2 rfl
  have p0 := hd9.free 0
  have p1 := hd9.free 1
  have p2 := hd9.free 2
  have HD9 := Lib.hid hd9
  clear hf hd9
  go_wp2_with fail
  refine bodyPost_ret (results_bx3' rfl _ _ (w.heap.size + 1) _ _ _ _ 49 rfl rfl (three_box HD9.out _ _ _) Tryd.underlying49 (szD _)) rfl ?_
  exact ⟨rfl, HF.out _ _ _⟩
set_option maxHeartbeats 2000000 in
theorem bring_no (h : LineL w O F b s) (hsp : Spans w) (x : Bf) (hx : Rt x.1 x.2) (k : ByteArray) (hk : k.size ≤ 1000000) (hfit : ¬ fits x (plainL (bl k))) :
    Calls Tryd.prog 79 #[.pointer (some ⟨b, 0, none⟩), .agg #[.string (bs x.1), .int .i64 (x.2 : Int)], .string k] w fun e w' => e = .returned (.tuple #[dV .none, .bool false]) ∧ ToLn w O F w' b s := by
  obtain ⟨W2, hW2, hB2, hs2, hk2, hd2⟩ := boxesB w x
  have HB2 := Lib.hid hB2
  have HN2 := Lib.hid hs2
  have HD2 := Lib.hid hd2
  have HX2 := Lib.hid hk2
  have H := Lib.hid h
  have H2 := Lib.hid (objLn.below h hB2)
  have HS := Lib.hid hsp
  have c0 := hk2.c0
  have c1 := hk2.c1
  have HI := Lib.hid (hx.no_ins k hk hfit)
  have g1 : ((30 : Int) != 0) = true := rfl
  clear h hsp hB2 hs2 hk2 hd2 hx hfit
  go_enter Tryd.func79, Tryd.ntmps79
  go_wp2_with fail
  refine (HI.out W2 (spans_below HS.out HB2.out)).mono ?_
  rintro e w4 ⟨rfl, hb4⟩
  have x3 := Bx.new w4 23 (.string ⟨#[]⟩) (.int .i64 0)
  have f0 := x3.f0
  have f1 := x3.f1
  have g2 := x3.c0
  have g3 := x3.c1
  have x4 := Bx.new w4 23 (.string (bs x.1)) (.int .i64 (x.2 : Int))
  have hb5 := hb4.alloc hb4.size (.cells #[.string (bs x.1), .int .i64 (x.2 : Int)] 23)
  obtain ⟨W4, hW4⟩ : ∃ W4, w4.alloc (.cells #[.string (bs x.1), .int .i64 (x.2 : Int)] 23) = W4 := ⟨_, rfl⟩
  rw [hW4] at x4 hb5
  have y0 := x4.c0
  have y1 := x4.c1
  have HB5 := Lib.hid hb5
  have HX4 := Lib.hid x4
  have HL4 := Lib.hid hb4.size
  clear x3 x4 hb5 hb4 HI
  have hf := fin3 H.out HB2.out (Nat.le_add_right _ 1) (by have := HN2.out; omega) HD2.out HB5.out (ToF.refl (objLn.below H2.out HB5.out))
  have HF := Lib.hid hf.2
  have hd9 := hf.1
  have q0 := hd9.c 0 rfl
  have q1 := hd9.c 1 rfl
  have q2 := hd9.c 2 rfl
  have p0 := hd9.free 0
  have p1 := hd9.free 1
  have p2 := hd9.free 2
  have HD9 := Lib.hid hd9
  clear hf hd9
  go_wp2_with fail
  refine bodyPost_ret (results_bx3' rfl _ _ (w.heap.size + 1) _ _ _ _ 49 rfl rfl (three_box HD9.out _ _ _) Tryd.underlying49 (szD _)) rfl ?_
  exact ⟨rfl, HF.out _ _ _⟩
end
end
section
open Go Go.RowKit
set_option maxRecDepth 100000
section
variable (w : World) (O F : Nat → Prop) (b : Nat) (s : LN)
set_option maxHeartbeats 2000000 in
theorem act_yank (k0 : Int) (t : ByteArray) (h : LineL w O F b s) (hsp : Spans w) (hB : SmR s.ring 1000000) :
    Calls Tryd.prog 55 #[.pointer (some ⟨b, 0, none⟩), .agg #[.int .i64 k0, .string t]] w fun e w' => e = .returned (dV s.yank.last) ∧ ToLn w O F w' b ⟨s.yank.log, s.yank.ring, s.last⟩ := by
  obtain ⟨W2, hW2, hB2, hs2, hk2, hd2⟩ := boxesA w k0 t
  have HB2 := Lib.hid hB2
  have HN2 := Lib.hid hs2
  have HD2 := Lib.hid hd2
  have H := Lib.hid h
  have H2 := Lib.hid (objLn.below h hB2)
  have HS := Lib.hid hsp
  have hrt := (line_ok h).rt.1
  have hl6 : s.buf.1.length ≤ 137438953472 := Nat.le_trans hrt.2.1 (by decide)
  have e1 : mS s.buf.1 = s.buf.1 := hrt.make.1
  have e2 : mA s.buf.1 s.buf.2 = s.buf.2 := hrt.make.2
  have hrt' := (line_ok h).rt.1
  obtain ⟨g, r, Rl, Rr, hA⟩ := objLn.below h hB2
  have c1 := hA.box.c 1 rfl
  have HA := Lib.hid hA
  have HH := Lib.hid (home_callsS W2 Rr r s.ring hA.ring)
  have HRT := Lib.hid hrt'
  have HSm := Lib.hid hB
  clear hA hB hrt' e1 e2 hl6 hrt
  clear h hsp hB2 hs2 hk2 hd2
  go_enter Tryd.func55, Tryd.ntmps55
  go_wp2_with fail
  refine HH.out.mono ?_
  rintro e w3 ⟨rfl, ht⟩
  obtain ⟨Rr3, O3, hA3, hst⟩ := HA.out.ring_at ht ⟨HA.out.ok.log, HA.out.ok.lim, HA.out.ok.rt, HA.out.ok.ring.home, HA.out.ok.rlim⟩
  have HA3 := Lib.hid hA3
  have HST := Lib.hid hst
  have HT := Lib.hid (top_callsS w3 Rr3 r s.ring.home hA3.ring)
  have d1 := hA3.box.c 1 rfl
  clear ht hA3 hst HH
  go_wp2_with fail
  refine HT.out.mono ?_
  rintro e w4 ⟨rfl, hb4⟩
  have HB4 := Lib.hid hb4
  have HST4 := Lib.hid (HST.out.trans (StepF.below O3 F hb4))
  have H4 := Lib.hid (HA3.out.below hb4).line
  have HSP4 : Hid (Spans w4) := Lib.hid (spans_only (spans_below HS.out HB2.out) HST4.out.1 HA.out.sp.2)
  clear hb4 HT d1 c1
  cases hrl : s.ring.l with
  | nil =>
    have hy : s.yank = ⟨s.log, s.ring.home, .none⟩ := by unfold LN.yank; rw [hrl]
    rw [show s.ring.home.l = s.ring.l from rfl, hrl]
    have hz : decide (0 < ([] : List ByteArray).length) = false := rfl
    have HY := Lib.hid hy
    rw [hz]
    clear hrl hy hz
    have ht : ToLn W2 O F w4 b ⟨s.log, s.ring.home, s.last⟩ := HST4.out.to H4.out
    have hf := fin3 H.out HB2.out (Nat.le_add_right _ 1) (by have := HN2.out; omega) HD2.out (Below.refl _ W2) ht
    have HF := Lib.hid hf.2
    have hd9 := hf.1
    have q0 := hd9.c 0 rfl
    have q1 := hd9.c 1 rfl
    have q2 := hd9.c 2 rfl
    have p0 := hd9.free 0
    have p1 := hd9.free 1
    have p2 := hd9.free 2
    have HD9 := Lib.hid hd9
    clear hf hd9
    go_wp2_with fail
    refine bodyPost_ret (results_bx3 rfl _ _ (w.heap.size + 1) _ _ _ 49 rfl (three_box HD9.out _ _ _) Tryd.underlying49 (szD _)) rfl ?_
    exact ⟨by rw [HY.out]; rfl, by rw [HY.out]; exact HF.out _ _ _⟩
  | cons x l =>
    have hy : s.yank = LN.yankAt s.log s.ring.home s.buf x .none := by unfold LN.yank; rw [hrl]
    have hxs : x.size ≤ 1000000 := HSm.out x (by rw [hrl]; exact List.mem_cons_self)
    have hgd : (s.ring.home.l.getD s.ring.home.i ⟨#[]⟩) = x := by show s.ring.l.getD 0 _ = x; rw [hrl]; rfl
    have hln : decide (0 < s.ring.home.l.length) = true := by show decide (0 < s.ring.l.length) = true; rw [hrl]; exact decide_eq_true (by simp)
    rw [hgd, hln]
    have HY := Lib.hid hy
    clear hrl hy hgd hln
    go_wp2_with fail
    refine (buf_callsL w4 O3 F b _ H4.out HSP4.out).mono ?_
    rintro e w5 ⟨rfl, hb5⟩
    have HB5 := Lib.hid hb5
    have H5 := Lib.hid (objLn.below H4.out hb5)
    have HSP5 := Lib.hid (spans_below HSP4.out hb5)
    have HST5 := Lib.hid (HST4.out.trans (StepF.below O3 F hb5))
    clear hb5
    rw [show LN.buf ⟨s.log, s.ring.home, s.last⟩ = s.buf from rfl]
    by_cases hfit : fits s.buf (plainL (bl x))
    · have hy2 : LN.yankAt s.log s.ring.home s.buf x .none = ⟨wrG s.log (insB s.buf (plainL (bl x))) 0, s.ring.home, .yank s.buf.2 (insB s.buf (plainL (bl x))).2⟩ := if_pos hfit
      have HBr := Lib.hid (bring_yes w5 O3 F b _ H5.out HSP5.out s.buf HRT.out x hxs hfit)
      have HY2 := Lib.hid (HY.out.trans hy2)
      clear hy2 hfit
      go_wp2_with fail
      refine HBr.out.mono ?_
      rintro e w6 ⟨rfl, ht6⟩
      have x3 := BxA.new w6 49 [.int .i64 0, .int .i64 0, .int .i64 0]
      have f0 := x3.free 0
      have f1 := x3.free 1
      have f2 := x3.free 2
      have g0 := x3.c 0 rfl
      have g1 := x3.c 1 rfl
      have g2 := x3.c 2 rfl
      have x4 := BxA.new w6 49 [.int .i64 (kdL (.yank s.buf.2 (insB s.buf (plainL (bl x))).2)), .int .i64 (frL (.yank s.buf.2 (insB s.buf (plainL (bl x))).2)), .int .i64 (toL (.yank s.buf.2 (insB s.buf (plainL (bl x))).2))]
      have ht7 := (HST5.out.tom ht6).below objLn ((Below.refl _ w6).alloc (Nat.le_refl _) (.cells #[.int .i64 (kdL (.yank s.buf.2 (insB s.buf (plainL (bl x))).2)), .int .i64 (frL (.yank s.buf.2 (insB s.buf (plainL (bl x))).2)), .int .i64 (toL (.yank s.buf.2 (insB s.buf (plainL (bl x))).2))] 49))
      obtain ⟨W7, hW7⟩ : ∃ W7, w6.alloc (.cells #[.int .i64 (kdL (.yank s.buf.2 (insB s.buf (plainL (bl x))).2)), .int .i64 (frL (.yank s.buf.2 (insB s.buf (plainL (bl x))).2)), .int .i64 (toL (.yank s.buf.2 (insB s.buf (plainL (bl x))).2))] 49) = W7 := ⟨_, rfl⟩
      have x5 : BxA W7 w6.heap.size 49 [.int .i64 (kdL (.yank s.buf.2 (insB s.buf (plainL (bl x))).2)), .int .i64 (frL (.yank s.buf.2 (insB s.buf (plainL (bl x))).2)), .int .i64 (toL (.yank s.buf.2 (insB s.buf (plainL (bl x))).2))] := by rw [← hW7]; exact x4
      rw [hW7] at ht7
      have y0 := x5.c 0 rfl
      have y1 := x5.c 1 rfl
      have y2 := x5.c 2 rfl
      clear x3 x4 x5 ht6 HBr
      have hf := fin3 H.out HB2.out (Nat.le_add_right _ 1) (by have := HN2.out; omega) HD2.out (Below.refl _ W2) ht7
      have HF := Lib.hid hf.2
      have hd9 := hf.1
      have q0 := hd9.c 0 rfl
      have q1 := hd9.c 1 rfl
      have q2 := hd9.c 2 rfl
      have p0 := hd9.free 0
      have p1 := hd9.free 1
      have p2 := hd9.free 2
      have HD9 := Lib.hid hd9
      clear hf hd9
      go_wp2_with fail
      refine bodyPost_ret (results_bx3 rfl _ _ (w.heap.size + 1) _ _ _ 49 rfl (three_box HD9.out _ _ _) Tryd.underlying49 (szD _)) rfl ?_
      exact ⟨by rw [HY2.out], by rw [HY2.out]; exact HF.out _ _ _⟩
    · have hy2 : LN.yankAt s.log s.ring.home s.buf x .none = ⟨s.log, s.ring.home, .none⟩ := if_neg hfit
      have HBr := Lib.hid (bring_no w5 O3 F b _ H5.out HSP5.out s.buf HRT.out x hxs hfit)
      have HY2 := Lib.hid (HY.out.trans hy2)
      clear hy2 hfit
      go_wp2_with fail
      refine HBr.out.mono ?_
      rintro e w6 ⟨rfl, ht6⟩
      have x3 := BxA.new w6 49 [.int .i64 0, .int .i64 0, .int .i64 0]
      have f0 := x3.free 0
      have f1 := x3.free 1
      have f2 := x3.free 2
      have g0 := x3.c 0 rfl
      have g1 := x3.c 1 rfl
      have g2 := x3.c 2 rfl
      have x4 := BxA.new w6 49 [.int .i64 (kdL .none), .int .i64 (frL .none), .int .i64 (toL .none)]
      have ht7 := (HST5.out.tom ht6).below objLn ((Below.refl _ w6).alloc (Nat.le_refl _) (.cells #[.int .i64 (kdL .none), .int .i64 (frL .none), .int .i64 (toL .none)] 49))
      obtain ⟨W7, hW7⟩ : ∃ W7, w6.alloc (.cells #[.int .i64 (kdL .none), .int .i64 (frL .none), .int .i64 (toL .none)] 49) = W7 := ⟨_, rfl⟩
      have x5 : BxA W7 w6.heap.size 49 [.int .i64 (kdL .none), .int .i64 (frL .none), .int .i64 (toL .none)] := by rw [← hW7]; exact x4
      rw [hW7] at ht7
      have y0 := x5.c 0 rfl
      have y1 := x5.c 1 rfl
      have y2 := x5.c 2 rfl
      clear x3 x4 x5 ht6 HBr
      have hf := fin3 H.out HB2.out (Nat.le_add_right _ 1) (by have := HN2.out; omega) HD2.out (Below.refl _ W2) ht7
      have HF := Lib.hid hf.2
      have hd9 := hf.1
      have q0 := hd9.c 0 rfl
      have q1 := hd9.c 1 rfl
      have q2 := hd9.c 2 rfl
      have p0 := hd9.free 0
      have p1 := hd9.free 1
      have p2 := hd9.free 2
      have HD9 := Lib.hid hd9
      clear hf hd9
      go_wp2_with fail
      refine bodyPost_ret (results_bx3 rfl _ _ (w.heap.size + 1) _ _ _ 49 rfl (three_box HD9.out _ _ _) Tryd.underlying49 (szD _)) rfl ?_
      exact ⟨by rw [HY2.out], by rw [HY2.out]; exact HF.out _ _ _⟩
end
end
end Go.Proofs.YtoaponaljkhlfaaDoor
