/-
  Layer 7 and what it stands on, part 30 (LnL LnM LnN LnO LnP LnQ LnR LnS RMakes RWord RWordW).
-/
import Derived.Test.YtoaponaljkhlfaaGreatDoorPz24
import Derived.Test.YtoaponaljkhlfaaGreatDoorPz27
import Derived.Test.YtoaponaljkhlfaaGreatDoorPz29
import Derived.Deep.RegionHeld3
import Derived.Lib.MinMax
import Derived.BigQuiet
namespace Go.Proofs.YtoaponaljkhlfaaGreatDoor
section
open Go Go.RowKit
open Go.Lib (hid)
set_option maxRecDepth 100000
section
variable (w : World) (O F : Nat → Prop) (b : Nat) (s : LN)
set_option maxHeartbeats 2000000 in
theorem act_killEnd (k0 : Int) (t : ByteArray) (h : LineL w O F b s) (hsp : Spans w) (hB : SmR s.ring 1000000) :
  Calls Tryz.prog 81 #[.pointer (some ⟨b, 0, none⟩), .agg #[.int .i64 k0, .string t]] w fun e w' => e = .returned (dV .kill) ∧ ToLn w O F w' b ⟨(s.cut s.buf.2 s.buf.1.length).log, LN.killed s.ring s.last false (s.gone s.buf.2 s.buf.1.length), s.last⟩ := by
 obtain ⟨W2, hW2, hB2, hs2, hk2, hd2⟩ := boxesA w k0 t
 have HB2 := hid hB2
 have HN2 := hid hs2
 have HD2 := hid hd2
 have H := hid h
 have H2 := hid (objLn.below h hB2)
 have HS := hid hsp
 have hrt := (line_ok h).rt.1
 have hl6 : s.buf.1.length ≤ 137438953472 := Nat.le_trans hrt.2.1 (by decide)
 have e1 : mS s.buf.1 = s.buf.1 := hrt.make.1
 have e2 : mA s.buf.1 s.buf.2 = s.buf.2 := hrt.make.2
 have HK := hid (fun W O' F' (h' : LineL W O' F' b s) hS => killTo_callsL W O' F' b s h' hS hB _ (isB_all _))
 have hsz := bs_size s.buf.1
 have fb := field_buf0L (.string (bs s.buf.1)) (.int .i64 (s.buf.2 : Int))
 clear hB h hsp hB2 hs2 hk2 hd2 hrt hl6 e1 e2
 go_enter Tryz.func81, Tryz.ntmps81
 go_wp2_with fail
 refine (buf_callsL W2 O F b s H2.out (spans_below HS.out HB2.out)).mono ?_
 rintro e w3 ⟨rfl, hb3⟩
 have HB3 := hid hb3
 clear hb3
 go_wp2_with fail
 refine (HK.out w3 O F (objLn.below H2.out HB3.out) (spans_below HS.out (HB2.out.trans (HB3.out.mono HB2.out.size)))).mono ?_
 rintro e w8 ⟨rfl, ht⟩
 have hf := fin3 H.out HB2.out (Nat.le_add_right _ 1) (by have := HN2.out; omega) HD2.out HB3.out ht
 have HF := hid hf.2
 have hd9 := hf.1
 have q0 := hd9.c 0 rfl
 have q1 := hd9.c 1 rfl
 have q2 := hd9.c 2 rfl
 have p0 := hd9.free 0
 have p1 := hd9.free 1
 have p2 := hd9.free 2
 have HD9 := hid hd9
 clear hf hd9
 go_wp2_with fail
 refine bodyPost_ret (results_bx3 rfl _ _ (w.heap.size + 1) _ _ _ 60 rfl (three_box HD9.out _ _ _) Tryz.underlying60 (szD _)) rfl ?_
 exact ⟨rfl, HF.out _ _ _⟩
set_option maxHeartbeats 2000000 in
theorem act_killWord (k0 : Int) (t : ByteArray) (h : LineL w O F b s) (hsp : Spans w) (hB : SmR s.ring 1000000) :
  Calls Tryz.prog 82 #[.pointer (some ⟨b, 0, none⟩), .agg #[.int .i64 k0, .string t]] w fun e w' => e = .returned (dV .kill) ∧ ToLn w O F w' b ⟨(s.cut s.buf.2 (wrL s.buf.1 s.buf.2)).log, LN.killed s.ring s.last false (s.gone s.buf.2 (wrL s.buf.1 s.buf.2)), s.last⟩ := by
 obtain ⟨W2, hW2, hB2, hs2, hk2, hd2⟩ := boxesA w k0 t
 have HB2 := hid hB2
 have HN2 := hid hs2
 have HD2 := hid hd2
 have H := hid h
 have H2 := hid (objLn.below h hB2)
 have HS := hid hsp
 have hrt := (line_ok h).rt.1
 have hl6 : s.buf.1.length ≤ 137438953472 := Nat.le_trans hrt.2.1 (by decide)
 have e1 : mS s.buf.1 = s.buf.1 := hrt.make.1
 have e2 : mA s.buf.1 s.buf.2 = s.buf.2 := hrt.make.2
 have HQ := hid (fun W hS => wordRight_calls s.buf.1 s.buf.2 hl6 W hS)
 rw [e1, e2] at HQ
 have HK := hid (fun W O' F' (h' : LineL W O' F' b s) hS => killTo_callsL W O' F' b s h' hS hB (wrL s.buf.1 s.buf.2) hrt.wr)
 clear hB h hsp hB2 hs2 hk2 hd2 hrt hl6 e1 e2
 go_enter Tryz.func82, Tryz.ntmps82
 go_wp2_with fail
 refine (buf_callsL W2 O F b s H2.out (spans_below HS.out HB2.out)).mono ?_
 rintro e w3 ⟨rfl, hb3⟩
 have x3 := Bx.new w3 43 (.string ⟨#[]⟩) (.int .i64 0)
 have f0 := x3.f0
 have f1 := x3.f1
 have g0 := x3.c0
 have g1 := x3.c1
 have x4 := Bx.new w3 43 (.string (bs s.buf.1)) (.int .i64 (s.buf.2 : Int))
 have hb4 := hb3.alloc hb3.size (.cells #[.string (bs s.buf.1), .int .i64 (s.buf.2 : Int)] 43)
 obtain ⟨W4, hW4⟩ : ∃ W4, w3.alloc (.cells #[.string (bs s.buf.1), .int .i64 (s.buf.2 : Int)] 43) = W4 := ⟨_, rfl⟩
 rw [hW4] at x4 hb4
 have y0 := x4.c0
 have y1 := x4.c1
 have HB4 := hid hb4
 clear x3 x4 hb4
 go_wp2_with fail
 refine (HQ.out W4 (spans_below HS.out (HB2.out.trans (HB4.out.mono HB2.out.size)))).mono ?_
 rintro e w5 ⟨rfl, hb5⟩
 have HB5 := hid (HB4.out.trans (hb5.mono HB4.out.size))
 clear hb5 HQ y0 y1
 go_wp2_with fail
 refine (HK.out w5 O F (objLn.below H2.out HB5.out) (spans_below HS.out (HB2.out.trans (HB5.out.mono HB2.out.size)))).mono ?_
 rintro e w8 ⟨rfl, ht⟩
 have hf := fin3 H.out HB2.out (Nat.le_add_right _ 1) (by have := HN2.out; omega) HD2.out HB5.out ht
 have HF := hid hf.2
 have hd9 := hf.1
 have q0 := hd9.c 0 rfl
 have q1 := hd9.c 1 rfl
 have q2 := hd9.c 2 rfl
 have p0 := hd9.free 0
 have p1 := hd9.free 1
 have p2 := hd9.free 2
 have HD9 := hid hd9
 clear hf hd9
 go_wp2_with fail
 refine bodyPost_ret (results_bx3 rfl _ _ (w.heap.size + 1) _ _ _ 60 rfl (three_box HD9.out _ _ _) Tryz.underlying60 (szD _)) rfl ?_
 exact ⟨rfl, HF.out _ _ _⟩
set_option maxHeartbeats 2000000 in
theorem act_killStart (k0 : Int) (t : ByteArray) (h : LineL w O F b s) (hsp : Spans w) (hB : SmR s.ring 1000000) :
  Calls Tryz.prog 83 #[.pointer (some ⟨b, 0, none⟩), .agg #[.int .i64 k0, .string t]] w fun e w' => e = .returned (dV .kill) ∧ ToLn w O F w' b ⟨(s.cut 0 s.buf.2).log, LN.killed s.ring s.last true (s.gone 0 s.buf.2), s.last⟩ := by
 obtain ⟨W2, hW2, hB2, hs2, hk2, hd2⟩ := boxesA w k0 t
 have HB2 := hid hB2
 have HN2 := hid hs2
 have HD2 := hid hd2
 have H := hid h
 have H2 := hid (objLn.below h hB2)
 have HS := hid hsp
 have hrt := (line_ok h).rt.1
 have hl6 : s.buf.1.length ≤ 137438953472 := Nat.le_trans hrt.2.1 (by decide)
 have e1 : mS s.buf.1 = s.buf.1 := hrt.make.1
 have e2 : mA s.buf.1 s.buf.2 = s.buf.2 := hrt.make.2
 have HK := hid (fun W O' F' (h' : LineL W O' F' b s) hS => killFrom_callsL W O' F' b s h' hS hB 0 (isB_zero _))
 clear hB h hsp hB2 hs2 hk2 hd2 hrt hl6 e1 e2
 go_enter Tryz.func83, Tryz.ntmps83
 go_wp2_with fail
 refine (HK.out W2 O F (objLn.below H2.out (Below.refl _ W2)) (spans_below HS.out (HB2.out.trans ((Below.refl _ W2).mono HB2.out.size)))).mono ?_
 rintro e w8 ⟨rfl, ht⟩
 have hf := fin3 H.out HB2.out (Nat.le_add_right _ 1) (by have := HN2.out; omega) HD2.out (Below.refl _ W2) ht
 have HF := hid hf.2
 have hd9 := hf.1
 have q0 := hd9.c 0 rfl
 have q1 := hd9.c 1 rfl
 have q2 := hd9.c 2 rfl
 have p0 := hd9.free 0
 have p1 := hd9.free 1
 have p2 := hd9.free 2
 have HD9 := hid hd9
 clear hf hd9
 go_wp2_with fail
 refine bodyPost_ret (results_bx3 rfl _ _ (w.heap.size + 1) _ _ _ 60 rfl (three_box HD9.out _ _ _) Tryz.underlying60 (szD _)) rfl ?_
 exact ⟨rfl, HF.out _ _ _⟩
set_option maxHeartbeats 2000000 in
theorem act_killBack (k0 : Int) (t : ByteArray) (h : LineL w O F b s) (hsp : Spans w) (hB : SmR s.ring 1000000) :
  Calls Tryz.prog 84 #[.pointer (some ⟨b, 0, none⟩), .agg #[.int .i64 k0, .string t]] w fun e w' => e = .returned (dV .kill) ∧ ToLn w O F w' b ⟨(s.cut (wlL s.buf.1 s.buf.2) s.buf.2).log, LN.killed s.ring s.last true (s.gone (wlL s.buf.1 s.buf.2) s.buf.2), s.last⟩ := by
 obtain ⟨W2, hW2, hB2, hs2, hk2, hd2⟩ := boxesA w k0 t
 have HB2 := hid hB2
 have HN2 := hid hs2
 have HD2 := hid hd2
 have H := hid h
 have H2 := hid (objLn.below h hB2)
 have HS := hid hsp
 have hrt := (line_ok h).rt.1
 have hl6 : s.buf.1.length ≤ 137438953472 := Nat.le_trans hrt.2.1 (by decide)
 have e1 : mS s.buf.1 = s.buf.1 := hrt.make.1
 have e2 : mA s.buf.1 s.buf.2 = s.buf.2 := hrt.make.2
 have HQ := hid (fun W hS => wordLeft_calls s.buf.1 s.buf.2 hl6 W hS)
 rw [e1, e2] at HQ
 have HK := hid (fun W O' F' (h' : LineL W O' F' b s) hS => killFrom_callsL W O' F' b s h' hS hB (wlL s.buf.1 s.buf.2) hrt.wl)
 clear hB h hsp hB2 hs2 hk2 hd2 hrt hl6 e1 e2
 go_enter Tryz.func84, Tryz.ntmps84
 go_wp2_with fail
 refine (buf_callsL W2 O F b s H2.out (spans_below HS.out HB2.out)).mono ?_
 rintro e w3 ⟨rfl, hb3⟩
 have x3 := Bx.new w3 43 (.string ⟨#[]⟩) (.int .i64 0)
 have f0 := x3.f0
 have f1 := x3.f1
 have g0 := x3.c0
 have g1 := x3.c1
 have x4 := Bx.new w3 43 (.string (bs s.buf.1)) (.int .i64 (s.buf.2 : Int))
 have hb4 := hb3.alloc hb3.size (.cells #[.string (bs s.buf.1), .int .i64 (s.buf.2 : Int)] 43)
 obtain ⟨W4, hW4⟩ : ∃ W4, w3.alloc (.cells #[.string (bs s.buf.1), .int .i64 (s.buf.2 : Int)] 43) = W4 := ⟨_, rfl⟩
 rw [hW4] at x4 hb4
 have y0 := x4.c0
 have y1 := x4.c1
 have HB4 := hid hb4
 clear x3 x4 hb4
 go_wp2_with fail
 refine (HQ.out W4 (spans_below HS.out (HB2.out.trans (HB4.out.mono HB2.out.size)))).mono ?_
 rintro e w5 ⟨rfl, hb5⟩
 have HB5 := hid (HB4.out.trans (hb5.mono HB4.out.size))
 clear hb5 HQ y0 y1
 go_wp2_with fail
 refine (HK.out w5 O F (objLn.below H2.out HB5.out) (spans_below HS.out (HB2.out.trans (HB5.out.mono HB2.out.size)))).mono ?_
 rintro e w8 ⟨rfl, ht⟩
 have hf := fin3 H.out HB2.out (Nat.le_add_right _ 1) (by have := HN2.out; omega) HD2.out HB5.out ht
 have HF := hid hf.2
 have hd9 := hf.1
 have q0 := hd9.c 0 rfl
 have q1 := hd9.c 1 rfl
 have q2 := hd9.c 2 rfl
 have p0 := hd9.free 0
 have p1 := hd9.free 1
 have p2 := hd9.free 2
 have HD9 := hid hd9
 clear hf hd9
 go_wp2_with fail
 refine bodyPost_ret (results_bx3 rfl _ _ (w.heap.size + 1) _ _ _ 60 rfl (three_box HD9.out _ _ _) Tryz.underlying60 (szD _)) rfl ?_
 exact ⟨rfl, HF.out _ _ _⟩
end
end
section
open Go Go.RowKit
open Go.Lib (hid)
set_option maxRecDepth 100000
section
variable (w : World) (O F : Nat → Prop) (b : Nat) (s : LN)
theorem boxesB (w : World) (x : Bf) : ∃ W2, (w.alloc (.cells #[.string (bs x.1), .int .i64 (x.2 : Int)] 43)).alloc (.cells #[.int .i64 0, .int .i64 0, .int .i64 0] 60) = W2 ∧ Below w.heap.size w W2 ∧ W2.heap.size = w.heap.size + 2 ∧ Bx W2 w.heap.size 43 (.string (bs x.1)) (.int .i64 (x.2 : Int)) ∧ BxA W2 (w.heap.size + 1) 60 [.int .i64 0, .int .i64 0, .int .i64 0] := by
 refine ⟨_, rfl, ((Below.refl _ w).alloc (Nat.le_refl _) _).alloc (by rw [World.size_alloc]; omega) _, by rw [World.size_alloc, World.size_alloc], (Bx.new w _ _ _).alloc _, ?_⟩
 have := BxA.new (w.alloc (.cells #[.string (bs x.1), .int .i64 (x.2 : Int)] 43)) 60 [.int .i64 0, .int .i64 0, .int .i64 0]
 rwa [World.size_alloc] at this
theorem Rt.fits_ins {x : Bf} (hx : Rt x.1 x.2) (k : ByteArray) (hk : k.size ≤ 1000000) (hf : fits x (plainL (bl k))) (W : World) (hS : Spans W) :
  Calls Tryz.prog 53 #[.agg #[.string (bs x.1), .int .i64 (x.2 : Int)], .string k] W fun e w' => e = .returned (.tuple #[.agg #[.string (bs (insB x (plainL (bl k))).1), .int .i64 ((insB x (plainL (bl k))).2 : Int)], .int .i64 0]) ∧ Below W.heap.size W w' := by
 have hl : (bl k).length ≤ 137438953472 := by
  have : (bl k).length = k.size := by unfold bl; simp
  omega
 have h1 : mS x.1 = x.1 := hx.make.1
 have h2 : mA x.1 x.2 = x.2 := hx.make.2
 have := insert_ok x.1 (bl k) x.2 (Nat.le_trans hx.2.1 (by decide)) hl W hS (by rw [h1]; exact hf)
 rwa [h1, h2, bs_bl] at this
theorem Rt.no_ins {x : Bf} (hx : Rt x.1 x.2) (k : ByteArray) (hk : k.size ≤ 1000000) (hf : ¬ fits x (plainL (bl k))) (W : World) (hS : Spans W) :
  Calls Tryz.prog 53 #[.agg #[.string (bs x.1), .int .i64 (x.2 : Int)], .string k] W fun e w' => e = .returned (.tuple #[.agg #[.string (bs x.1), .int .i64 (x.2 : Int)], .int .i64 30]) ∧ Below W.heap.size W w' := by
 have hl : (bl k).length ≤ 137438953472 := by
  have : (bl k).length = k.size := by unfold bl; simp
  omega
 have h1 : mS x.1 = x.1 := hx.make.1
 have h2 : mA x.1 x.2 = x.2 := hx.make.2
 have := insert_no x.1 (bl k) x.2 (Nat.le_trans hx.2.1 (by decide)) hl W hS (by rw [h1]; unfold fits at hf; omega)
 rwa [h1, h2, bs_bl] at this
set_option maxHeartbeats 2000000 in
theorem bring_yes (h : LineL w O F b s) (hsp : Spans w) (x : Bf) (hx : Rt x.1 x.2) (k : ByteArray) (hk : k.size ≤ 1000000) (hfit : fits x (plainL (bl k))) :
  Calls Tryz.prog 115 #[.pointer (some ⟨b, 0, none⟩), .agg #[.string (bs x.1), .int .i64 (x.2 : Int)], .string k] w fun e w' => e = .returned (.tuple #[dV (.yank x.2 (insB x (plainL (bl k))).2), .bool true]) ∧ ToLn w O F w' b ⟨wrG s.log (insB x (plainL (bl k))) 0, s.ring, s.last⟩ := by
 obtain ⟨W2, hW2, hB2, hs2, hk2, hd2⟩ := boxesB w x
 have HB2 := hid hB2
 have HN2 := hid hs2
 have HD2 := hid hd2
 have HX2 := hid hk2
 have H := hid h
 have H2 := hid (objLn.below h hB2)
 have HS := hid hsp
 have c0 := hk2.c0
 have c1 := hk2.c1
 have HI := hid (hx.fits_ins k hk hfit)
 have HR : Hid (Rt (insB x (plainL (bl k))).1 (insB x (plainL (bl k))).2) := hid (LN.insB_rt hx (plain_P (bl k)) hfit)
 have hno : ∀ n, w.heap.size ≤ n → ¬ O n := fun n hn hk => by have := objLn.lt h n (.inl hk); omega
 have HNO := hid hno
 have g1 : ((0 : Int) != 0) = false := rfl
 clear hno
 generalize insB x (plainL (bl k)) = y at *
 clear h hsp hB2 hs2 hk2 hd2 hx hfit
 go_enter Tryz.func115, Tryz.ntmps115
 go_wp2_with fail
 refine (HI.out W2 (spans_below HS.out HB2.out)).mono ?_
 rintro e w4 ⟨rfl, hb4⟩
 have x3 := Bx.new w4 43 (.string ⟨#[]⟩) (.int .i64 0)
 have f0 := x3.f0
 have f1 := x3.f1
 have g2 := x3.c0
 have g3 := x3.c1
 have x4 := Bx.new w4 43 (.string (bs y.1)) (.int .i64 (y.2 : Int))
 have hb5 := hb4.alloc hb4.size (.cells #[.string (bs y.1), .int .i64 (y.2 : Int)] 43)
 obtain ⟨W4, hW4⟩ : ∃ W4, w4.alloc (.cells #[.string (bs y.1), .int .i64 (y.2 : Int)] 43) = W4 := ⟨_, rfl⟩
 rw [hW4] at x4 hb5
 have y0 := x4.c0
 have y1 := x4.c1
 have HB5 := hid hb5
 have HX4 := hid x4
 have HL4 := hid hb4.size
 clear x3 x4 hb5 hb4 HI
 go_wp2_with fail
 refine (write_callsL W4 O F b s (objLn.below H2.out HB5.out) y HR.out).mono ?_
 rintro e w8 ⟨rfl, ht⟩
 obtain ⟨_, _, _, ho8, _⟩ := id ht
 have z0 := ho8.cell (HX2.out.below HB5.out).c1 (show ¬ O w.heap.size from HNO.out _ (Nat.le_refl _))
 have z1 := ho8.cell HX4.out.c1 (show ¬ O w4.heap.size from HNO.out _ (Nat.le_trans HB2.out.size HL4.out))
 clear y0 y1 c0 c1 ho8
 have hf := fin3 H.out HB2.out (Nat.le_add_right _ 1) (by have := HN2.out; omega) HD2.out HB5.out ht
 have HF := hid hf.2
 have hd9 := hf.1
 have q0 := hd9.c 0 rfl
 have q1 := hd9.c 1 rfl
 have q2 := hd9.c 2 rfl
 have p0 := hd9.free 0
 have p1 := hd9.free 1
 have p2 := hd9.free 2
 have HD9 := hid hd9
 clear hf hd9
 go_wp2_with fail
 refine bodyPost_ret (results_bx3' rfl _ _ (w.heap.size + 1) _ _ _ _ 60 rfl rfl (three_box HD9.out _ _ _) Tryz.underlying60 (szD _)) rfl ?_
 exact ⟨rfl, HF.out _ _ _⟩
set_option maxHeartbeats 2000000 in
theorem bring_no (h : LineL w O F b s) (hsp : Spans w) (x : Bf) (hx : Rt x.1 x.2) (k : ByteArray) (hk : k.size ≤ 1000000) (hfit : ¬ fits x (plainL (bl k))) :
  Calls Tryz.prog 115 #[.pointer (some ⟨b, 0, none⟩), .agg #[.string (bs x.1), .int .i64 (x.2 : Int)], .string k] w fun e w' => e = .returned (.tuple #[dV .none, .bool false]) ∧ ToLn w O F w' b s := by
 obtain ⟨W2, hW2, hB2, hs2, hk2, hd2⟩ := boxesB w x
 have HB2 := hid hB2
 have HN2 := hid hs2
 have HD2 := hid hd2
 have HX2 := hid hk2
 have H := hid h
 have H2 := hid (objLn.below h hB2)
 have HS := hid hsp
 have c0 := hk2.c0
 have c1 := hk2.c1
 have HI := hid (hx.no_ins k hk hfit)
 have g1 : ((30 : Int) != 0) = true := rfl
 clear h hsp hB2 hs2 hk2 hd2 hx hfit
 go_enter Tryz.func115, Tryz.ntmps115
 go_wp2_with fail
 refine (HI.out W2 (spans_below HS.out HB2.out)).mono ?_
 rintro e w4 ⟨rfl, hb4⟩
 have x3 := Bx.new w4 43 (.string ⟨#[]⟩) (.int .i64 0)
 have f0 := x3.f0
 have f1 := x3.f1
 have g2 := x3.c0
 have g3 := x3.c1
 have x4 := Bx.new w4 43 (.string (bs x.1)) (.int .i64 (x.2 : Int))
 have hb5 := hb4.alloc hb4.size (.cells #[.string (bs x.1), .int .i64 (x.2 : Int)] 43)
 obtain ⟨W4, hW4⟩ : ∃ W4, w4.alloc (.cells #[.string (bs x.1), .int .i64 (x.2 : Int)] 43) = W4 := ⟨_, rfl⟩
 rw [hW4] at x4 hb5
 have y0 := x4.c0
 have y1 := x4.c1
 have HB5 := hid hb5
 have HX4 := hid x4
 have HL4 := hid hb4.size
 clear x3 x4 hb5 hb4 HI
 have hf := fin3 H.out HB2.out (Nat.le_add_right _ 1) (by have := HN2.out; omega) HD2.out HB5.out (ToF.refl (objLn.below H2.out HB5.out))
 have HF := hid hf.2
 have hd9 := hf.1
 have q0 := hd9.c 0 rfl
 have q1 := hd9.c 1 rfl
 have q2 := hd9.c 2 rfl
 have p0 := hd9.free 0
 have p1 := hd9.free 1
 have p2 := hd9.free 2
 have HD9 := hid hd9
 clear hf hd9
 go_wp2_with fail
 refine bodyPost_ret (results_bx3' rfl _ _ (w.heap.size + 1) _ _ _ _ 60 rfl rfl (three_box HD9.out _ _ _) Tryz.underlying60 (szD _)) rfl ?_
 exact ⟨rfl, HF.out _ _ _⟩
end
end
section
open Go Go.RowKit
open Go.Lib (hid)
set_option maxRecDepth 100000
section
variable (w : World) (O F : Nat → Prop) (b : Nat) (s : LN)
set_option maxHeartbeats 2000000 in
theorem act_yank (k0 : Int) (t : ByteArray) (h : LineL w O F b s) (hsp : Spans w) (hB : SmR s.ring 1000000) :
  Calls Tryz.prog 85 #[.pointer (some ⟨b, 0, none⟩), .agg #[.int .i64 k0, .string t]] w fun e w' => e = .returned (dV s.yank.last) ∧ ToLn w O F w' b ⟨s.yank.log, s.yank.ring, s.last⟩ := by
 obtain ⟨W2, hW2, hB2, hs2, hk2, hd2⟩ := boxesA w k0 t
 have HB2 := hid hB2
 have HN2 := hid hs2
 have HD2 := hid hd2
 have H := hid h
 have H2 := hid (objLn.below h hB2)
 have HS := hid hsp
 have hrt := (line_ok h).rt.1
 have hl6 : s.buf.1.length ≤ 137438953472 := Nat.le_trans hrt.2.1 (by decide)
 have e1 : mS s.buf.1 = s.buf.1 := hrt.make.1
 have e2 : mA s.buf.1 s.buf.2 = s.buf.2 := hrt.make.2
 have hrt' := (line_ok h).rt.1
 obtain ⟨g, r, Rl, Rr, hA⟩ := objLn.below h hB2
 have c1 := hA.box.c 1 rfl
 have HA := hid hA
 have HH := hid (home_callsS W2 Rr r s.ring hA.ring)
 have HRT := hid hrt'
 have HSm := hid hB
 clear hA hB hrt' e1 e2 hl6 hrt
 clear h hsp hB2 hs2 hk2 hd2
 go_enter Tryz.func85, Tryz.ntmps85
 go_wp2_with fail
 refine HH.out.mono ?_
 rintro e w3 ⟨rfl, ht⟩
 obtain ⟨Rr3, O3, hA3, hst⟩ := HA.out.ring_at ht ⟨HA.out.ok.log, HA.out.ok.lim, HA.out.ok.rt, HA.out.ok.ring.home, HA.out.ok.rlim⟩
 have HA3 := hid hA3
 have HST := hid hst
 have HT := hid (top_callsS w3 Rr3 r s.ring.home hA3.ring)
 have d1 := hA3.box.c 1 rfl
 clear ht hA3 hst HH
 go_wp2_with fail
 refine HT.out.mono ?_
 rintro e w4 ⟨rfl, hb4⟩
 have HB4 := hid hb4
 have HST4 := hid (HST.out.trans (StepF.below O3 F hb4))
 have H4 := hid (HA3.out.below hb4).line
 have HSP4 : Hid (Spans w4) := hid (spans_only (spans_below HS.out HB2.out) HST4.out.1 HA.out.sp.2)
 clear hb4 HT d1 c1
 cases hrl : s.ring.l with
 | nil =>
  have hy : s.yank = ⟨s.log, s.ring.home, .none⟩ := by unfold LN.yank; rw [hrl]
  rw [show s.ring.home.l = s.ring.l from rfl, hrl]
  have hz : decide (0 < ([] : List ByteArray).length) = false := rfl
  have HY := hid hy
  rw [hz]
  clear hrl hy hz
  have ht : ToLn W2 O F w4 b ⟨s.log, s.ring.home, s.last⟩ := HST4.out.to H4.out
  have hf := fin3 H.out HB2.out (Nat.le_add_right _ 1) (by have := HN2.out; omega) HD2.out (Below.refl _ W2) ht
  have HF := hid hf.2
  have hd9 := hf.1
  have q0 := hd9.c 0 rfl
  have q1 := hd9.c 1 rfl
  have q2 := hd9.c 2 rfl
  have p0 := hd9.free 0
  have p1 := hd9.free 1
  have p2 := hd9.free 2
  have HD9 := hid hd9
  clear hf hd9
  go_wp2_with fail
  refine bodyPost_ret (results_bx3 rfl _ _ (w.heap.size + 1) _ _ _ 60 rfl (three_box HD9.out _ _ _) Tryz.underlying60 (szD _)) rfl ?_
  exact ⟨by rw [HY.out]; rfl, by rw [HY.out]; exact HF.out _ _ _⟩
 | cons x l =>
  have hy : s.yank = LN.yankAt s.log s.ring.home s.buf x .none := by unfold LN.yank; rw [hrl]
  have hxs : x.size ≤ 1000000 := HSm.out x (by rw [hrl]; exact List.mem_cons_self)
  have hgd : (s.ring.home.l.getD s.ring.home.i ⟨#[]⟩) = x := by show s.ring.l.getD 0 _ = x; rw [hrl]; rfl
  have hln : decide (0 < s.ring.home.l.length) = true := by show decide (0 < s.ring.l.length) = true; rw [hrl]; exact decide_eq_true (by simp)
  rw [hgd, hln]
  have HY := hid hy
  clear hrl hy hgd hln
  go_wp2_with fail
  refine (buf_callsL w4 O3 F b _ H4.out HSP4.out).mono ?_
  rintro e w5 ⟨rfl, hb5⟩
  have HB5 := hid hb5
  have H5 := hid (objLn.below H4.out hb5)
  have HSP5 := hid (spans_below HSP4.out hb5)
  have HST5 := hid (HST4.out.trans (StepF.below O3 F hb5))
  clear hb5
  rw [show LN.buf ⟨s.log, s.ring.home, s.last⟩ = s.buf from rfl]
  by_cases hfit : fits s.buf (plainL (bl x))
  ·have hy2 : LN.yankAt s.log s.ring.home s.buf x .none = ⟨wrG s.log (insB s.buf (plainL (bl x))) 0, s.ring.home, .yank s.buf.2 (insB s.buf (plainL (bl x))).2⟩ := if_pos hfit
   have HBr := hid (bring_yes w5 O3 F b _ H5.out HSP5.out s.buf HRT.out x hxs hfit)
   have HY2 := hid (HY.out.trans hy2)
   clear hy2 hfit
   go_wp2_with fail
   refine HBr.out.mono ?_
   rintro e w6 ⟨rfl, ht6⟩
   have x3 := BxA.new w6 60 [.int .i64 0, .int .i64 0, .int .i64 0]
   have f0 := x3.free 0
   have f1 := x3.free 1
   have f2 := x3.free 2
   have g0 := x3.c 0 rfl
   have g1 := x3.c 1 rfl
   have g2 := x3.c 2 rfl
   have x4 := BxA.new w6 60 [.int .i64 (kdL (.yank s.buf.2 (insB s.buf (plainL (bl x))).2)), .int .i64 (frL (.yank s.buf.2 (insB s.buf (plainL (bl x))).2)), .int .i64 (toL (.yank s.buf.2 (insB s.buf (plainL (bl x))).2))]
   have ht7 := (HST5.out.tom ht6).below objLn ((Below.refl _ w6).alloc (Nat.le_refl _) (.cells #[.int .i64 (kdL (.yank s.buf.2 (insB s.buf (plainL (bl x))).2)), .int .i64 (frL (.yank s.buf.2 (insB s.buf (plainL (bl x))).2)), .int .i64 (toL (.yank s.buf.2 (insB s.buf (plainL (bl x))).2))] 60))
   obtain ⟨W7, hW7⟩ : ∃ W7, w6.alloc (.cells #[.int .i64 (kdL (.yank s.buf.2 (insB s.buf (plainL (bl x))).2)), .int .i64 (frL (.yank s.buf.2 (insB s.buf (plainL (bl x))).2)), .int .i64 (toL (.yank s.buf.2 (insB s.buf (plainL (bl x))).2))] 60) = W7 := ⟨_, rfl⟩
   have x5 : BxA W7 w6.heap.size 60 [.int .i64 (kdL (.yank s.buf.2 (insB s.buf (plainL (bl x))).2)), .int .i64 (frL (.yank s.buf.2 (insB s.buf (plainL (bl x))).2)), .int .i64 (toL (.yank s.buf.2 (insB s.buf (plainL (bl x))).2))] := by rw [← hW7]; exact x4
   rw [hW7] at ht7
   have y0 := x5.c 0 rfl
   have y1 := x5.c 1 rfl
   have y2 := x5.c 2 rfl
   clear x3 x4 x5 ht6 HBr
   have hf := fin3 H.out HB2.out (Nat.le_add_right _ 1) (by have := HN2.out; omega) HD2.out (Below.refl _ W2) ht7
   have HF := hid hf.2
   have hd9 := hf.1
   have q0 := hd9.c 0 rfl
   have q1 := hd9.c 1 rfl
   have q2 := hd9.c 2 rfl
   have p0 := hd9.free 0
   have p1 := hd9.free 1
   have p2 := hd9.free 2
   have HD9 := hid hd9
   clear hf hd9
   go_wp2_with fail
   refine bodyPost_ret (results_bx3 rfl _ _ (w.heap.size + 1) _ _ _ 60 rfl (three_box HD9.out _ _ _) Tryz.underlying60 (szD _)) rfl ?_
   exact ⟨by rw [HY2.out], by rw [HY2.out]; exact HF.out _ _ _⟩
  ·have hy2 : LN.yankAt s.log s.ring.home s.buf x .none = ⟨s.log, s.ring.home, .none⟩ := if_neg hfit
   have HBr := hid (bring_no w5 O3 F b _ H5.out HSP5.out s.buf HRT.out x hxs hfit)
   have HY2 := hid (HY.out.trans hy2)
   clear hy2 hfit
   go_wp2_with fail
   refine HBr.out.mono ?_
   rintro e w6 ⟨rfl, ht6⟩
   have x3 := BxA.new w6 60 [.int .i64 0, .int .i64 0, .int .i64 0]
   have f0 := x3.free 0
   have f1 := x3.free 1
   have f2 := x3.free 2
   have g0 := x3.c 0 rfl
   have g1 := x3.c 1 rfl
   have g2 := x3.c 2 rfl
   have x4 := BxA.new w6 60 [.int .i64 (kdL .none), .int .i64 (frL .none), .int .i64 (toL .none)]
   have ht7 := (HST5.out.tom ht6).below objLn ((Below.refl _ w6).alloc (Nat.le_refl _) (.cells #[.int .i64 (kdL .none), .int .i64 (frL .none), .int .i64 (toL .none)] 60))
   obtain ⟨W7, hW7⟩ : ∃ W7, w6.alloc (.cells #[.int .i64 (kdL .none), .int .i64 (frL .none), .int .i64 (toL .none)] 60) = W7 := ⟨_, rfl⟩
   have x5 : BxA W7 w6.heap.size 60 [.int .i64 (kdL .none), .int .i64 (frL .none), .int .i64 (toL .none)] := by rw [← hW7]; exact x4
   rw [hW7] at ht7
   have y0 := x5.c 0 rfl
   have y1 := x5.c 1 rfl
   have y2 := x5.c 2 rfl
   clear x3 x4 x5 ht6 HBr
   have hf := fin3 H.out HB2.out (Nat.le_add_right _ 1) (by have := HN2.out; omega) HD2.out (Below.refl _ W2) ht7
   have HF := hid hf.2
   have hd9 := hf.1
   have q0 := hd9.c 0 rfl
   have q1 := hd9.c 1 rfl
   have q2 := hd9.c 2 rfl
   have p0 := hd9.free 0
   have p1 := hd9.free 1
   have p2 := hd9.free 2
   have HD9 := hid hd9
   clear hf hd9
   go_wp2_with fail
   refine bodyPost_ret (results_bx3 rfl _ _ (w.heap.size + 1) _ _ _ 60 rfl (three_box HD9.out _ _ _) Tryz.underlying60 (szD _)) rfl ?_
   exact ⟨by rw [HY2.out], by rw [HY2.out]; exact HF.out _ _ _⟩
end
end
section
open Go Go.RowKit
open Go.Lib (hid)
set_option maxRecDepth 100000
section
variable (w : World) (O F : Nat → Prop) (b : Nat) (s : LN)
theorem getD_sm {r : RS ByteArray} {B : Nat} (h : SmR r B) (i : Nat) : (r.l.getD i ⟨#[]⟩).size ≤ B := by
 rw [List.getD_eq_getElem?_getD]
 cases hi : r.l[i]? with
 | none => exact Nat.zero_le _
 | some x => exact h x (List.mem_of_getElem? hi)
set_option maxHeartbeats 4000000 in
theorem act_pop (k0 : Int) (t : ByteArray) (h : LineL w O F b s) (hsp : Spans w) (hB : SmR s.ring 1000000) :
  Calls Tryz.prog 86 #[.pointer (some ⟨b, 0, none⟩), .agg #[.int .i64 k0, .string t]] w fun e w' => e = .returned (dV s.pop.last) ∧ ToLn w O F w' b ⟨s.pop.log, s.pop.ring, s.last⟩ := by
 obtain ⟨W2, hW2, hB2, hs2, hk2, hd2⟩ := boxesA w k0 t
 have HB2 := hid hB2
 have HN2 := hid hs2
 have HD2 := hid hd2
 have H := hid h
 have H2 := hid (objLn.below h hB2)
 have HS := hid hsp
 have hrt := (line_ok h).rt.1
 have hl6 : s.buf.1.length ≤ 137438953472 := Nat.le_trans hrt.2.1 (by decide)
 have e1 : mS s.buf.1 = s.buf.1 := hrt.make.1
 have e2 : mA s.buf.1 s.buf.2 = s.buf.2 := hrt.make.2
 have HRT := hid (line_ok h).rt.1
 have HSm := hid hB
 obtain ⟨g, r, Rl, Rr, hA⟩ := objLn.below h hB2
 have c2 := hA.box.c 2 rfl
 have c3 := hA.box.c 3 rfl
 have c4 := hA.box.c 4 rfl
 have HA := hid hA
 cases hl : s.last with
 | none => 
  rw [hl] at c2
  rw [show kdL (.none) = 0 from rfl] at c2
  have hpop : s.pop = ⟨s.log, s.ring, .none⟩ := by unfold LN.pop; rw [hl]
  have HP := hid hpop
  have g1 : ((0 : Int) != 2) = true := rfl
  have ht := ToF.refl HA.out.line
  have HL := hid hl
  clear hA h hsp hB2 hs2 hk2 hd2 hrt hl6 e1 e2 hB hpop c3 c4 hl
  go_enter Tryz.func86, Tryz.ntmps86
  have hf := fin3 H.out HB2.out (Nat.le_add_right _ 1) (by have := HN2.out; omega) HD2.out (Below.refl _ W2) ht
  have HF := hid hf.2
  have hd9 := hf.1
  have q0 := hd9.c 0 rfl
  have q1 := hd9.c 1 rfl
  have q2 := hd9.c 2 rfl
  have p0 := hd9.free 0
  have p1 := hd9.free 1
  have p2 := hd9.free 2
  have HD9 := hid hd9
  clear hf hd9
  go_wp2_with fail
  refine bodyPost_ret (results_bx3 rfl _ _ (w.heap.size + 1) _ _ _ 60 rfl (three_box HD9.out _ _ _) Tryz.underlying60 (szD _)) rfl ?_
  exact ⟨by rw [HP.out]; rfl, by rw [HP.out, ← HL.out]; exact HF.out _ _ _⟩
 | kill => 
  rw [hl] at c2
  rw [show kdL (.kill) = 1 from rfl] at c2
  have hpop : s.pop = ⟨s.log, s.ring, .none⟩ := by unfold LN.pop; rw [hl]
  have HP := hid hpop
  have g1 : ((1 : Int) != 2) = true := rfl
  have ht := ToF.refl HA.out.line
  have HL := hid hl
  clear hA h hsp hB2 hs2 hk2 hd2 hrt hl6 e1 e2 hB hpop c3 c4 hl
  go_enter Tryz.func86, Tryz.ntmps86
  have hf := fin3 H.out HB2.out (Nat.le_add_right _ 1) (by have := HN2.out; omega) HD2.out (Below.refl _ W2) ht
  have HF := hid hf.2
  have hd9 := hf.1
  have q0 := hd9.c 0 rfl
  have q1 := hd9.c 1 rfl
  have q2 := hd9.c 2 rfl
  have p0 := hd9.free 0
  have p1 := hd9.free 1
  have p2 := hd9.free 2
  have HD9 := hid hd9
  clear hf hd9
  go_wp2_with fail
  refine bodyPost_ret (results_bx3 rfl _ _ (w.heap.size + 1) _ _ _ 60 rfl (three_box HD9.out _ _ _) Tryz.underlying60 (szD _)) rfl ?_
  exact ⟨by rw [HP.out]; rfl, by rw [HP.out, ← HL.out]; exact HF.out _ _ _⟩
 | yank f t =>
  rw [hl] at c2 c3 c4
  have g1 : ((2 : Int) != 2) = false := rfl
  rw [show kdL (.yank f t) = 2 from rfl] at c2
  rw [show frL (.yank f t) = (f : Int) from rfl] at c3
  rw [show toL (.yank f t) = (t : Int) from rfl] at c4
  have HC := hid (fun W hS => cutT_calls s.buf.1 s.buf.2 (f : Int) (t : Int) hl6 W hS)
  rw [e1, e2] at HC
  have hpop : s.pop = LN.yankAt s.log s.ring.turn ((cutR s.buf.1 s.buf.2 (backL s.buf.1 f) (backL s.buf.1 t)).1, (cutR s.buf.1 s.buf.2 (backL s.buf.1 f) (backL s.buf.1 t)).2.1) (s.ring.l.getD s.ring.turn.i ⟨#[]⟩) (.yank f t) := by unfold LN.pop; rw [hl]
  have HR : Hid (Rt (cutR s.buf.1 s.buf.2 (backL s.buf.1 f) (backL s.buf.1 t)).1 (cutR s.buf.1 s.buf.2 (backL s.buf.1 f) (backL s.buf.1 t)).2.1) := hid (LN.cutR_rt HRT.out (isB_back _ _) (isB_back _ _))
  have HK : Hid ((s.ring.l.getD s.ring.turn.i ⟨#[]⟩).size ≤ 1000000) := hid (getD_sm hB _)
  have HT := hid (fun W (hb : Below W2.heap.size W2 W) => turn_callsS W Rr r s.ring (HA.out.ring.below hb))
  have HSS : Hid (∀ W, Below W2.heap.size W2 W → W.cell? ⟨b, 3, none⟩ = some (.int .i64 (f : Int)) ∧ W.cell? ⟨b, 4, none⟩ = some (.int .i64 (t : Int))) := hid (fun W hW => ⟨by have := (hA.box.below hW).c 3 rfl; rwa [hl] at this, by have := (hA.box.below hW).c 4 rfl; rwa [hl] at this⟩)
  have HP := hid hpop
  have HL := hid hl
  clear hA h hsp hB2 hs2 hk2 hd2 hrt hl6 e1 e2 hB hpop hl
  generalize cutR s.buf.1 s.buf.2 (backL s.buf.1 f) (backL s.buf.1 t) = c at *
  obtain ⟨cs, ca, cg⟩ := c
  dsimp only at HC HR HP
  go_enter Tryz.func86, Tryz.ntmps86
  go_upto_region 3 with fail
  go_cut [5, 6] from 18 (fun s5 s6 wc => ∃ K, s5 = .pointer (some ⟨K, 0, none⟩) ∧ s6 = .string (bs cg) ∧ Below W2.heap.size W2 wc ∧ Bx wc K 43 (.string (bs cs)) (.int .i64 (ca : Int)) ∧ W2.heap.size ≤ K)
  case first =>
   have HBd : Hid (Below W2.heap.size W2 W2.drew) := hid (Below.refl _ W2).drew
   refine wp_region_last (S := (fun w' => w'.cell? ⟨b, 3, none⟩ = some (.int .i64 (f : Int)) ∧ w'.cell? ⟨b, 4, none⟩ = some (.int .i64 (t : Int)))) 18 (by kernel_rfl) ⟨c3, c4⟩ (fun hHeld => ?_)
   refine tkL 0 ?_
   refine tkL 2 ?_
   refine tkL 3 ?_
   refine tkL 4 ?_
   refine tkL 5 ?_
   refine tkL 6 ?_
   refine tkL 7 ?_
   refine tkL 8 ?_
   refine tkL 9 ?_
   refine tkL 10 ?_
   refine tkL 11 ?_
   refine lastAny_ready (rs := [1, 16]) (by kernel_rfl) (by simp) ?_
   refine AllReadyL.cons (o := ⟨some 20, _, _, _, _, _⟩) rfl (fun K hK => ?_) (AllReadyL.cons (o := ⟨some 5, _, _, _, _, _⟩) rfl (fun K hK => ?_) AllReadyL.nil)
   ·(rw [if_pos (by kernel_rfl)])
    go_simp
    refine (buf_callsL W2.drew O F b s (objLn.below H2.out HBd.out) (spans_below HS.out (HB2.out.trans (HBd.out.mono HB2.out.size)))).mono ?_
    rintro e w4 ⟨rfl, hb⟩
    have hbn := HBd.out.trans (hb.mono HBd.out.size)
    have qn := HSS.out w4 hbn
    have HB4 := hid hbn
    clear hb hbn
    refine hK.out _ _ qn (fun hHeld => ?_)
    clear hK K qn
    refine lastAny_ready (rs := [12, 16]) (by kernel_rfl) (by simp) ?_
    refine AllReadyL.cons (o := ⟨some 31, _, _, _, _, _⟩) rfl (fun K hK => ?_) (AllReadyL.cons (o := ⟨some 5, _, _, _, _, _⟩) rfl (fun K hK => ?_) AllReadyL.nil)
    ·(rw [if_pos (by kernel_rfl)])
     go_simp
     refine (HC.out w4 (spans_below HS.out (HB2.out.trans (HB4.out.mono HB2.out.size)))).mono ?_
     rintro e w5 ⟨rfl, hb⟩
     have hbn := HB4.out.trans (hb.mono HB4.out.size)
     have qn := HSS.out w5 hbn
     have HB5 := hid hbn
     clear hb hbn
     refine hK.out _ _ qn (fun hHeld => ?_)
     clear hK K qn
     refine tkL 13 ?_
     refine tkL 14 ?_
     refine tkL 15 ?_
     refine rdL 16 fun K hK => ?_
     go_simp
     have hbn : Below W2.heap.size W2 (w5.alloc (.cells #[.string ⟨#[]⟩, .int .i64 0] 43)) := HB5.out.alloc HB5.out.size _
     have qn := HSS.out _ hbn
     have x := Bx.new w5 43 (.string ⟨#[]⟩) (.int .i64 0)
     have HKW : Hid (W2.heap.size ≤ w5.heap.size) := hid (HB5.out.size)
     have HB6 := hid hbn
     have HX6 := hid x
     clear x hbn
     refine hK.out _ _ qn (fun hHeld => ?_)
     clear hK K qn
     have x5 := Bx.new w5 43 (.string (bs cs)) (.int .i64 (ca : Int))
     have hb5 : Below W2.heap.size W2 (w5.alloc (.cells #[.string (bs cs), .int .i64 (ca : Int)] 43)) := HB5.out.alloc HB5.out.size _
     have hkw := HKW.out
     have q5 := HSS.out _ hb5
     have y0 := HX6.out.c0
     have y1 := HX6.out.c1
     have z0 := HX6.out.f0
     have z1 := HX6.out.f1
     have HX5 := hid x5
     have HB5 := hid hb5
     clear x5 hb5
     refine rdL 17 fun K hK => ?_
     go_simp
     refine hK.out _ _ q5 (fun hHeld => ?_)
     clear hK K
     refine enL fun K hK => ?_
     go_simp
     refine hK.out _ _ ?_
     clear hK K
     go_wp2_with fail
     go_meet
     exact ⟨_, rfl, rfl, HB5.out, HX5.out, hkw⟩
    ·(rw [if_pos (by kernel_rfl)])
     go_simp
     have hbn : Below W2.heap.size W2 (w4.alloc (.cells #[.string ⟨#[]⟩, .int .i64 0] 43)) := HB4.out.alloc HB4.out.size _
     have qn := HSS.out _ hbn
     have x := Bx.new w4 43 (.string ⟨#[]⟩) (.int .i64 0)
     have HKW : Hid (W2.heap.size ≤ w4.heap.size) := hid (HB4.out.size)
     have HB5 := hid hbn
     have HX5 := hid x
     clear x hbn
     refine hK.out _ _ qn (fun hHeld => ?_)
     clear hK K qn
     refine rdL 12 fun K hK => ?_
     go_simp
     refine (HC.out (w4.alloc (.cells #[.string ⟨#[]⟩, .int .i64 0] 43)) (spans_below HS.out (HB2.out.trans (HB5.out.mono HB2.out.size)))).mono ?_
     rintro e w6 ⟨rfl, hb⟩
     have hbn := HB5.out.trans (hb.mono HB5.out.size)
     have qn := HSS.out w6 hbn
     have HB6 := hid hbn
     have HX6 := hid (HX5.out.below hb)
     clear hb hbn
     refine hK.out _ _ qn (fun hHeld => ?_)
     clear hK K qn
     refine tkL 13 ?_
     refine tkL 14 ?_
     refine tkL 15 ?_
     have x5 := (HX6.out.set0 (.string (bs cs))).set1 (.int .i64 (ca : Int))
     have hb5 : Below W2.heap.size W2 ((w6.setCell ⟨w4.heap.size, 0, none⟩ (.string (bs cs))).setCell ⟨w4.heap.size, 1, none⟩ (.int .i64 (ca : Int))) := (HB6.out.setCell (p := ⟨w4.heap.size, 0, none⟩) HKW.out _).setCell (p := ⟨w4.heap.size, 1, none⟩) HKW.out _
     have hkw := HKW.out
     have q5 := HSS.out _ hb5
     have y0 := HX6.out.c0
     have y1 := HX6.out.c1
     have z0 := HX6.out.f0
     have z1 := HX6.out.f1
     have HX5 := hid x5
     have HB5 := hid hb5
     clear x5 hb5
     refine rdL 17 fun K hK => ?_
     go_simp
     refine hK.out _ _ q5 (fun hHeld => ?_)
     clear hK K
     refine enL fun K hK => ?_
     go_simp
     refine hK.out _ _ ?_
     clear hK K
     go_wp2_with fail
     go_meet
     exact ⟨_, rfl, rfl, HB5.out, HX5.out, hkw⟩
   ·(rw [if_pos (by kernel_rfl)])
    go_simp
    have hbn : Below W2.heap.size W2 (W2.drew.alloc (.cells #[.string ⟨#[]⟩, .int .i64 0] 43)) := HBd.out.alloc HBd.out.size _
    have qn := HSS.out _ hbn
    have x := Bx.new W2.drew 43 (.string ⟨#[]⟩) (.int .i64 0)
    rw [show W2.drew.heap.size = W2.heap.size from rfl] at x
    have HKW : Hid (W2.heap.size ≤ W2.heap.size) := hid (Nat.le_refl _)
    have HB4 := hid hbn
    have HX4 := hid x
    clear x hbn
    refine hK.out _ _ qn (fun hHeld => ?_)
    clear hK K qn
    refine rdL 1 fun K hK => ?_
    go_simp
    refine (buf_callsL (W2.drew.alloc (.cells #[.string ⟨#[]⟩, .int .i64 0] 43)) O F b s (objLn.below H2.out HB4.out) (spans_below HS.out (HB2.out.trans (HB4.out.mono HB2.out.size)))).mono ?_
    rintro e w5 ⟨rfl, hb⟩
    have hbn := HB4.out.trans (hb.mono HB4.out.size)
    have qn := HSS.out w5 hbn
    have HB5 := hid hbn
    have HX5 := hid (HX4.out.below hb)
    clear hb hbn
    refine hK.out _ _ qn (fun hHeld => ?_)
    clear hK K qn
    refine rdL 12 fun K hK => ?_
    go_simp
    refine (HC.out w5 (spans_below HS.out (HB2.out.trans (HB5.out.mono HB2.out.size)))).mono ?_
    rintro e w6 ⟨rfl, hb⟩
    have hbn := HB5.out.trans (hb.mono HB5.out.size)
    have qn := HSS.out w6 hbn
    have HB6 := hid hbn
    have HX6 := hid (HX5.out.below hb)
    clear hb hbn
    refine hK.out _ _ qn (fun hHeld => ?_)
    clear hK K qn
    refine tkL 13 ?_
    refine tkL 14 ?_
    refine tkL 15 ?_
    have x5 := (HX6.out.set0 (.string (bs cs))).set1 (.int .i64 (ca : Int))
    have hb5 : Below W2.heap.size W2 ((w6.setCell ⟨W2.heap.size, 0, none⟩ (.string (bs cs))).setCell ⟨W2.heap.size, 1, none⟩ (.int .i64 (ca : Int))) := (HB6.out.setCell (p := ⟨W2.heap.size, 0, none⟩) HKW.out _).setCell (p := ⟨W2.heap.size, 1, none⟩) HKW.out _
    have hkw := HKW.out
    have q5 := HSS.out _ hb5
    have y0 := HX6.out.c0
    have y1 := HX6.out.c1
    have z0 := HX6.out.f0
    have z1 := HX6.out.f1
    have HX5 := hid x5
    have HB5 := hid hb5
    clear x5 hb5
    refine rdL 17 fun K hK => ?_
    go_simp
    refine hK.out _ _ q5 (fun hHeld => ?_)
    clear hK K
    refine enL fun K hK => ?_
    go_simp
    refine hK.out _ _ ?_
    clear hK K
    go_wp2_with fail
    go_meet
    exact ⟨_, rfl, rfl, HB5.out, HX5.out, hkw⟩
  case rest =>
   obtain ⟨K, rfl, rfl, hBc, hK, hKW⟩ := hcut
   have r0 := hK.c0
   have r1 := hK.c1
   have HBC := hid hBc
   have HKx := hid hK
   have HAc := hid (HA.out.below hBc)
   have c1 := HAc.out.box.c 1 rfl
   clear HSS HC hK hBc c2 c3 c4
   go_wp2_with fail
   refine (HT.out wc HBC.out).mono ?_
   rintro e w3 ⟨rfl, ht⟩
   obtain ⟨_, _, ho3, _⟩ := id ht
   have hnK : ¬ Rr K := fun hk => by have := HA.out.ring.lt K hk; omega
   have HX3 := hid (show Bx w3 K 43 (.string (bs cs)) (.int .i64 (ca : Int)) from HKx.out.keepO ho3 hnK)
   obtain ⟨Rr3, O3, hA3, hst⟩ := HAc.out.ring_at ht ⟨HA.out.ok.log, HA.out.ok.lim, HA.out.ok.rt, HA.out.ok.ring.turn, HA.out.ok.rlim⟩
   have HST := hid ((StepF.below O F HBC.out).trans hst)
   have H3 := hid hA3.line
   have HA3 := hid hA3
   have HSP3 : Hid (Spans w3) := hid (spans_only (spans_below HS.out HB2.out) HST.out.1 HA.out.sp.2)
   have u0 := HX3.out.c0
   have u1 := HX3.out.c1
   clear ht hA3 hst ho3 hnK HT r0 r1 c1 HKx
   generalize s.ring.l.getD s.ring.turn.i ⟨#[]⟩ = x at HK HP ⊢
   by_cases hfit : fits (cs, ca) (plainL (bl x))
   ·have hy2 : LN.yankAt s.log s.ring.turn (cs, ca) x (.yank f t) = ⟨wrG s.log (insB (cs, ca) (plainL (bl x))) 0, s.ring.turn, .yank ca (insB (cs, ca) (plainL (bl x))).2⟩ := if_pos hfit
    have HBr := hid (bring_yes w3 O3 F b _ H3.out HSP3.out (cs, ca) HR.out x HK.out hfit)
    have HY2 := hid (HP.out.trans hy2)
    clear hy2 hfit
    go_wp2_with fail
    refine HBr.out.mono ?_
    rintro e w6 ⟨rfl, ht6⟩
    have x3 := BxA.new w6 60 [.int .i64 0, .int .i64 0, .int .i64 0]
    have f0 := x3.free 0
    have f1 := x3.free 1
    have f2 := x3.free 2
    have g0 := x3.c 0 rfl
    have g1 := x3.c 1 rfl
    have g2 := x3.c 2 rfl
    have x4 := BxA.new w6 60 [.int .i64 (kdL (.yank ca (insB (cs, ca) (plainL (bl x))).2)), .int .i64 (frL (.yank ca (insB (cs, ca) (plainL (bl x))).2)), .int .i64 (toL (.yank ca (insB (cs, ca) (plainL (bl x))).2))]
    have ht7 := (HST.out.tom ht6).below objLn ((Below.refl _ w6).alloc (Nat.le_refl _) (.cells #[.int .i64 (kdL (.yank ca (insB (cs, ca) (plainL (bl x))).2)), .int .i64 (frL (.yank ca (insB (cs, ca) (plainL (bl x))).2)), .int .i64 (toL (.yank ca (insB (cs, ca) (plainL (bl x))).2))] 60))
    obtain ⟨W7, hW7⟩ : ∃ W7, w6.alloc (.cells #[.int .i64 (kdL (.yank ca (insB (cs, ca) (plainL (bl x))).2)), .int .i64 (frL (.yank ca (insB (cs, ca) (plainL (bl x))).2)), .int .i64 (toL (.yank ca (insB (cs, ca) (plainL (bl x))).2))] 60) = W7 := ⟨_, rfl⟩
    have x5 : BxA W7 w6.heap.size 60 [.int .i64 (kdL (.yank ca (insB (cs, ca) (plainL (bl x))).2)), .int .i64 (frL (.yank ca (insB (cs, ca) (plainL (bl x))).2)), .int .i64 (toL (.yank ca (insB (cs, ca) (plainL (bl x))).2))] := by rw [← hW7]; exact x4
    rw [hW7] at ht7
    have y0 := x5.c 0 rfl
    have y1 := x5.c 1 rfl
    have y2 := x5.c 2 rfl
    clear x3 x4 x5 HBr
    have hf := fin3 H.out HB2.out (Nat.le_add_right _ 1) (by have := HN2.out; omega) HD2.out (Below.refl _ W2) ht7
    have HF := hid hf.2
    have hd9 := hf.1
    have q0 := hd9.c 0 rfl
    have q1 := hd9.c 1 rfl
    have q2 := hd9.c 2 rfl
    have p0 := hd9.free 0
    have p1 := hd9.free 1
    have p2 := hd9.free 2
    have HD9 := hid hd9
    clear hf hd9
    go_wp2_with fail
    refine bodyPost_ret (results_bx3 rfl _ _ (w.heap.size + 1) _ _ _ 60 rfl (three_box HD9.out _ _ _) Tryz.underlying60 (szD _)) rfl ?_
    exact ⟨by rw [HY2.out], by rw [HY2.out, ← HL.out]; exact HF.out _ _ _⟩
   ·have hy2 : LN.yankAt s.log s.ring.turn (cs, ca) x (.yank f t) = ⟨s.log, s.ring.turn, .yank f t⟩ := if_neg hfit
    have HBr := hid (bring_no w3 O3 F b _ H3.out HSP3.out (cs, ca) HR.out x HK.out hfit)
    have HY2 := hid (HP.out.trans hy2)
    clear hy2 hfit
    go_wp2_with fail
    refine HBr.out.mono ?_
    rintro e w6 ⟨rfl, ht6⟩
    have x3 := BxA.new w6 60 [.int .i64 0, .int .i64 0, .int .i64 0]
    have f0 := x3.free 0
    have f1 := x3.free 1
    have f2 := x3.free 2
    have g0 := x3.c 0 rfl
    have g1 := x3.c 1 rfl
    have g2 := x3.c 2 rfl
    have x4 := BxA.new w6 60 [.int .i64 (kdL .none), .int .i64 (frL .none), .int .i64 (toL .none)]
    have ht7 := (HST.out.tom ht6).below objLn ((Below.refl _ w6).alloc (Nat.le_refl _) (.cells #[.int .i64 (kdL .none), .int .i64 (frL .none), .int .i64 (toL .none)] 60))
    obtain ⟨W7, hW7⟩ : ∃ W7, w6.alloc (.cells #[.int .i64 (kdL .none), .int .i64 (frL .none), .int .i64 (toL .none)] 60) = W7 := ⟨_, rfl⟩
    have x5 : BxA W7 w6.heap.size 60 [.int .i64 (kdL .none), .int .i64 (frL .none), .int .i64 (toL .none)] := by rw [← hW7]; exact x4
    rw [hW7] at ht7
    have y0 := x5.c 0 rfl
    have y1 := x5.c 1 rfl
    have y2 := x5.c 2 rfl
    clear x3 x4 x5 HBr
    obtain ⟨O7, F7, h7, _⟩ := id ht7
    obtain ⟨g7, r7, Rl7, Rr7, hA7⟩ := h7
    have v2 := hA7.box.c 2 rfl
    have v3 := hA7.box.c 3 rfl
    have v4 := hA7.box.c 4 rfl
    dsimp only at v2 v3 v4
    rw [HL.out] at v2 v3 v4
    clear hA7
    have hf := fin3 H.out HB2.out (Nat.le_add_right _ 1) (by have := HN2.out; omega) HD2.out (Below.refl _ W2) ht7
    have HF := hid hf.2
    have hd9 := hf.1
    have q0 := hd9.c 0 rfl
    have q1 := hd9.c 1 rfl
    have q2 := hd9.c 2 rfl
    have p0 := hd9.free 0
    have p1 := hd9.free 1
    have p2 := hd9.free 2
    have HD9 := hid hd9
    clear hf hd9
    go_wp2_with fail
    refine bodyPost_ret (results_bx3 rfl _ _ (w.heap.size + 1) _ _ _ 60 rfl (three_box HD9.out _ _ _) Tryz.underlying60 (szD _)) rfl ?_
    exact ⟨by rw [HY2.out], by rw [HY2.out, ← HL.out]; exact HF.out _ _ _⟩
end
end
section
open Go Go.RowKit
open Go.Lib (hid)
set_option maxRecDepth 100000
section
variable (w : World) (O F : Nat → Prop) (b : Nat) (s : LN)
theorem boxK (w : World) (k : Int) (t : ByteArray) : ∃ W2, w.alloc (.cells #[.int .i64 k, .string t] 42) = W2 ∧ Below w.heap.size w W2 ∧ Bx W2 w.heap.size 42 (.int .i64 k) (.string t) := ⟨_, rfl, (Below.refl _ w).alloc (Nat.le_refl _) _, Bx.new w _ _ _⟩
set_option maxHeartbeats 2000000 in
theorem key_hit (h : LineL w O F b s) (hsp : Spans w) (k : Int) (t : List UInt8) (N i : Nat) (s' : LN) (hfind : Instr.findNow (.int .i64) (.int .i64 k) actE.toList 0 = some (some (i, .func (.func N) #[] #[]))) (eg : ∀ args w, (callFunc N args).run Tryz.prog w = .ok (.enter N args) w)
  (hact : ∀ W, LineL W O F b s → Spans W → Calls Tryz.prog N #[.pointer (some ⟨b, 0, none⟩), .agg #[.int .i64 k, .string (bs t)]] W fun e w' => e = .returned (dV s'.last) ∧ ToLn W O F w' b ⟨s'.log, s'.ring, s.last⟩) :
  Calls Tryz.prog 12 #[.pointer (some ⟨b, 0, none⟩), .agg #[.int .i64 k, .string (bs t)]] w fun e w' => e = .returned (.bool true) ∧ ToLn w O F w' b s' := by
 obtain ⟨W2, hW2, hB2, hx2⟩ := boxK w k (bs t)
 have HX2 := hid hx2
 have HB2 := hid hB2
 have H := hid h
 have HS := hid hsp
 have HAct := hid hact
 have HFd := hid hfind
 have hx0 := hx2.c0
 clear h hsp hB2 hact hx2 hfind
 go_enter Tryz.func12, Tryz.ntmps12
 go_upto_region 1 with fail
 refine wp_region_held_drew (S := (fun w' => w'.cell? ⟨w.heap.size, 0, none⟩ = some (.int .i64 k))) (by kernel_rfl) hx0 (fun hHeld => ?_)
 refine tkH 1 ?_
 refine tkH 2 ?_
 refine rdH 0 fun K hK => ?_
 go_simp
 refine (acts_calls W2.drew).mono ?_
 rintro e w3 ⟨m, rfl, hm, hb3⟩
 have hrun := acts_find hm k i _ HFd.out
 have hb3' : Below W2.heap.size W2 w3 := (Below.refl _ W2).drew.trans hb3
 have x3 := HX2.out.below hb3'
 have q3 := x3.c0
 have q4 := x3.c1
 have HB3 := hid (HB2.out.trans (hb3'.mono HB2.out.size))
 clear hb3 hb3' hm x3
 refine hK.out _ _ q3 (fun hHeld => ?_)
 clear hK K
 refine rdH 3 fun K hK => ?_
 go_simp
 refine hK.out _ _ q3 (fun hHeld => ?_)
 clear hK K
 refine tkH 4 ?_
 refine tkH 5 ?_
 refine tkH 6 ?_
 refine tkH 7 ?_
 refine tkH 8 ?_
 refine wpAnyH_done (by kernel_rfl) ?_ _
 go_wp2_with fail
 refine (HAct.out w3 (objLn.below H.out HB3.out) (spans_below HS.out HB3.out)).mono ?_
 rintro e w8 ⟨rfl, ht⟩
 obtain ⟨O8, F8, h8, hst⟩ := ht
 obtain ⟨g, r, Rl, Rr, hA⟩ := h8
 have z2 := hA.box.c 2 rfl
 have z3 := hA.box.c 3 rfl
 have z4 := hA.box.c 4 rfl
 have y2 := hA.box.free 2
 have y3 := hA.box.free 3
 have y4 := hA.box.free 4
 have hto := hA.last_to s'.last
 have HT := hid (((StepF.below O F HB3.out).trans hst).tom hto)
 clear hA hst hto HAct q3 q4 hrun hx0
 go_wp2_with fail
 go_ret
 exact ⟨rfl, HT.out⟩
set_option maxHeartbeats 2000000 in
theorem key_miss (h : LineL w O F b s) (k : Int) (t : List UInt8) (hn : k ≠ 1 ∧ k ≠ 26 ∧ k ≠ 3 ∧ k ≠ 4 ∧ k ≠ 24 ∧ k ≠ 5 ∧ k ≠ 6 ∧ k ≠ 7 ∧ k ≠ 8 ∧ k ≠ 9 ∧ k ≠ 10 ∧ k ≠ 11 ∧ k ≠ 14 ∧ k ≠ 12 ∧ k ≠ 13 ∧ k ≠ 15 ∧ k ≠ 16 ∧ k ≠ 17 ∧ k ≠ 18) :
  Calls Tryz.prog 12 #[.pointer (some ⟨b, 0, none⟩), .agg #[.int .i64 k, .string (bs t)]] w fun e w' => e = .returned (.bool false) ∧ ToLn w O F w' b s := by
 obtain ⟨W2, hW2, hB2, hx2⟩ := boxK w k (bs t)
 have HX2 := hid hx2
 have HB2 := hid hB2
 have H := hid h
 have HN := hid hn
 have hx0 := hx2.c0
 clear h hB2 hx2 hn
 go_enter Tryz.func12, Tryz.ntmps12
 go_upto_region 1 with fail
 refine wp_region_held_drew (S := (fun w' => w'.cell? ⟨w.heap.size, 0, none⟩ = some (.int .i64 k))) (by kernel_rfl) hx0 (fun hHeld => ?_)
 refine tkH 1 ?_
 refine tkH 2 ?_
 refine rdH 0 fun K hK => ?_
 go_simp
 refine (acts_calls W2.drew).mono ?_
 rintro e w3 ⟨m, rfl, hm, hb3⟩
 have hrun := acts_none hm k HN.out
 have hb3' : Below W2.heap.size W2 w3 := (Below.refl _ W2).drew.trans hb3
 have x3 := HX2.out.below hb3'
 have q3 := x3.c0
 have q4 := x3.c1
 have HB3 := hid (HB2.out.trans (hb3'.mono HB2.out.size))
 clear hb3 hb3' hm x3
 refine hK.out _ _ q3 (fun hHeld => ?_)
 clear hK K
 refine rdH 3 fun K hK => ?_
 go_simp
 refine hK.out _ _ q3 (fun hHeld => ?_)
 clear hK K
 refine tkH 4 ?_
 refine tkH 5 ?_
 refine tkH 6 ?_
 refine tkH 7 ?_
 refine tkH 8 ?_
 refine wpAnyH_done (by kernel_rfl) ?_ _
 go_wp2_with fail
 go_ret
 exact ⟨rfl, ToF.of_below objLn H.out HB3.out⟩
set_option maxHeartbeats 4000000 in
theorem key_callsL (h : LineL w O F b s) (hsp : Spans w) (k : Int) (t : List UInt8) (ht : t.length ≤ 100000) (hB : SmR s.ring 1000000) :
  Calls Tryz.prog 12 #[.pointer (some ⟨b, 0, none⟩), .agg #[.int .i64 k, .string (bs t)]] w fun e w' => e = .returned (.bool (LN.known k)) ∧ ToLn w O F w' b (s.key k t) := by
 by_cases h0 : k = 1
 ·subst h0
  refine key_hit w O F b s h hsp 1 t 70 0 (s.key 1 t) rfl (enters_of Tryz.func70 (by kernel_rfl) rfl) (fun W h' hS => ?_)
  have := act_sign W O F b s 1 t ht h' hS
  show Calls _ _ _ W fun e w' => e = .returned (dV (s.ins t (if wordT t then 1 else 0)).last) ∧ ToLn W O F w' b ⟨(s.ins t (if wordT t then 1 else 0)).log, (s.ins t (if wordT t then 1 else 0)).ring, s.last⟩
  unfold LN.ins
  by_cases hf : fits s.buf (plainL t)
  ·rw [if_pos hf] at this ⊢; exact this
  ·rw [if_neg hf] at this ⊢; exact this
 by_cases h1 : k = 26
 ·subst h1
  refine key_hit w O F b s h hsp 26 t 71 1 (s.key 26 t) rfl (enters_of Tryz.func71 (by kernel_rfl) rfl) (fun W h' hS => ?_)
  have := act_paste W O F b s 26 t ht h' hS
  show Calls _ _ _ W fun e w' => e = .returned (dV (s.ins t 0).last) ∧ ToLn W O F w' b ⟨(s.ins t 0).log, (s.ins t 0).ring, s.last⟩
  unfold LN.ins
  by_cases hf : fits s.buf (plainL t)
  ·rw [if_pos hf] at this ⊢; exact this
  ·rw [if_neg hf] at this ⊢; exact this
 by_cases h2 : k = 3
 ·subst h2
  refine key_hit w O F b s h hsp 3 t 72 2 (s.key 3 t) rfl (enters_of Tryz.func72 (by kernel_rfl) rfl) (fun W h' hS => ?_)
  have := act_backspace W O F b s 3 (bs t) h' hS
  exact this
 by_cases h3 : k = 4
 ·subst h3
  refine key_hit w O F b s h hsp 4 t 73 3 (s.key 4 t) rfl (enters_of Tryz.func73 (by kernel_rfl) rfl) (fun W h' hS => ?_)
  have := act_del W O F b s 4 (bs t) h' hS
  exact this
 by_cases h4 : k = 24
 ·subst h4
  refine key_hit w O F b s h hsp 24 t 74 4 (s.key 24 t) rfl (enters_of Tryz.func74 (by kernel_rfl) rfl) (fun W h' hS => ?_)
  have := act_swap W O F b s 24 (bs t) h' hS
  show Calls _ _ _ W fun e w' => e = .returned (dV s.swap.last) ∧ ToLn W O F w' b ⟨s.swap.log, s.swap.ring, s.last⟩
  unfold LN.swap
  by_cases hf : (swapR s.buf.1 s.buf.2).2.2 = true
  ·rw [if_pos hf] at this ⊢; exact this
  ·rw [if_neg hf] at this ⊢; exact this
 by_cases h5 : k = 5
 ·subst h5
  refine key_hit w O F b s h hsp 5 t 75 5 (s.key 5 t) rfl (enters_of Tryz.func75 (by kernel_rfl) rfl) (fun W h' hS => ?_)
  have := act_left W O F b s 5 (bs t) h' hS
  exact this
 by_cases h6 : k = 6
 ·subst h6
  refine key_hit w O F b s h hsp 6 t 76 6 (s.key 6 t) rfl (enters_of Tryz.func76 (by kernel_rfl) rfl) (fun W h' hS => ?_)
  have := act_right W O F b s 6 (bs t) h' hS
  exact this
 by_cases h7 : k = 7
 ·subst h7
  refine key_hit w O F b s h hsp 7 t 77 7 (s.key 7 t) rfl (enters_of Tryz.func77 (by kernel_rfl) rfl) (fun W h' hS => ?_)
  have := act_home W O F b s 7 (bs t) h' hS
  exact this
 by_cases h8 : k = 8
 ·subst h8
  refine key_hit w O F b s h hsp 8 t 78 8 (s.key 8 t) rfl (enters_of Tryz.func78 (by kernel_rfl) rfl) (fun W h' hS => ?_)
  have := act_end W O F b s 8 (bs t) h' hS
  exact this
 by_cases h9 : k = 9
 ·subst h9
  refine key_hit w O F b s h hsp 9 t 79 9 (s.key 9 t) rfl (enters_of Tryz.func79 (by kernel_rfl) rfl) (fun W h' hS => ?_)
  have := act_wordLeft W O F b s 9 (bs t) h' hS
  exact this
 by_cases h10 : k = 10
 ·subst h10
  refine key_hit w O F b s h hsp 10 t 80 10 (s.key 10 t) rfl (enters_of Tryz.func80 (by kernel_rfl) rfl) (fun W h' hS => ?_)
  have := act_wordRight W O F b s 10 (bs t) h' hS
  exact this
 by_cases h11 : k = 11
 ·subst h11
  refine key_hit w O F b s h hsp 11 t 81 11 (s.key 11 t) rfl (enters_of Tryz.func81 (by kernel_rfl) rfl) (fun W h' hS => ?_)
  have := act_killEnd W O F b s 11 (bs t) h' hS hB
  exact this
 by_cases h12 : k = 14
 ·subst h12
  refine key_hit w O F b s h hsp 14 t 82 12 (s.key 14 t) rfl (enters_of Tryz.func82 (by kernel_rfl) rfl) (fun W h' hS => ?_)
  have := act_killWord W O F b s 14 (bs t) h' hS hB
  exact this
 by_cases h13 : k = 12
 ·subst h13
  refine key_hit w O F b s h hsp 12 t 83 13 (s.key 12 t) rfl (enters_of Tryz.func83 (by kernel_rfl) rfl) (fun W h' hS => ?_)
  have := act_killStart W O F b s 12 (bs t) h' hS hB
  exact this
 by_cases h14 : k = 13
 ·subst h14
  refine key_hit w O F b s h hsp 13 t 84 14 (s.key 13 t) rfl (enters_of Tryz.func84 (by kernel_rfl) rfl) (fun W h' hS => ?_)
  have := act_killBack W O F b s 13 (bs t) h' hS hB
  exact this
 by_cases h15 : k = 15
 ·subst h15
  refine key_hit w O F b s h hsp 15 t 85 15 (s.key 15 t) rfl (enters_of Tryz.func85 (by kernel_rfl) rfl) (fun W h' hS => ?_)
  have := act_yank W O F b s 15 (bs t) h' hS hB
  exact this
 by_cases h16 : k = 16
 ·subst h16
  refine key_hit w O F b s h hsp 16 t 86 16 (s.key 16 t) rfl (enters_of Tryz.func86 (by kernel_rfl) rfl) (fun W h' hS => ?_)
  have := act_pop W O F b s 16 (bs t) h' hS hB
  exact this
 by_cases h17 : k = 17
 ·subst h17
  refine key_hit w O F b s h hsp 17 t 87 17 (s.key 17 t) rfl (enters_of Tryz.func87 (by kernel_rfl) rfl) (fun W h' hS => ?_)
  have := act_undo W O F b s 17 (bs t) h' hS
  exact this
 by_cases h18 : k = 18
 ·subst h18
  refine key_hit w O F b s h hsp 18 t 88 18 (s.key 18 t) rfl (enters_of Tryz.func88 (by kernel_rfl) rfl) (fun W h' hS => ?_)
  have := act_redo W O F b s 18 (bs t) h' hS
  exact this
 have hk : LN.known k = false := decide_eq_false (by omega)
 have hs : s.key k t = s := by
  unfold LN.key
  simp only [h0, h1, h2, h3, h4, h5, h6, h7, h8, h9, h10, h11, h12, h13, h14, h15, h16, h17, h18, if_false]
 rw [hk, hs]
 exact key_miss w O F b s h k t ⟨h0, h1, h2, h3, h4, h5, h6, h7, h8, h9, h10, h11, h12, h13, h14, h15, h16, h17, h18⟩
end
end
section
open Go Go.RowKit Go.Shelf
attribute [local go_sem] Oper.semAt_some
set_option maxRecDepth 100000
set_option maxHeartbeats 4000000 in
theorem kills_callsL (w : World) (O F : Nat → Prop) (b : Nat) (s : LN) (h : LineL w O F b s) (_ : Spans w) :
  Calls Tryz.prog 14 #[.pointer (some ⟨b, 0, none⟩)] w fun e w' => ∃ A c, e = .returned (.slice A s.ring.l.length c) ∧ RdV Value.string w' A s.ring.l ∧ Below w.heap.size w w' := by
 obtain ⟨i0, hi, hz0, hz1, hz2⟩ := info_parts infoS
 obtain ⟨g, r, Rl, Rr, hA⟩ := h
 have hrl := fun k hk => hA.ring.lt k hk
 have c1 := ((hA.box.alloc (.cells #[.slice none 0 0] 30))).c 1 rfl
 have HR := Lib.hid hA.ring
 have hlen := hA.ring.ok.len
 have hle := hA.ring.ok.le
 clear hA
 generalize s.ring = q at *
 refine (callsIn_wide (n := 4)).1 ?_
 refine callsIn_of_wp_marks Tryz.func14 rfl trivial ?_ rfl
 simp only [Tryz.ntmps14, List.size_toArray, List.length_cons, List.length_nil, Nat.reduceAdd, Nat.reduceSub, Array.replicate_succ, Array.replicate_zero, List.push_toArray, List.append_toArray, List.nil_append, List.cons_append]
 gi_wp2_with (refine ⟨trivial, ?_⟩; gi_at_call 36; refine (all_inS _ _ _).mono ?_; rintro e w' ⟨rfl, rfl⟩)
 have bO := Boxed.new w 30 (.slice none 0 0)
 have bN := Boxed.new (w.alloc (.cells #[.slice none 0 0] 30)) 57 (.pointer (some ⟨r, 0, none⟩))
 rw [World.size_alloc] at bN
 have hB0 : Below w.heap.size w ((w.alloc (.cells #[.slice none 0 0] 30)).alloc (.cells #[.pointer (some ⟨r, 0, none⟩)] 57)) := ((Below.refl _ w).alloc (Nat.le_refl _) _).alloc (by simp) _
 refine wpIn_rangeFunc_ownG rfl (by omega) (gf := 89) (lb := #[.pointer (some ⟨w.heap.size + 1, 0, none⟩)]) rfl trivial (enters_of Tryz.func89 (by kernel_rfl) rfl)
  (all_stopsS 3 (by omega) (w.heap.size + 1) w.heap.size _ Rr r q (HR.out.below hB0) hrl bN) belowK_t (belowK_b (by simp; omega)) (Below.refl _ _) (fun _ => rfl)
  (fun pre W => (∃ v, Boxed W w.heap.size 30 v ∧ W.ownsRow (w.heap.size + 2) 9 1 v pre.length (cellsS ((valsL pre).map (·.2))) ∧ True) ∧ (Below w.heap.size w W ∧ w.heap.size + 2 ≤ W.heap.size))
  (fun _ _ _ => False)
  (OwnFrom.and (Own.from (holdsRow_own (w.heap.size + 2) w.heap.size 30 9 1 (fun pre : List (OfL q.l) => pre.length) (fun pre => cellsS ((valsL pre).map (·.2))) (fun _ _ => True)) _) (OwnFrom.and (ownFrom_below (Nat.le_refl _) (by simp; omega)) (ownFrom_size _ _)))
  (fun _ _ _ _ _ hs _ _ => hs)
  ⟨⟨_, bO.alloc _, World.ownsRow_nil _ _ _ _, trivial⟩, hB0, by simp⟩
  (fun x => { tmps := #[.pointer (some ⟨b, 0, none⟩), undef, .slice none 0 0, .pointer (some ⟨w.heap.size, 0, none⟩), undef, .string x.1.2, .pointer (some ⟨b, 0, none⟩), .pointer (some ⟨b, 0, none⟩), .pointer (some ⟨b, 1, none⟩), .pointer (some ⟨r, 0, none⟩), .func (.func 89) #[] #[.pointer (some ⟨w.heap.size + 1, 0, none⟩)], .int .i64 (x.1.1 : Int), .string x.1.2, undef, undef, undef, undef, undef], defers := [] }) ?assign ?body ?done ?stop
 case assign =>
  intro l x W K hK
  gi_wp2
  exact hK
 case body =>
  rintro l pre x W ⟨⟨v, hv, hrow, _⟩, hB, hsz⟩ hlt
  have hc := hv.cell
  gi_wp2_with (gi_at_builtin; refine wpListIn_append_own _ rfl _ _ 30 rfl (w.heap.size + 2) 9 i0 (.string ⟨#[]⟩) 1 16 Tryz.underlying30 hi hz0 hz1 hz2 rfl (by decide) _ _ _ rfl (hrow.alloc _) ⟨W.heap.size, 0, none⟩ 1 1 [.string x.1.2] rfl rfl (cell_one_new _ _ _) (by simp [Value.oneCell']) (by unfold maxLen; omega) (by omega) (by simp; omega) ?_; intro v' w1 hown' hgrow _; obtain ⟨g', cap', rfl⟩ := ownsRow_succ hown'; obtain ⟨hv1, hv2, hr2, hk2, hb2, hs2⟩ := box_appended hv hrow (by omega) hsz hown' hgrow; have hc1 := hv1.cell; have hf1 := hv1.frozen)
  refine ⟨hk2.from _, hb2 _ (Nat.le_refl _), ⟨_, hv2, ?_, trivial⟩, hB.trans (hb2 _ (Nat.le_refl _)), Nat.le_trans hsz hk2.size⟩
  rw [valsL_snoc, List.map_append, List.map_cons, List.map_nil, cellsS_snoc]
  simpa using hr2
 case done =>
  rintro D ys W hD hys ⟨⟨v, hv, hrow, _⟩, hB, hsz⟩ hK
  have hc := hv.cell
  rw [← valsL_length, hys, told_snd, told_length] at hrow
  gi_wp2
  refine ⟨by simp, .inl ⟨_, _, rfl, run_takeDeferred hK, ?_⟩⟩
  have h2 := ownsRow_putObj hrow (.deferred none) hK rfl
  obtain ⟨A, c, rfl⟩ := own_form h2
  refine ⟨_, results_tmp rfl _ _ _, A, c, rfl, (rdV_of_own (V := Value.string) h2).1, hB.trans (belowK_b (w := w) (Nat.le_refl _) W D _ _ (by simp at hD; omega) hK rfl rfl)⟩
 case stop =>
  rintro D c pre W _ _ h _
  exact h.elim
end
section
open Go Go.RowKit
open Go.Lib (hid)
set_option maxRecDepth 100000
theorem empty_callsL (w : World) : Calls Tryz.prog 24 #[] w fun e w' => ∃ g, e = .returned (.pointer (some ⟨g, 0, none⟩)) ∧ InL LogB w w' g (LS.new ([], 0) 32) := by
 go_enter Tryz.func24, Tryz.ntmps24
 go_wp2_with fail
 refine (new_callsB ([], 0) 32 w).mono ?_
 rintro e w2 ⟨g, rfl, hi⟩
 go_wp2
 go_ret
 exact ⟨g, rfl, hi⟩
theorem new_callsL (w : World) (hsp : Spans w) :
  Calls Tryz.prog 9 #[] w fun e w' => ∃ b, e = .returned (.pointer (some ⟨b, 0, none⟩)) ∧ InLn w w' b LN.new := by
 have HS := hid (spans_lt hsp)
 clear hsp
 go_enter Tryz.func9, Tryz.ntmps9
 go_wp2_with fail
 refine (empty_callsL w).mono ?_
 rintro e w2 ⟨g, rfl, hi⟩
 have HI := hid hi
 clear hi
 go_wp2_with fail
 refine (new_callsS 8 w2).mono ?_
 rintro e w3 ⟨rfl, hw3⟩
 have hr := newRingS 8 w2
 have hb3 : Below w2.heap.size w2 w3 := by rw [← hw3]; exact (Below.refl _ w2).alloc (Nat.le_refl _) _
 rw [hw3] at hr
 have HR := hid hr
 have HB3 := hid hb3
 clear hr hb3 hw3
 go_wp2
 go_ret
 exact ⟨_, rfl, line_new HI.out HB3.out HR.out (fun k hk => Nat.le_of_eq hk.symm) ((Below.refl _ w3).alloc (Nat.le_refl _) _) (Nat.le_refl _) (BxA.new w3 62 (lnC g w2.heap.size .none)) LN.Ok.new HS.out⟩
set_option maxHeartbeats 2000000 in
theorem copy_callsL (w : World) (O F : Nat → Prop) (b : Nat) (s : LN) (h : LineL w O F b s) (_ : Spans w) :
  Calls Tryz.prog 21 #[.pointer (some ⟨b, 0, none⟩)] w fun e w' => ∃ b', e = .returned (.pointer (some ⟨b', 0, none⟩)) ∧ CopF LineL w F w' b' s := by
 obtain ⟨g, r, Rl, Rr, hA⟩ := h
 have c0 := hA.box.c 0 rfl
 have c1 := hA.box.c 1 rfl
 have c2 := hA.box.c 2 rfl
 have c3 := hA.box.c 3 rfl
 have c4 := hA.box.c 4 rfl
 have HSS : Hid (∀ W, Below w.heap.size w W → W.cell? ⟨b, 0, none⟩ = some (.pointer (some ⟨g, 0, none⟩)) ∧ W.cell? ⟨b, 1, none⟩ = some (.pointer (some ⟨r, 0, none⟩)) ∧ W.cell? ⟨b, 2, none⟩ = some (.int .i64 (kdL s.last)) ∧ W.cell? ⟨b, 3, none⟩ = some (.int .i64 (frL s.last)) ∧ W.cell? ⟨b, 4, none⟩ = some (.int .i64 (toL s.last))) := hid (fun W hW => ⟨(hA.box.below hW).c 0 rfl, (hA.box.below hW).c 1 rfl, (hA.box.below hW).c 2 rfl, (hA.box.below hW).c 3 rfl, (hA.box.below hW).c 4 rfl⟩)
 have HA := hid (hA.below (Below.refl _ w).drew)
 have HB : Hid (Below w.heap.size w w.drew) := hid (Below.refl _ w).drew
 have HA0 := hid hA
 clear hA
 go_enter Tryz.func21, Tryz.ntmps21
 go_upto_region 1 with fail
 refine wp_region_held_drew (S := (fun w' => w'.cell? ⟨b, 0, none⟩ = some (.pointer (some ⟨g, 0, none⟩)) ∧ w'.cell? ⟨b, 1, none⟩ = some (.pointer (some ⟨r, 0, none⟩)) ∧ w'.cell? ⟨b, 2, none⟩ = some (.int .i64 (kdL s.last)) ∧ w'.cell? ⟨b, 3, none⟩ = some (.int .i64 (frL s.last)) ∧ w'.cell? ⟨b, 4, none⟩ = some (.int .i64 (toL s.last)))) (by kernel_rfl) ⟨c0, c1, c2, c3, c4⟩ (fun hHeld => ?_)
 refine tkH 0 ?_
 refine tkH 1 ?_
 refine tkH 2 ?_
 refine tkH 3 ?_
 refine tkH 5 ?_
 refine tkH 6 ?_
 refine tkH 7 ?_
 refine tkH 8 ?_
 refine tkH 10 ?_
 refine tkH 11 ?_
 refine tkH 12 ?_
 refine tkH 13 ?_
 refine rdH 4 fun K hK => ?_
 go_simp
 refine (copy_callsBB w.drew Rl g s.log HA.out.log).mono ?_
 rintro e w3 ⟨g', rfl, hc⟩
 have hb3 := HB.out.trans (CopL.bel hc)
 have q3 := HSS.out w3 hb3
 have HC := hid hc
 have HB3 := hid hb3
 clear hb3 hc
 refine hK.out _ _ q3 (fun hHeld => ?_)
 clear hK K
 refine rdH 9 fun K hK => ?_
 go_simp
 refine (copy_callsS w3 Rr r s.ring (HA0.out.ring.below HB3.out)).mono ?_
 rintro e w4 ⟨rfl, hb4, R', hr, hr2⟩
 have hb4' := HB3.out.trans (hb4.mono HB3.out.size)
 have q4 := HSS.out w4 hb4'
 have hbx := BxA.new w4 62 (lnC g' w3.heap.size s.last)
 have h3 : Below w4.heap.size w4 (w4.alloc (.cells #[.pointer (some ⟨g', 0, none⟩), .pointer (some ⟨w3.heap.size, 0, none⟩), .int .i64 (kdL s.last), .int .i64 (frL s.last), .int .i64 (toL s.last)] 62)) := (Below.refl _ w4).alloc (Nat.le_refl _) _
 have q5 := HSS.out _ (hb4'.trans (h3.mono hb4'.size))
 have hcop := HA.out.copied HC.out hb4 hr hr2 h3 (Nat.le_refl _) hbx
 have HCop := hid hcop
 clear hb4 hb4' hr hr2 hbx h3 hcop
 refine hK.out _ _ q4 (fun hHeld => ?_)
 clear hK K
 refine tkH 14 ?_
 refine rdH 15 fun K hK => ?_
 go_simp
 refine hK.out _ _ q5 (fun hHeld => ?_)
 clear hK K
 refine tkH 16 ?_
 refine wpAnyH_done (by kernel_rfl) ?_ _
 go_wp2_with fail
 go_ret
 obtain ⟨O', F', a1, a2, a3, a4⟩ := HCop.out
 exact ⟨_, rfl, O', F', a1, fun k hk => Nat.le_trans HB.out.size (a2 k hk), fun k hk => (a3 k hk).imp id (fun h => Nat.le_trans HB.out.size h), HB.out.trans a4⟩
end
section
open Go Go.RowKit
open Go.Lib (hid)
set_option maxRecDepth 100000
theorem mA_end (t : List UInt8) : mA t 600 = (mS t).length := backL_all _ _ (by have := mS_len t; omega)
theorem wr_brk (l : LS Bf) (x : Bf) : wrG l.brk x 0 = wrG l x 0 := by
 unfold wrG
 rw [if_pos rfl, if_pos rfl]
 unfold LS.does
 rw [show l.brk.now = l.now from rfl]
 split
 ·rfl
 ·unfold LS.put LS.brk
  simp
section
variable (w : World) (O F : Nat → Prop) (b : Nat) (s : LN)
set_option maxHeartbeats 2000000 in
theorem set_callsL (h : LineL w O F b s) (hsp : Spans w) (t : List UInt8) (ht : t.length ≤ 100000) (_ : SmR s.ring 1000000) :
  Calls Tryz.prog 27 #[.pointer (some ⟨b, 0, none⟩), .string (bs t)] w fun e w' => e = .returned (.tuple #[]) ∧ ToLn w O F w' b (s.set t) := by
 have HM := hid (make_calls t 600 (Nat.le_trans ht (by decide)) w hsp)
 rw [mA_end] at HM
 have H := hid h
 have HR : Hid (Rt (mS t) (mS t).length) := hid ⟨mS_P t, mS_len t, isB_all _⟩
 show Calls _ _ _ w fun e w' => e = .returned (.tuple #[]) ∧ ToLn w O F w' b ⟨wrG s.log (mS t, (mS t).length) 0, s.ring, .none⟩
 clear h hsp ht
 generalize mS t = m at *
 go_enter Tryz.func27, Tryz.ntmps27
 go_wp2_with fail
 refine HM.out.mono ?_
 rintro e w2 ⟨rfl, hb2⟩
 have HB2 := hid hb2
 clear hb2 HM
 go_wp2_with fail
 refine (write_callsL w2 O F b s (objLn.below H.out HB2.out) (m, m.length) HR.out).mono ?_
 rintro e w3 ⟨rfl, O3, F3, ⟨g, r, Rl, Rr, hA⟩, hst⟩
 have z2 := hA.box.c 2 rfl
 have z3 := hA.box.c 3 rfl
 have z4 := hA.box.c 4 rfl
 have y2 := hA.box.free 2
 have y3 := hA.box.free 3
 have y4 := hA.box.free 4
 have hto := hA.last_to .none
 have HT := hid (((StepF.below O F HB2.out).trans hst).tom hto)
 clear hA hst hto
 go_wp2_with fail
 go_end0
 exact ⟨rfl, HT.out⟩
set_option maxHeartbeats 2000000 in
theorem change_callsL (h : LineL w O F b s) (hsp : Spans w) (n : Int) (t : List UInt8) (ht : t.length ≤ 100000) (_ : SmR s.ring 1000000) :
  Calls Tryz.prog 23 #[.pointer (some ⟨b, 0, none⟩), .agg #[.string (bs t), .int .i64 n]] w fun e w' => e = .returned (.bool (decide ((mS t, mA t n) ≠ s.buf))) ∧ ToLn w O F w' b (s.change t n) := by
 obtain ⟨W1, hW1⟩ : ∃ W1, w.alloc (.cells #[.string (bs t), .int .i64 n] 43) = W1 := ⟨_, rfl⟩
 have k0 : Below w.heap.size w W1 := by rw [← hW1]; exact (Below.refl _ w).alloc (Nat.le_refl _) _
 have hx1 : Bx W1 w.heap.size 43 (.string (bs t)) (.int .i64 n) := by rw [← hW1]; exact Bx.new w 43 _ _
 obtain ⟨g, r, Rl, Rr, hA⟩ := objLn.below h k0
 have hbl := objLn.lt h b (.inl (objLn.ins h))
 have z2 := hA.box.c 2 rfl
 have z3 := hA.box.c 3 rfl
 have z4 := hA.box.c 4 rfl
 have y2 := hA.box.free 2
 have y3 := hA.box.free 3
 have y4 := hA.box.free 4
 have hto := hA.last_to .none
 have HSP := hid (spans_below hsp k0)
 have HNB := hid hA.sp.2
 have HT := hid ((StepF.below O F k0).tom hto)
 have ho : Only (fun k => k = b) W1 (((W1.setCell ⟨b, 2, none⟩ (.int .i64 (kdL .none))).setCell ⟨b, 3, none⟩ (.int .i64 (frL .none))).setCell ⟨b, 4, none⟩ (.int .i64 (toL .none))) := (((Only.refl (fun k => k = b) W1).set (p := ⟨b, 2, none⟩) (.inl rfl) _).set (p := ⟨b, 3, none⟩) (.inl rfl) _).set (p := ⟨b, 4, none⟩) (.inl rfl) _
 have x3 := hx1.keepO ho (fun (e : w.heap.size = b) => by omega)
 have hOb := (hA.hO b).2 (.inl rfl)
 have HSP3 := hid (spans_only (O := fun k => k = b) HSP.out ho (fun e => HNB.out (by rw [e]; exact hOb)))
 have HM := hid (fun W hS => make_calls t n (Nat.le_trans ht (by decide)) W hS)
 have HR : Hid (Rt (mS t) (mA t n)) := hid (make_rt t n)
 obtain ⟨dd, hdd⟩ : ∃ dd, decide ((mS t, mA t n) ≠ s.buf) = dd := ⟨_, rfl⟩
 rw [hdd]
 have Hdd := hid hdd
 clear hdd
 show Calls _ _ _ w fun e w' => e = .returned (.bool dd) ∧ ToLn w O F w' b ⟨wrG s.log (mS t, mA t n) 0, s.ring, .none⟩
 have u0 : (((W1.setCell ⟨b, 2, none⟩ (.int .i64 0)).setCell ⟨b, 3, none⟩ (.int .i64 0)).setCell ⟨b, 4, none⟩ (.int .i64 0)).cell? ⟨w.heap.size, 0, none⟩ = some (.string (bs t)) := x3.c0
 have u1 : (((W1.setCell ⟨b, 2, none⟩ (.int .i64 0)).setCell ⟨b, 3, none⟩ (.int .i64 0)).setCell ⟨b, 4, none⟩ (.int .i64 0)).cell? ⟨w.heap.size, 1, none⟩ = some (.int .i64 n) := x3.c1
 clear h hsp ht hA hto hx1 k0 hbl ho x3 hOb
 generalize mS t = m at *
 generalize mA t n = a at *
 go_enter Tryz.func23, Tryz.ntmps23
 go_wp2_with fail
 refine (HM.out _ HSP3.out).mono ?_
 rintro e w3 ⟨rfl, hb3⟩
 have HT3 := hid (HT.out.below objLn hb3)
 clear hb3 HM
 go_wp2_with fail
 obtain ⟨O3, F3, h3, hst⟩ := HT3.out
 refine (write_callsL w3 O3 F3 b _ h3 (m, a) HR.out).mono ?_
 rintro e w4 ⟨rfl, ht4⟩
 rw [show LN.buf ⟨s.log, s.ring, .none⟩ = s.buf from rfl, Hdd.out]
 have HT4 := hid (StepF.tom hst ht4)
 clear h3 hst ht4
 go_wp2_with fail
 go_ret
 exact ⟨rfl, HT4.out⟩
set_option maxHeartbeats 4000000 in
theorem add_callsL (h : LineL w O F b s) (hsp : Spans w) (t : List UInt8) (ht : t.length ≤ 100000) (_ : SmR s.ring 1000000) :
  Calls Tryz.prog 22 #[.pointer (some ⟨b, 0, none⟩), .string (bs t)] w fun e w' => e = .returned (.bool (s.canAdd t)) ∧ ToLn w O F w' b (s.add t) := by
 have hrt := (line_ok h).rt.1
 have hl6 : s.buf.1.length ≤ 137438953472 := Nat.le_trans hrt.2.1 (by decide)
 have hp6 : t.length ≤ 137438953472 := Nat.le_trans ht (by decide)
 have hend : Rt s.buf.1 s.buf.1.length := ⟨hrt.1, hrt.2.1, isB_all _⟩
 have e1 : mS s.buf.1 = s.buf.1 := hend.make.1
 have e2 : mA s.buf.1 (s.buf.1.length : Nat) = s.buf.1.length := hend.make.2
 obtain ⟨g, r, Rl, Rr, hA⟩ := h
 have c0 := hA.box.c 0 rfl
 have HA := hid hA
 have HBr := hid (break_callsB w Rl g s.log hA.log)
 have HS := hid hsp
 have hsz := bs_size s.buf.1
 have HW : ∀ (w' : World) (O' F' : Nat → Prop), StepF w O F w' O' F' → Spans w' := fun _ _ _ hst => spans_only hsp hst.1 hA.sp.2
 have HWs := hid HW
 have hx : insS s.buf.1 s.buf.1.length (plainL t) = s.buf.1 ++ plainL t := by unfold insS; rw [List.take_length, List.drop_length, List.append_nil]
 have Hx := hid hx
 have HE := hid hend
 by_cases hfit : fits s.buf (plainL t)
 ·have HI : Hid (∀ W, Spans W → Calls Tryz.prog 53 #[.agg #[.string (bs s.buf.1), .int .i64 (s.buf.1.length : Int)], .string (bs t)] W fun e w' => e = .returned (.tuple #[.agg #[.string (bs (s.buf.1 ++ plainL t)), .int .i64 ((insB (s.buf.1, s.buf.1.length) (plainL t)).2 : Int)], .int .i64 0]) ∧ Below W.heap.size W w') := hid (fun W hS => by
   have := insert_ok s.buf.1 t (s.buf.1.length : Nat) hl6 hp6 W hS (by rw [e1]; exact hfit)
   rwa [e1, e2, hx] at this)
  have HR : Hid (Rt (insB (s.buf.1, s.buf.1.length) (plainL t)).1 (insB (s.buf.1, s.buf.1.length) (plainL t)).2) := hid (LN.insB_rt hend (plain_P t) hfit)
  rw [show (insB (s.buf.1, s.buf.1.length) (plainL t)).1 = s.buf.1 ++ plainL t from hx] at HR
  have hq1 : ((0 : Int) != 0) = false := rfl
  by_cases hp : plainL t = []
  ·have hca : s.canAdd t = false := by unfold LN.canAdd; rw [decide_eq_false (show ¬ (plainL t ≠ []) from fun e => e hp), Bool.and_false]
   have had : s.add t = ⟨s.log.brk, s.ring, .none⟩ := by unfold LN.add; rw [if_neg (by rw [hca]; exact Bool.false_ne_true)]
   rw [hca, had]
   rw [hp, List.append_nil] at HI
   have hnb : (s.buf.1 == s.buf.1) = true := beq_self_eq_true _
   clear hrt hl6 hp6 hend e1 e2 hx HW hsp ht hA hfit hca had HR hp Hx
   generalize (insB (s.buf.1, s.buf.1.length) []).2 = xa at *
   go_enter Tryz.func22, Tryz.ntmps22
   go_wp2_with fail
   refine HBr.out.mono ?_
   rintro e w2 ⟨rfl, htb⟩
   obtain ⟨Rl2, F2, h2, hst2⟩ := HA.out.log_at htb ⟨HA.out.ok.log.brk, HA.out.ok.lim, HA.out.ok.rt.brk, HA.out.ok.ring, HA.out.ok.rlim⟩
   have z2 := h2.box.c 2 rfl
   have z3 := h2.box.c 3 rfl
   have z4 := h2.box.c 4 rfl
   have y2 := h2.box.free 2
   have y3 := h2.box.free 3
   have y4 := h2.box.free 4
   have hto := h2.last_to .none
   have HT := hid (StepF.tom hst2 hto)
   clear h2 hst2 hto htb HBr
   obtain ⟨W3, hW3⟩ : ∃ W3, (((w2.setCell ⟨b, 2, none⟩ (.int .i64 0)).setCell ⟨b, 3, none⟩ (.int .i64 0)).setCell ⟨b, 4, none⟩ (.int .i64 0)) = W3 := ⟨_, rfl⟩
   rw [show (((w2.setCell ⟨b, 2, none⟩ (.int .i64 (kdL .none))).setCell ⟨b, 3, none⟩ (.int .i64 (frL .none))).setCell ⟨b, 4, none⟩ (.int .i64 (toL .none))) = W3 from hW3] at HT
   go_wp2_with fail
   obtain ⟨O3, F3, h3, hst3⟩ := HT.out
   have HSP3 := hid (HWs.out _ _ _ hst3)
   refine (buf_callsL W3 O3 F3 b _ h3 HSP3.out).mono ?_
   rintro e w4 ⟨rfl, hb4⟩
   rw [show LN.buf ⟨s.log.brk, s.ring, .none⟩ = s.buf from rfl]
   have HB4 := hid hb4
   have H3 := hid h3
   have HST3 := hid hst3
   clear h3 hst3 hb4 HT
   have x5 := Bx.new w4 43 (.string ⟨#[]⟩) (.int .i64 0)
   have f50 := x5.f0
   have f51 := x5.f1
   have g50 := x5.c0
   have g51 := x5.c1
   have x5' := Bx.new w4 43 (.string (bs s.buf.1)) (.int .i64 (s.buf.2 : Int))
   have hb5 : Below W3.heap.size W3 (w4.alloc (.cells #[.string (bs s.buf.1), .int .i64 (s.buf.2 : Int)] 43)) := HB4.out.alloc HB4.out.size _
   obtain ⟨W5, hW5⟩ : ∃ W5, w4.alloc (.cells #[.string (bs s.buf.1), .int .i64 (s.buf.2 : Int)] 43) = W5 := ⟨_, rfl⟩
   rw [hW5] at x5' hb5
   have u50 := x5'.c0
   have u51 := x5'.c1
   have HX5 := hid x5'
   have HB5 := hid hb5
   clear x5 x5' hb5
   go_wp2_with fail
   refine (HI.out W5 (spans_below HSP3.out HB5.out)).mono ?_
   rintro e w6 ⟨rfl, hb6⟩
   have HB6 := hid (HB5.out.trans (hb6.mono HB5.out.size))
   have k0 := (HX5.out.below hb6).c0
   have HX6 := hid (HX5.out.below hb6)
   clear hb6 HI
   have x7 := Bx.new w6 43 (.string ⟨#[]⟩) (.int .i64 0)
   have f70 := x7.f0
   have f71 := x7.f1
   have g70 := x7.c0
   have g71 := x7.c1
   have x7' := Bx.new w6 43 (.string (bs s.buf.1)) (.int .i64 (xa : Int))
   have hb7 : Below W3.heap.size W3 (w6.alloc (.cells #[.string (bs s.buf.1), .int .i64 (xa : Int)] 43)) := HB6.out.alloc HB6.out.size _
   obtain ⟨W7, hW7⟩ : ∃ W7, w6.alloc (.cells #[.string (bs s.buf.1), .int .i64 (xa : Int)] 43) = W7 := ⟨_, rfl⟩
   rw [hW7] at x7' hb7
   have u70 := x7'.c0
   have u71 := x7'.c1
   have HX7 := hid x7'
   have HB7 := hid hb7
   clear x7 x7' hb7
   have k7 : W7.cell? ⟨w4.heap.size, 0, none⟩ = some (.string (bs s.buf.1)) := by
    rw [← hW7]
    exact (HX6.out.alloc _).c0
   go_wp2_with fail
   go_ret
   exact ⟨rfl, (StepF.to HST3.out H3.out).below objLn HB7.out⟩
  ·have hca : s.canAdd t = true := by unfold LN.canAdd; rw [decide_eq_true hfit, decide_eq_true hp]; rfl
   have had : s.add t = ⟨wrG s.log (insB (s.buf.1, s.buf.1.length) (plainL t)) 0, s.ring, .none⟩ := by unfold LN.add; rw [if_pos hca]; rfl
   have hne : s.buf.1 ++ plainL t ≠ s.buf.1 := fun e => hp (by have := congrArg List.length e; rw [List.length_append] at this; exact List.eq_nil_of_length_eq_zero (by omega))
   have hins : insB (s.buf.1, s.buf.1.length) (plainL t) = (s.buf.1 ++ plainL t, (insB (s.buf.1, s.buf.1.length) (plainL t)).2) := by unfold insB; dsimp only; rw [hx]
   rw [hca, had, hins]
   clear hrt hl6 hp6 hend e1 e2 hx HW hsp ht hA hfit hca had hp Hx hins
   generalize (insB (s.buf.1, s.buf.1.length) (plainL t)).2 = xa at *
   have hne2 : decide ((s.buf.1 ++ plainL t, xa) ≠ s.buf) = true := decide_eq_true (fun e => hne (by have := congrArg Prod.fst e; exact this))
   have HNE := hid hne
   generalize s.buf.1 ++ plainL t = xs at *
   have hnb : (xs == s.buf.1) = false := beq_eq_false_iff_ne.2 HNE.out
   go_enter Tryz.func22, Tryz.ntmps22
   go_wp2_with fail
   refine HBr.out.mono ?_
   rintro e w2 ⟨rfl, htb⟩
   obtain ⟨Rl2, F2, h2, hst2⟩ := HA.out.log_at htb ⟨HA.out.ok.log.brk, HA.out.ok.lim, HA.out.ok.rt.brk, HA.out.ok.ring, HA.out.ok.rlim⟩
   have z2 := h2.box.c 2 rfl
   have z3 := h2.box.c 3 rfl
   have z4 := h2.box.c 4 rfl
   have y2 := h2.box.free 2
   have y3 := h2.box.free 3
   have y4 := h2.box.free 4
   have hto := h2.last_to .none
   have HT := hid (StepF.tom hst2 hto)
   clear h2 hst2 hto htb HBr
   obtain ⟨W3, hW3⟩ : ∃ W3, (((w2.setCell ⟨b, 2, none⟩ (.int .i64 0)).setCell ⟨b, 3, none⟩ (.int .i64 0)).setCell ⟨b, 4, none⟩ (.int .i64 0)) = W3 := ⟨_, rfl⟩
   rw [show (((w2.setCell ⟨b, 2, none⟩ (.int .i64 (kdL .none))).setCell ⟨b, 3, none⟩ (.int .i64 (frL .none))).setCell ⟨b, 4, none⟩ (.int .i64 (toL .none))) = W3 from hW3] at HT
   go_wp2_with fail
   obtain ⟨O3, F3, h3, hst3⟩ := HT.out
   have HSP3 := hid (HWs.out _ _ _ hst3)
   refine (buf_callsL W3 O3 F3 b _ h3 HSP3.out).mono ?_
   rintro e w4 ⟨rfl, hb4⟩
   rw [show LN.buf ⟨s.log.brk, s.ring, .none⟩ = s.buf from rfl]
   have HB4 := hid hb4
   have H3 := hid h3
   have HST3 := hid hst3
   clear h3 hst3 hb4 HT
   have x5 := Bx.new w4 43 (.string ⟨#[]⟩) (.int .i64 0)
   have f50 := x5.f0
   have f51 := x5.f1
   have g50 := x5.c0
   have g51 := x5.c1
   have x5' := Bx.new w4 43 (.string (bs s.buf.1)) (.int .i64 (s.buf.2 : Int))
   have hb5 : Below W3.heap.size W3 (w4.alloc (.cells #[.string (bs s.buf.1), .int .i64 (s.buf.2 : Int)] 43)) := HB4.out.alloc HB4.out.size _
   obtain ⟨W5, hW5⟩ : ∃ W5, w4.alloc (.cells #[.string (bs s.buf.1), .int .i64 (s.buf.2 : Int)] 43) = W5 := ⟨_, rfl⟩
   rw [hW5] at x5' hb5
   have u50 := x5'.c0
   have u51 := x5'.c1
   have HX5 := hid x5'
   have HB5 := hid hb5
   clear x5 x5' hb5
   go_wp2_with fail
   refine (HI.out W5 (spans_below HSP3.out HB5.out)).mono ?_
   rintro e w6 ⟨rfl, hb6⟩
   have HB6 := hid (HB5.out.trans (hb6.mono HB5.out.size))
   have k0 := (HX5.out.below hb6).c0
   have HX6 := hid (HX5.out.below hb6)
   clear hb6 HI
   have x7 := Bx.new w6 43 (.string ⟨#[]⟩) (.int .i64 0)
   have f70 := x7.f0
   have f71 := x7.f1
   have g70 := x7.c0
   have g71 := x7.c1
   have x7' := Bx.new w6 43 (.string (bs xs)) (.int .i64 (xa : Int))
   have hb7 : Below W3.heap.size W3 (w6.alloc (.cells #[.string (bs xs), .int .i64 (xa : Int)] 43)) := HB6.out.alloc HB6.out.size _
   obtain ⟨W7, hW7⟩ : ∃ W7, w6.alloc (.cells #[.string (bs xs), .int .i64 (xa : Int)] 43) = W7 := ⟨_, rfl⟩
   rw [hW7] at x7' hb7
   have u70 := x7'.c0
   have u71 := x7'.c1
   have HX7 := hid x7'
   have HB7 := hid hb7
   clear x7 x7' hb7
   have k7 : W7.cell? ⟨w4.heap.size, 0, none⟩ = some (.string (bs s.buf.1)) := by
    rw [← hW7]
    exact (HX6.out.alloc _).c0
   go_wp2_with fail
   refine (write_callsL W7 O3 F3 b _ (objLn.below H3.out HB7.out) (xs, xa) HR.out).mono ?_
   rintro e w8 ⟨rfl, ht8⟩
   rw [show LN.buf ⟨s.log.brk, s.ring, .none⟩ = s.buf from rfl, hne2]
   rw [show wrG (LN.log ⟨s.log.brk, s.ring, .none⟩) (xs, xa) 0 = wrG s.log (xs, xa) 0 from wr_brk _ _] at ht8
   have HT8 := hid (StepF.tom (StepF.trans HST3.out (StepF.below O3 F3 HB7.out)) ht8)
   clear ht8
   go_wp2_with fail
   go_ret
   exact ⟨rfl, HT8.out⟩
 ·have hca : s.canAdd t = false := by unfold LN.canAdd; rw [decide_eq_false hfit, Bool.false_and]
  have had : s.add t = ⟨s.log.brk, s.ring, .none⟩ := by unfold LN.add; rw [if_neg (by rw [hca]; exact Bool.false_ne_true)]
  have HI : Hid (∀ W, Spans W → Calls Tryz.prog 53 #[.agg #[.string (bs s.buf.1), .int .i64 (s.buf.1.length : Int)], .string (bs t)] W fun e w' => e = .returned (.tuple #[.agg #[.string (bs s.buf.1), .int .i64 (s.buf.1.length : Int)], .int .i64 30]) ∧ Below W.heap.size W w') := hid (fun W hS => by
   have := insert_no s.buf.1 t (s.buf.1.length : Nat) hl6 hp6 W hS (by rw [e1]; unfold fits at hfit; omega)
   rwa [e1, e2] at this)
  have hq1 : ((30 : Int) != 0) = true := rfl
  rw [hca, had]
  clear hrt hl6 hp6 hend e1 e2 hx HW hsp ht hA hfit hca had
  go_enter Tryz.func22, Tryz.ntmps22
  go_wp2_with fail
  refine HBr.out.mono ?_
  rintro e w2 ⟨rfl, htb⟩
  obtain ⟨Rl2, F2, h2, hst2⟩ := HA.out.log_at htb ⟨HA.out.ok.log.brk, HA.out.ok.lim, HA.out.ok.rt.brk, HA.out.ok.ring, HA.out.ok.rlim⟩
  have z2 := h2.box.c 2 rfl
  have z3 := h2.box.c 3 rfl
  have z4 := h2.box.c 4 rfl
  have y2 := h2.box.free 2
  have y3 := h2.box.free 3
  have y4 := h2.box.free 4
  have hto := h2.last_to .none
  have HT := hid (StepF.tom hst2 hto)
  clear h2 hst2 hto htb HBr
  obtain ⟨W3, hW3⟩ : ∃ W3, (((w2.setCell ⟨b, 2, none⟩ (.int .i64 0)).setCell ⟨b, 3, none⟩ (.int .i64 0)).setCell ⟨b, 4, none⟩ (.int .i64 0)) = W3 := ⟨_, rfl⟩
  rw [show (((w2.setCell ⟨b, 2, none⟩ (.int .i64 (kdL .none))).setCell ⟨b, 3, none⟩ (.int .i64 (frL .none))).setCell ⟨b, 4, none⟩ (.int .i64 (toL .none))) = W3 from hW3] at HT
  go_wp2_with fail
  obtain ⟨O3, F3, h3, hst3⟩ := HT.out
  have HSP3 := hid (HWs.out _ _ _ hst3)
  refine (buf_callsL W3 O3 F3 b _ h3 HSP3.out).mono ?_
  rintro e w4 ⟨rfl, hb4⟩
  rw [show LN.buf ⟨s.log.brk, s.ring, .none⟩ = s.buf from rfl]
  have HB4 := hid hb4
  have H3 := hid h3
  have HST3 := hid hst3
  clear h3 hst3 hb4 HT
  have x5 := Bx.new w4 43 (.string ⟨#[]⟩) (.int .i64 0)
  have f50 := x5.f0
  have f51 := x5.f1
  have g50 := x5.c0
  have g51 := x5.c1
  have x5' := Bx.new w4 43 (.string (bs s.buf.1)) (.int .i64 (s.buf.2 : Int))
  have hb5 : Below W3.heap.size W3 (w4.alloc (.cells #[.string (bs s.buf.1), .int .i64 (s.buf.2 : Int)] 43)) := HB4.out.alloc HB4.out.size _
  obtain ⟨W5, hW5⟩ : ∃ W5, w4.alloc (.cells #[.string (bs s.buf.1), .int .i64 (s.buf.2 : Int)] 43) = W5 := ⟨_, rfl⟩
  rw [hW5] at x5' hb5
  have u50 := x5'.c0
  have u51 := x5'.c1
  have HX5 := hid x5'
  have HB5 := hid hb5
  clear x5 x5' hb5
  go_wp2_with fail
  refine (HI.out W5 (spans_below HSP3.out HB5.out)).mono ?_
  rintro e w6 ⟨rfl, hb6⟩
  have HB6 := hid (HB5.out.trans (hb6.mono HB5.out.size))
  have k0 := (HX5.out.below hb6).c0
  have HX6 := hid (HX5.out.below hb6)
  clear hb6 HI
  have x7 := Bx.new w6 43 (.string ⟨#[]⟩) (.int .i64 0)
  have f70 := x7.f0
  have f71 := x7.f1
  have g70 := x7.c0
  have g71 := x7.c1
  have x7' := Bx.new w6 43 (.string (bs s.buf.1)) (.int .i64 (s.buf.1.length : Int))
  have hb7 : Below W3.heap.size W3 (w6.alloc (.cells #[.string (bs s.buf.1), .int .i64 (s.buf.1.length : Int)] 43)) := HB6.out.alloc HB6.out.size _
  obtain ⟨W7, hW7⟩ : ∃ W7, w6.alloc (.cells #[.string (bs s.buf.1), .int .i64 (s.buf.1.length : Int)] 43) = W7 := ⟨_, rfl⟩
  rw [hW7] at x7' hb7
  have u70 := x7'.c0
  have u71 := x7'.c1
  have HX7 := hid x7'
  have HB7 := hid hb7
  clear x7 x7' hb7
  have k7 : W7.cell? ⟨w4.heap.size, 0, none⟩ = some (.string (bs s.buf.1)) := by
   rw [← hW7]
   exact (HX6.out.alloc _).c0
  go_wp2_with fail
  go_ret
  exact ⟨rfl, (StepF.to HST3.out H3.out).below objLn HB7.out⟩
end
end
section
open Go Go.RowKit
open Go.Lib (hid)
set_option maxHeartbeats 2000000 in
theorem rmake_calls (l : List UInt8) (n : Int) (hl : l.length ≤ 137438953472) (w : World) :
  Calls Tryz.prog 20 #[.string (bs l), .int .i64 n] w fun e w' => e = .returned (.agg #[.string (bs (mS l)), .int .i64 (mA l n : Int)]) ∧ Below w.heap.size w w' := by
 have k0 : Below w.heap.size w (w.alloc (.cells #[.string ⟨#[]⟩, .int .i64 0] 28)) := (Below.refl _ w).alloc (Nat.le_refl _) _
 have hb0 := Bx.new w 28 (.string ⟨#[]⟩) (.int .i64 0)
 have HP := hid (fun W => rplain_calls l hl W)
 have hpl := plain_length l
 have hbl := backL_le (plainL l) 600
 have hms := mS_len l
 have HB1 := hid (fun W => rback_calls (plainL l) 600 (by omega) W)
 have HB2 := hid (fun W => rback_calls (mS l) n (by omega) W)
 have hex : (bs (plainL l)).extract 0 (backL (plainL l) 600) = bs (mS l) := bs_take _ _
 have HmA : Hid (backL (mS l) n = mA l n) := hid rfl
 have Hsh := hid (mS_short l)
 have hsz := bs_size (plainL l)
 generalize backL (mS l) n = a at *
 generalize mA l n = a' at *
 obtain rfl := HmA.out
 generalize backL (plainL l) 600 = b at *
 generalize mS l = m at *
 generalize plainL l = p at *
 by_cases h6 : 600 < p.length
 ·have hd : decide ((600 : Int) < (p.length : Int)) = true := decide_eq_true (by omega)
  go_enter Tryz.func20, Tryz.ntmps20
  go_wp2_with fail
  refine (HP.out _).mono ?_
  rintro e w1 ⟨rfl, hb1⟩
  have k1 := k0.trans (hb1.mono k0.size)
  have g1 := hb0.below hb1
  clear hb1
  go_wp2_with fail
  refine (HB1.out _).mono ?_
  rintro e w2 ⟨rfl, hb2⟩
  have k2 := k1.trans (hb2.mono k1.size)
  have g2 := g1.below hb2
  clear hb2 g1 k1
  go_wp2_with fail
  refine (HB2.out _).mono ?_
  rintro e w3 ⟨rfl, hb3⟩
  have k3 := k2.trans (hb3.mono k2.size)
  have g3 := g2.below hb3
  have c0 := g3.c0
  have c1 := g3.c1
  have f0 := g3.f0
  have f1 := g3.f1
  have G3 := hid g3
  have K3 := hid k3
  clear hb3 g2 k2 g3 k3
  go_wp2
  refine bodyPost_ret (results_bx rfl _ _ w.heap.size (.string (bs m)) (.int .i64 (a : Int)) 28 rfl ((G3.out.set0 _).set1 _) Tryz.underlying28 (sizeRBuf _)) rfl ?_
  exact ⟨rfl, (K3.out.setCell (p := ⟨w.heap.size, 0, none⟩) (Nat.le_refl _) _).setCell (p := ⟨w.heap.size, 1, none⟩) (Nat.le_refl _) _⟩
 ·have hd : decide ((600 : Int) < (p.length : Int)) = false := decide_eq_false (by omega)
  obtain rfl := Hsh.out (by omega)
  clear Hsh hex
  go_enter Tryz.func20, Tryz.ntmps20
  go_wp2_with fail
  refine (HP.out _).mono ?_
  rintro e w1 ⟨rfl, hb1⟩
  have k1 := k0.trans (hb1.mono k0.size)
  have g1 := hb0.below hb1
  clear hb1
  go_wp2_with fail
  refine (HB2.out _).mono ?_
  rintro e w3 ⟨rfl, hb3⟩
  have k3 := k1.trans (hb3.mono k1.size)
  have g3 := g1.below hb3
  have c0 := g3.c0
  have c1 := g3.c1
  have f0 := g3.f0
  have f1 := g3.f1
  have G3 := hid g3
  have K3 := hid k3
  clear hb3 g1 k1 g3 k3
  go_wp2
  refine bodyPost_ret (results_bx rfl _ _ w.heap.size (.string (bs _)) (.int .i64 (a : Int)) 28 rfl ((G3.out.set0 _).set1 _) Tryz.underlying28 (sizeRBuf _)) rfl ?_
  exact ⟨rfl, (K3.out.setCell (p := ⟨w.heap.size, 0, none⟩) (Nat.le_refl _) _).setCell (p := ⟨w.heap.size, 1, none⟩) (Nat.le_refl _) _⟩
end
section
open Go Go.RowKit
open Go.Lib (hid)
set_option maxRecDepth 100000
set_option maxHeartbeats 2000000 in
theorem rword_calls (c : List UInt8) (hl : c.length ≤ 1099511627776) (w : World) :
  Calls Tryz.prog 106 #[.string (bs c)] w fun e w' => e = .returned (.bool (wordL c)) ∧ Below w.heap.size w w' := by
 have hb := nextL_bound c
 have Hw : Hid (wordL c = wordR ((nextL c).1 : Int)) := hid rfl
 have hs6 := Lib.run_convert_string_bytes (P := Tryz.prog) w 9 81 5 (bs c) Tryz.underlying9 Tryz.underlying81 Tryz.underlying5
 have hsz := bs_size c
 have kw := below_bytes w 5 ⟨c.toArray⟩
 have Hn := hid (rnext_calls _ (grownCap w c.length 0 5) c _ (byt_bytes w c) (by unfold maxLen; omega))
 have Hkw := hid kw
 clear kw
 unfold ToldNext at Hn
 generalize (nextL c).1 = r at *
 generalize (nextL c).2 = z at *
 generalize wordL c = q at *
 go_enter Tryz.func106, Tryz.ntmps106
 go_wp2_with fail
 refine Hn.out.mono ?_
 rintro e w1 ⟨rfl, hb1⟩
 have Hk := hid (Hkw.out.trans (hb1.mono Hkw.out.size))
 clear hb1 hs6 Hn
 go_wp2
 all_goals
  go_ret
  refine ⟨?_, Hk.out⟩
  rw [Hw.out]
  refine congrArg (fun b : Bool => Ending.returned (Value.bool b)) ?_
  apply Bool.eq_iff_iff.2
  simp only [wordR, Bool.or_eq_true, decide_eq_true_eq, beq_iff_eq]
  first | omega | (refine ⟨fun _ => ?_, fun _ => trivial⟩; omega)
theorem rplace_calls (g o c N : Nat) (f : Nat → Nat) (n : Int) (w : World) (hN : N ≤ 1099511627776) (hR : ∀ k, k ≤ N → w.cell? ⟨g, o + k, none⟩ = some (.int .i64 (f k : Int))) :
  Calls Tryz.prog 104 #[.slice (some ⟨g, o, none⟩) (N + 1) c, .int .i64 n] w fun e w' => ∃ k : Nat, e = .returned (.int .i64 (k : Int)) ∧ k ≤ N ∧ Below w.heap.size w w' := by
 have HR := hid hR
 clear hR
 go_enter Tryz.func104, Tryz.ntmps104
 go_wp2_with fail
 go_loopw [5] (fun v5 wr => ∃ k : Nat, v5 = .int .i64 (k : Int) ∧ k ≤ N ∧ wr = w) (fun v5 _ => (intOf v5).toNat)
 case atStart => exact ⟨N, by go_num, Nat.le_refl _, rfl⟩
 case round =>
  obtain ⟨k, rfl, hk, rfl⟩ := hrel
  have ck := HR.out k hk
  have hkl : (k : Int) < (N : Int) + 1 := by omega
  generalize f k = p at *
  by_cases h0 : 0 < k
  ·have hd0 : decide ((0 : Int) < (k : Int)) = true := decide_eq_true (by omega)
   by_cases h1 : n < (p : Int)
   ·have hd1 : decide (n < (p : Int)) = true := decide_eq_true h1
    go_wp2
    go_roundw
    case rel => exact ⟨k - 1, by go_num, by omega, trivial⟩
    case measure => simp [intOf]; omega
   ·have hd1 : decide (n < (p : Int)) = false := decide_eq_false h1
    go_wp2
    go_ret
    exact ⟨k, rfl, hk, Below.refl _ _⟩
  ·have hd0 : decide ((0 : Int) < (k : Int)) = false := decide_eq_false (by omega)
   go_wp2
   go_ret
   exact ⟨k, rfl, hk, Below.refl _ _⟩
theorem rnear_calls (A : Option Addr) (c N : Nat) (n : Int) (w : World) (hN : N ≤ 1099511627776) :
  Calls Tryz.prog 105 #[.slice A (N + 1) c, .int .i64 n] w fun e w' => ∃ k : Nat, e = .returned (.int .i64 (k : Int)) ∧ k ≤ N ∧ Below w.heap.size w w' := by
 obtain ⟨k, hk, hkN⟩ : ∃ k : Nat, max 0 (min n (N : Int)) = (k : Int) ∧ k ≤ N := ⟨(max 0 (min n (N : Int))).toNat, by omega, by omega⟩
 go_enter Tryz.func105, Tryz.ntmps105
 go_wp2
 go_ret
 exact ⟨k, rfl, hkN, Below.refl _ _⟩
theorem rstep_calls (l : List UInt8) (hl : l.length ≤ 1000000) (n b : Int) (hb : b = -1 ∨ b = 1) (w : World) :
  Calls Tryz.prog 101 #[.string (bs l), .int .i64 n, .int .i64 b] w fun e w' => ∃ k : Nat, e = .returned (.int .i64 (k : Int)) ∧ k ≤ l.length ∧ Below w.heap.size w w' := by
 have HC := hid (fun W => rbounds_pos l (by omega) W)
 have hcl := cutL_length l
 have hple := cut_len_le l
 generalize cutL l = cs at *
 go_enter Tryz.func101, Tryz.ntmps101
 go_wp2_with fail
 refine (HC.out _).mono ?_
 rintro e w1 ⟨g, o, c, rfl, hR, hb1⟩
 have HR := hid hR
 have HB1 := hid hb1
 have HP := hid (rplace_calls g o c cs.length (fun k => pos cs k) n w1 (by omega) hR)
 clear hR HC hb1
 go_wp2_with fail
 refine HP.out.mono ?_
 rintro e w2 ⟨k, rfl, hk, hb2⟩
 have HB2 := hid (HB1.out.trans (hb2.mono HB1.out.size))
 have HR2 : Hid (∀ k, k ≤ cs.length → w2.cell? ⟨g, o + k, none⟩ = some (.int .i64 (pos cs k : Int))) := hid (fun k hk => (hb2.cell (p := ⟨g, o + k, none⟩) (World.block_lt_of_cell? _ _ (HR.out k hk))).trans (HR.out k hk))
 have hw : IntKind.i64.wrap ((k : Int) + b) = (k : Int) + b := IntWalk.i64_in _ (by omega)
 have HN := hid (rnear_calls (some ⟨g, o, none⟩) c cs.length ((k : Int) + b) w2 (by omega))
 clear HP HR hb2 hk
 go_wp2_with fail
 refine HN.out.mono ?_
 rintro e w3 ⟨j, rfl, hj, hb3⟩
 have cj := (hb3.cell (p := ⟨g, o + j, none⟩) (World.block_lt_of_cell? _ _ (HR2.out j hj))).trans (HR2.out j hj)
 have HB3 := hid (HB2.out.trans (hb3.mono HB2.out.size))
 have Hple := hid (hple j)
 have hjl : j < cs.length + 1 := by omega
 have hji : (j : Int) < (cs.length : Int) + 1 := by omega
 clear HN hb3 hw hple HR2
 generalize pos cs j = p at *
 go_wp2
 go_ret
 exact ⟨p, rfl, Hple.out, HB3.out⟩
theorem rprev_calls (l : List UInt8) (hl : l.length ≤ 137438953472) (n : Int) (w : World) :
  Calls Tryz.prog 58 #[.string (bs l), .int .i64 n] w fun e w' => ∃ k : Nat, e = .returned (.int .i64 (k : Int)) ∧ k ≤ 600 ∧ Below w.heap.size w w' := by
 have HM := hid (rmake_calls l 0 hl w)
 have HS := hid (fun W => rstep_calls (mS l) (by have := mS_len l; omega) n (-1) (.inl rfl) W)
 have hle := mS_len l
 generalize mA l 0 = a at *
 generalize mS l = m at *
 go_enter Tryz.func58, Tryz.ntmps58
 go_wp2_with fail
 refine HM.out.mono ?_
 rintro e w1 ⟨rfl, hb1⟩
 have HB1 := hid hb1
 have hfd := field_rbuf0 (.string (bs m)) (.int .i64 (a : Int))
 clear hb1 HM
 go_wp2_with fail
 refine (HS.out _).mono ?_
 rintro e w2 ⟨k, rfl, hk, hb2⟩
 have HB2 := hid (HB1.out.trans (hb2.mono HB1.out.size))
 clear hb2 HS
 go_wp2
 go_ret
 exact ⟨k, rfl, by omega, HB2.out⟩
theorem rnext3_calls (l : List UInt8) (hl : l.length ≤ 137438953472) (n : Int) (w : World) :
  Calls Tryz.prog 59 #[.string (bs l), .int .i64 n] w fun e w' => ∃ k : Nat, e = .returned (.int .i64 (k : Int)) ∧ k ≤ 600 ∧ Below w.heap.size w w' := by
 have HM := hid (rmake_calls l 0 hl w)
 have HS := hid (fun W => rstep_calls (mS l) (by have := mS_len l; omega) n 1 (.inr rfl) W)
 have hle := mS_len l
 generalize mA l 0 = a at *
 generalize mS l = m at *
 go_enter Tryz.func59, Tryz.ntmps59
 go_wp2_with fail
 refine HM.out.mono ?_
 rintro e w1 ⟨rfl, hb1⟩
 have HB1 := hid hb1
 have hfd := field_rbuf0 (.string (bs m)) (.int .i64 (a : Int))
 clear hb1 HM
 go_wp2_with fail
 refine (HS.out _).mono ?_
 rintro e w2 ⟨k, rfl, hk, hb2⟩
 have HB2 := hid (HB1.out.trans (hb2.mono HB1.out.size))
 clear hb2 HS
 go_wp2
 go_ret
 exact ⟨k, rfl, by omega, HB2.out⟩
end
section
open Go Go.RowKit
open Go.Lib (hid)
set_option maxRecDepth 100000
theorem rnearX_calls (A : Option Addr) (c N : Nat) (n : Int) (w : World) (hN : N ≤ 1099511627776) :
  Calls Tryz.prog 105 #[.slice A (N + 1) c, .int .i64 n] w fun e w' => e = .returned (.int .i64 (max 0 (min n (N : Int)))) ∧ Below w.heap.size w w' := by
 go_enter Tryz.func105, Tryz.ntmps105
 go_wp2
 go_ret
 exact ⟨rfl, Below.refl _ _⟩
theorem rwordX_calls (x : ByteArray) (hl : x.size ≤ 1099511627776) (w : World) :
  Calls Tryz.prog 106 #[.string x] w fun e w' => ∃ q : Bool, e = .returned (.bool q) ∧ Below w.heap.size w w' := by
 have h := rword_calls (bl x) (by unfold bl; simpa using hl) w
 rw [bs_bl] at h
 exact h.mono fun e w' h => ⟨_, h⟩
set_option maxHeartbeats 4000000 in
theorem rWord_calls (l : List UInt8) (hl : l.length ≤ 137438953472) (n b : Int) (hb : b = -1 ∨ b = 1) (w : World) :
  Calls Tryz.prog 63 #[.string (bs l), .int .i64 n, .int .i64 b] w fun e w' => ∃ k : Nat, e = .returned (.int .i64 (k : Int)) ∧ k ≤ 600 ∧ Below w.heap.size w w' := by
 have HM := hid (rmake_calls l 0 hl w)
 have hle := mS_len l
 generalize mA l 0 = a at *
 generalize mS l = m at *
 have HC := hid (fun W => rbounds_pos m (by omega) W)
 have hcl := cutL_length m
 have hple := cut_len_le m
 have hmono : ∀ i j, i ≤ j → pos (cutL m) i ≤ pos (cutL m) j := fun i j h => pos_mono (cutL m) h
 have hsz := bs_size m
 generalize cutL m = cs at *
 have Hple := hid hple
 have Hmono := hid hmono
 have hN : cs.length ≤ 600 := by omega
 clear hple hmono
 go_enter Tryz.func63, Tryz.ntmps63
 go_wp2_with fail
 refine HM.out.mono ?_
 rintro e w1 ⟨rfl, hb1⟩
 have HB1 := hid hb1
 have hfd := field_rbuf0 (.string (bs m)) (.int .i64 (a : Int))
 clear hb1 HM
 go_wp2_with fail
 refine (HC.out _).mono ?_
 rintro e w2 ⟨g, o, c, rfl, hR, hb2⟩
 have HB2 := hid (HB1.out.trans (hb2.mono HB1.out.size))
 have HR := hid hR
 have HP := hid (rplace_calls g o c cs.length (fun k => pos cs k) n w2 (by omega) hR)
 clear hR HC hb2
 go_wp2_with fail
 refine HP.out.mono ?_
 rintro e w3 ⟨k0, rfl, hk0, hb3⟩
 have HB3 := hid hb3
 clear hb3 HP
 go_wp2_with fail
 go_loopw [8, 9, 10] (fun v8 v9 _ wr => ∃ k t : Nat, v8 = .int .i64 (k : Int) ∧ v9 = .int .i64 (t : Int) ∧ k ≤ cs.length ∧ t ≤ 2 ∧ Hid (Below w2.heap.size w2 wr)) (fun _ v9 _ _ => 2 - (intOf v9).toNat)
 case atStart => exact ⟨k0, 0, rfl, rfl, hk0, by omega, HB3⟩
 case round =>
  obtain ⟨k, t, rfl, rfl, hk, ht, hbr⟩ := hrel
  by_cases ht2 : t < 2
  ·have hlt : decide ((t : Int) < 2) = true := decide_eq_true (by omega)
   have hwk : IntKind.i64.wrap ((k : Int) + b) = (k : Int) + b := IntWalk.i64_in _ (by omega)
   have HN := hid (rnearX_calls (some ⟨g, o, none⟩) c cs.length ((k : Int) + b) wr (by omega))
   go_wp2_with fail
   refine HN.out.mono ?_
   rintro e w5 ⟨rfl, hb5⟩
   have HB5 := hid (hbr.out.trans (hb5.mono hbr.out.size))
   clear HN hb5 hwk
   go_wp2_with fail
   go_loopw [8, 10] (fun v8 v10 ws => ∃ k : Nat, v8 = .int .i64 (k : Int) ∧ v10 = .int .i64 (max 0 (min ((k : Int) + b) (cs.length : Int))) ∧ k ≤ cs.length ∧ Hid (Below w2.heap.size w2 ws)) (fun v8 _ _ => if b = 1 then cs.length - (intOf v8).toNat else (intOf v8).toNat)
   case atStart => exact ⟨k, rfl, rfl, hk, HB5⟩
   case round =>
    clear hk hbr HB5
    obtain ⟨k, rfl, rfl, hk, hbs⟩ := hrel
    obtain ⟨x, hx, hxN, hxb⟩ : ∃ x : Nat, max 0 (min ((k : Int) + b) (cs.length : Int)) = (x : Int) ∧ x ≤ cs.length ∧ (x ≠ k → (x : Int) = (k : Int) + b) := ⟨(max 0 (min ((k : Int) + b) (cs.length : Int))).toNat, by omega, by omega, fun h => by omega⟩
    rw [hx]
    clear hx
    by_cases he : x = k
    ·subst he
     have hne : ((x : Int) != (x : Int)) = false := by simp
     go_wp2_with fail
     go_quiet (fail)
     go_wp2_with fail
     go_roundw
     case rel => exact ⟨x, t + 1, rfl, by go_num, hk, by omega, hid (bel_drewK hbs.out _)⟩
     case measure => simp [intOf]; omega
    ·have hne : ((x : Int) != (k : Int)) = true := by (have := hxb he); simp; omega
     have Hxb := hid (hxb he)
     obtain ⟨lo, hi, hlo, hhi, hlh, hloN, hhiN⟩ : ∃ lo hi : Nat, min (k : Int) (x : Int) = (lo : Int) ∧ max (k : Int) (x : Int) = (hi : Int) ∧ lo ≤ hi ∧ lo ≤ cs.length ∧ hi ≤ cs.length := ⟨min k x, max k x, by omega, by omega, by omega, by omega, by omega⟩
     have clo := (hbs.out.cell (p := ⟨g, o + lo, none⟩) (World.block_lt_of_cell? _ _ (HR.out lo hloN))).trans (HR.out lo hloN)
     have chi := (hbs.out.cell (p := ⟨g, o + hi, none⟩) (World.block_lt_of_cell? _ _ (HR.out hi hhiN))).trans (HR.out hi hhiN)
     have hcells : ∀ W, Below w2.heap.size w2 W → W.cell? ⟨g, o + lo, none⟩ = some (.int .i64 (pos cs lo : Int)) ∧ W.cell? ⟨g, o + hi, none⟩ = some (.int .i64 (pos cs hi : Int)) := fun W hW => ⟨(hW.cell (p := ⟨g, o + lo, none⟩) (World.block_lt_of_cell? _ _ (HR.out lo hloN))).trans (HR.out lo hloN), (hW.cell (p := ⟨g, o + hi, none⟩) (World.block_lt_of_cell? _ _ (HR.out hi hhiN))).trans (HR.out hi hhiN)⟩
     have Hcells := hid hcells
     clear hcells
     have hpq := Hmono.out lo hi hlh
     have hqm := Hple.out hi
     generalize pos cs lo = p at *
     generalize pos cs hi = q at *
     have hi1 : lo < cs.length + 1 := by omega
     have hi2 : (lo : Int) < (cs.length : Int) + 1 := by omega
     have hi3 : hi < cs.length + 1 := by omega
     have hi4 : (hi : Int) < (cs.length : Int) + 1 := by omega
     have hq1 : (p : Int) ≤ (q : Int) := by omega
     have hq2 : (q : Int) ≤ (m.length : Int) := by omega
     have HWd := hid (fun (y : ByteArray) (hy : y.size ≤ 1099511627776) W => rwordX_calls y hy W)
     clear hxb hpq hlh hloN hhiN
     go_wp2_with fail
     refine wp_region_held_drew (S := (fun w' => w'.cell? ⟨g, o + lo, none⟩ = some (.int .i64 (p : Int)) ∧ w'.cell? ⟨g, o + hi, none⟩ = some (.int .i64 (q : Int)))) (by kernel_rfl) ⟨clo, chi⟩ (fun hHeld => ?_)
     refine tkH 0 ?_
     refine tkH 1 ?_
     refine tkH 2 ?_
     refine tkH 3 ?_
     refine tkH 4 ?_
     refine tkH 5 ?_
     refine tkH 6 ?_
     refine tkH 7 ?_
     refine tkH 8 ?_
     refine tkH 9 ?_
     refine tkH 10 ?_
     refine tkH 11 ?_
     refine tkH 12 ?_
     refine tkH 13 ?_
     refine tkH 14 ?_
     refine tkH 15 ?_
     refine tkH 16 ?_
     refine tkH 17 ?_
     refine tkH 19 ?_
     refine tkH 20 ?_
     refine rdH 18 fun K hK => ?_
     go_simp
     refine (HWd.out _ ?hsz _).mono ?_
     case hsz => (rw [ByteArray.size_extract]; omega)
     rintro e w6 ⟨r, rfl, hb6⟩
     have hb6' : Below w2.heap.size w2 w6 := hbs.out.trans (⟨hb6.os, hb6.tape, hb6.output, hb6.size, fun i hi => hb6.block i (Nat.lt_of_lt_of_le hi hbs.out.size)⟩)
     have q6 := Hcells.out w6 hb6'
     have HB6 := hid hb6'
     refine hK.out _ _ q6 (fun hHeld => ?_)
     clear hK K
     clear q6 hb6 hb6' clo chi Hcells HWd
     refine tkH 21 ?_
     refine tkH 22 ?_
     refine wpAnyH_done (by kernel_rfl) ?_ _
     generalize (r == ((t : Int) == 1)) = z at *
     cases z with
     | true =>
      have hwk : IntKind.i64.wrap ((x : Int) + b) = (x : Int) + b := IntWalk.i64_in _ (by omega)
      have HN2 := hid (rnearX_calls (some ⟨g, o, none⟩) c cs.length ((x : Int) + b) w6 (by omega))
      go_wp2_with fail
      refine HN2.out.mono ?_
      rintro e w7 ⟨rfl, hb7⟩
      have HB7 := hid (HB6.out.trans (hb7.mono HB6.out.size))
      clear HN2 hb7 hwk
      go_wp2_with fail
      go_roundw
      case rel => exact ⟨x, rfl, rfl, hxN, HB7⟩
      case measure => (have hxx := Hxb.out; simp only [intOf, Int.toNat_natCast]; rcases hb with hb | hb <;> subst hb <;> simp <;> omega)
     | false =>
      go_wp2_with fail
      go_roundw
      case rel => exact ⟨k, t + 1, rfl, by go_num, hk, by omega, HB6⟩
      case measure => simp [intOf]; omega
  ·have hlt : decide ((t : Int) < 2) = false := decide_eq_false (by omega)
   have ck := (hbr.out.cell (p := ⟨g, o + k, none⟩) (World.block_lt_of_cell? _ _ (HR.out k hk))).trans (HR.out k hk)
   have hkl : k < cs.length + 1 := by omega
   have hki : (k : Int) < (cs.length : Int) + 1 := by omega
   have HL : Hid (pos cs k ≤ 600) := hid (by have := Hple.out k; omega)
   generalize pos cs k = p at *
   go_wp2
   go_ret
   exact ⟨p, rfl, HL.out, HB2.out.trans (hbr.out.mono HB2.out.size)⟩
end
end Go.Proofs.YtoaponaljkhlfaaGreatDoor
