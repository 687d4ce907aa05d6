/-
  Layer 7 and what it stands on, part 28 (Makes Ins LnW Steps Words WordEnds LnA LnB CutT LnE).
-/
import Derived.Test.YtoaponaljkhlfaaGreatDoorPz16
import Derived.Test.YtoaponaljkhlfaaGreatDoorPz19
import Derived.Test.YtoaponaljkhlfaaGreatDoorPz22
import Derived.BigQuiet
import Derived.Deep.Cut
import Derived.Deep.RegionHeld3
import Derived.Deep.RegionWith
namespace Go.Proofs.YtoaponaljkhlfaaGreatDoor
section
open Go Go.RowKit
open Go.Lib (hid)
theorem bs_mid (l : List UInt8) (m n : Nat) : (bs l).extract m n = bs ((l.drop m).take (n - m)) := by
 rw [Lib.extract_eq]
set_option maxHeartbeats 2000000 in
theorem make_calls (l : List UInt8) (n : Int) (hl : l.length ≤ 137438953472) (w : World) (hsp : Spans w) :
  Calls Tryz.prog 37 #[.string (bs l), .int .i64 n] w fun e w' => e = .returned (.agg #[.string (bs (mS l)), .int .i64 (mA l n : Int)]) ∧ Below w.heap.size w w' := by
 have k0 : Below w.heap.size w (w.alloc (.cells #[.string ⟨#[]⟩, .int .i64 0] 43)) := (Below.refl _ w).alloc (Nat.le_refl _) _
 have hb0 := Bx.new w 43 (.string ⟨#[]⟩) (.int .i64 0)
 have HP := hid (fun W => plain_calls l hl W)
 have hpl := plain_length l
 have hbl := backL_le (plainL l) 600
 have hms := mS_len l
 have Hsp := hid hsp
 have HB1 := hid (fun W h => back_calls (plainL l) 600 (by omega) W h)
 have HB2 := hid (fun W h => back_calls (mS l) n (by omega) W h)
 have hex : (bs (plainL l)).extract 0 (backL (plainL l) 600) = bs (mS l) := bs_take _ _
 have HmA : Hid (backL (mS l) n = mA l n) := hid rfl
 have hsz := bs_size (plainL l)
 clear hsp
 generalize backL (mS l) n = a at *
 generalize mA l n = a' at *
 obtain rfl := HmA.out
 generalize backL (plainL l) 600 = b at *
 generalize mS l = m at *
 generalize plainL l = p at *
 go_enter Tryz.func37, Tryz.ntmps37
 go_wp2_with fail
 refine (HP.out _).mono ?_
 rintro e w1 ⟨rfl, hb1⟩
 have k1 := k0.trans (hb1.mono k0.size)
 have g1 := hb0.below hb1
 clear hb1
 go_wp2_with fail
 refine (HB1.out _ (spans_below Hsp.out k1)).mono ?_
 rintro e w2 ⟨rfl, hb2⟩
 have k2 := k1.trans (hb2.mono k1.size)
 have g2 := g1.below hb2
 clear hb2 g1 k1
 go_wp2_with fail
 refine (HB2.out _ (spans_below Hsp.out k2)).mono ?_
 rintro e w3 ⟨rfl, hb3⟩
 have k3 := k2.trans (hb3.mono k2.size)
 have g3 := g2.below hb3
 have c0 := g3.c0
 have c1 := g3.c1
 have f0 := g3.f0
 have f1 := g3.f1
 have G3 := hid g3
 have K3 := hid k3
 clear hb3 g2 k2 g3 k3
 go_wp2
 refine bodyPost_ret (results_bx rfl _ _ w.heap.size (.string (bs m)) (.int .i64 (a : Int)) 43 rfl ((G3.out.set0 _).set1 _) Tryz.underlying43 (sizeBuf _)) rfl ?_
 exact ⟨rfl, (K3.out.setCell (p := ⟨w.heap.size, 0, none⟩) (Nat.le_refl _) _).setCell (p := ⟨w.heap.size, 1, none⟩) (Nat.le_refl _) _⟩
theorem mS_short (l : List UInt8) (h : (plainL l).length ≤ 600) : mS l = plainL l := by
 unfold mS
 rw [backL_all _ 600 (by omega), List.take_length]
end
section
open Go Go.RowKit
open Go.Lib (hid)
theorem drop_len_le (l : List UInt8) (k : Nat) : (l.drop k).length ≤ l.length := by rw [List.length_drop]; omega
theorem take_len_le (l : List UInt8) (k : Nat) : (l.take k).length ≤ l.length := by rw [List.length_take]; omega
set_option maxHeartbeats 4000000 in
theorem insert_ok (l s : List UInt8) (n : Int) (hl : l.length ≤ 137438953472) (hs : s.length ≤ 137438953472) (w : World) (hsp : Spans w) (h6 : (mS l).length + (plainL s).length ≤ 600) :
  Calls Tryz.prog 53 #[.agg #[.string (bs l), .int .i64 n], .string (bs s)] w fun e w' => e = .returned (.tuple #[.agg #[.string (bs (insS (mS l) (mA l n) (plainL s))), .int .i64 (insA (mS l) (mA l n) (plainL s) : Int)], .int .i64 0]) ∧ Below w.heap.size w w' := by
 have HM := hid (fun W h => make_calls l n hl W h)
 have HP := hid (fun W => plain_calls s hs W)
 have ha := mA_le l n
 have hil := insS_length (mS l) (mA l n) (plainL s) ha
 have HO := hid (fun W h => on_calls (insS (mS l) (mA l n) (plainL s)) ((mA l n + (plainL s).length : Nat) : Int) (by omega) W h)
 have HiA : Hid (onL (insS (mS l) (mA l n) (plainL s)) ((mA l n + (plainL s).length : Nat) : Int) = insA (mS l) (mA l n) (plainL s)) := hid rfl
 have hx1 := bs_take (mS l) (mA l n)
 have hx2 := bs_drop (mS l) (mA l n)
 have hp1 := add_bs Tryz.prog ((mS l).take (mA l n)) (plainL s) (by have := take_len_le (mS l) (mA l n); omega)
 have hp2 : ∀ W : World, (Op.stringOp .add (bs ((mS l).take (mA l n) ++ plainL s)) (bs ((mS l).drop (mA l n)))).run Tryz.prog W = .ok (.string (bs (insS (mS l) (mA l n) (plainL s)))) W :=
  add_bs Tryz.prog ((mS l).take (mA l n) ++ plainL s) ((mS l).drop (mA l n)) (by have := take_len_le (mS l) (mA l n); have := drop_len_le (mS l) (mA l n); rw [List.length_append]; omega)
 rw [HiA.out] at HO
 clear HiA
 generalize insA (mS l) (mA l n) (plainL s) = x at *
 generalize insS (mS l) (mA l n) (plainL s) = whole at *
 generalize (mS l).take (mA l n) ++ plainL s = t3 at *
 generalize (mS l).take (mA l n) = t1 at *
 generalize (mS l).drop (mA l n) = t2 at *
 generalize mA l n = a at *
 generalize mS l = m at *
 generalize plainL s = p at *
 have hszm := bs_size m
 have hszp := bs_size p
 have k0 : Below w.heap.size w ((w.alloc (.cells #[.string (bs l), .int .i64 n] 43)).alloc (.cells #[.string ⟨#[]⟩, .int .i64 0] 43)) := ((Below.refl _ w).alloc (Nat.le_refl _) _).alloc (by simp) _
 have b0 := (Bx.new w 43 (.string (bs l)) (.int .i64 n)).alloc (.cells #[.string ⟨#[]⟩, .int .i64 0] 43)
 have r0 := Bx.new (w.alloc (.cells #[.string (bs l), .int .i64 n] 43)) 43 (.string ⟨#[]⟩) (.int .i64 0)
 rw [World.size_alloc] at r0
 have c00 := b0.c0
 have c01 := b0.c1
 have Hsp := hid hsp
 have hi0 : (0 : Int) ≤ (a : Int) := by omega
 have hi1 : (a : Int) ≤ (m.length : Int) := by omega
 have hw1 : IntKind.i64.wrap ((m.length : Int) + (p.length : Int)) = (m.length : Int) + (p.length : Int) := IntWalk.i64_in _ (by omega)
 have hw2 : IntKind.i64.wrap ((a : Int) + (p.length : Int)) = (a : Int) + (p.length : Int) := IntWalk.i64_in _ (by omega)
 have hd6 : decide ((600 : Int) < (m.length : Int) + (p.length : Int)) = false := decide_eq_false (by omega)
 have hcast : ((a + p.length : Nat) : Int) = (a : Int) + (p.length : Int) := by omega
 rw [hcast] at HO
 clear hsp hil hcast
 go_enter Tryz.func53, Tryz.ntmps53
 go_wp2_with fail
 refine (HM.out _ (spans_below Hsp.out k0)).mono ?_
 rintro e w1 ⟨rfl, hb1⟩
 have k1 := k0.trans (hb1.mono k0.size)
 have b1 := b0.below hb1
 have r1 := r0.below hb1
 clear hb1 c00 c01 b0 r0 k0
 go_wp2_with fail
 refine (HP.out _).mono ?_
 rintro e w2 ⟨rfl, hb2⟩
 have k2 := k1.trans (hb2.mono k1.size)
 have b2 := b1.below hb2
 have r2 := r1.below hb2
 clear hb2 b1 r1 k1
 have c20 := b2.c0
 have c21 := b2.c1
 have f20 := b2.f0
 have f21 := b2.f1
 have b3 := (b2.set0 (.string (bs m))).set1 (.int .i64 (a : Int))
 have r3 := (r2.other (i := 0) (Nat.succ_ne_self _) (.string (bs m))).other (i := 1) (Nat.succ_ne_self _) (.int .i64 (a : Int))
 have k3 := (k2.setCell (p := ⟨w.heap.size, 0, none⟩) (Nat.le_refl _) (.string (bs m))).setCell (p := ⟨w.heap.size, 1, none⟩) (Nat.le_refl _) (.int .i64 (a : Int))
 have c30 := b3.c0
 have c31 := b3.c1
 have K3 := hid k3
 have R3 := hid r3
 have B3 := hid b3
 clear b2 r2 k2 b3 r3 k3
 go_wp2_with fail
 go_quiet (fail)
 go_wp2_with fail
 refine (HO.out _ (spans_below Hsp.out (bel_drewN K3.out _))).mono ?_
 rintro e w5 ⟨rfl, hb5⟩
 have k5 := (bel_drewN K3.out nq).trans (hb5.mono (bel_drewN K3.out nq).size)
 have r5 := (R3.out.drewN nq).below hb5
 have c50 := r5.c0
 have c51 := r5.c1
 have f50 := r5.f0
 have f51 := r5.f1
 have K5 := hid k5
 have R5 := hid r5
 clear hb5 r5 k5
 go_wp2
 refine bodyPost_ret (results_bx2 rfl _ _ (w.heap.size + 1) (.string (bs whole)) (.int .i64 (x : Int)) 43 rfl ((R5.out.set0 _).set1 _) Tryz.underlying43 (sizeBuf _)) rfl ?_
 exact ⟨rfl, (K5.out.setCell (p := ⟨w.heap.size + 1, 0, none⟩) (Nat.le_succ _) _).setCell (p := ⟨w.heap.size + 1, 1, none⟩) (Nat.le_succ _) _⟩
set_option maxHeartbeats 4000000 in
theorem insert_no (l s : List UInt8) (n : Int) (hl : l.length ≤ 137438953472) (hs : s.length ≤ 137438953472) (w : World) (hsp : Spans w) (h6 : 600 < (mS l).length + (plainL s).length) :
  Calls Tryz.prog 53 #[.agg #[.string (bs l), .int .i64 n], .string (bs s)] w fun e w' => e = .returned (.tuple #[.agg #[.string (bs (mS l)), .int .i64 (mA l n : Int)], .int .i64 30]) ∧ Below w.heap.size w w' := by
 have HM := hid (fun W h => make_calls l n hl W h)
 have HP := hid (fun W => plain_calls s hs W)
 have ha := mA_le l n
 have hms := mS_len l
 have hpl := plain_length s
 generalize mA l n = a at *
 generalize mS l = m at *
 generalize plainL s = p at *
 have hszm := bs_size m
 have hszp := bs_size p
 have k0 : Below w.heap.size w ((w.alloc (.cells #[.string (bs l), .int .i64 n] 43)).alloc (.cells #[.string ⟨#[]⟩, .int .i64 0] 43)) := ((Below.refl _ w).alloc (Nat.le_refl _) _).alloc (by simp) _
 have b0 := (Bx.new w 43 (.string (bs l)) (.int .i64 n)).alloc (.cells #[.string ⟨#[]⟩, .int .i64 0] 43)
 have r0 := Bx.new (w.alloc (.cells #[.string (bs l), .int .i64 n] 43)) 43 (.string ⟨#[]⟩) (.int .i64 0)
 rw [World.size_alloc] at r0
 have c00 := b0.c0
 have c01 := b0.c1
 have Hsp := hid hsp
 have hw1 : IntKind.i64.wrap ((m.length : Int) + (p.length : Int)) = (m.length : Int) + (p.length : Int) := IntWalk.i64_in _ (by omega)
 have hd6 : decide ((600 : Int) < (m.length : Int) + (p.length : Int)) = true := decide_eq_true (by omega)
 clear hsp
 go_enter Tryz.func53, Tryz.ntmps53
 go_wp2_with fail
 refine (HM.out _ (spans_below Hsp.out k0)).mono ?_
 rintro e w1 ⟨rfl, hb1⟩
 have k1 := k0.trans (hb1.mono k0.size)
 have b1 := b0.below hb1
 have r1 := r0.below hb1
 clear hb1 c00 c01 b0 r0 k0
 go_wp2_with fail
 refine (HP.out _).mono ?_
 rintro e w2 ⟨rfl, hb2⟩
 have k2 := k1.trans (hb2.mono k1.size)
 have b2 := b1.below hb2
 have r2 := r1.below hb2
 clear hb2 b1 r1 k1
 have c20 := b2.c0
 have c21 := b2.c1
 have f20 := b2.f0
 have f21 := b2.f1
 have b3 := (b2.set0 (.string (bs m))).set1 (.int .i64 (a : Int))
 have r3 := (r2.other (i := 0) (Nat.succ_ne_self _) (.string (bs m))).other (i := 1) (Nat.succ_ne_self _) (.int .i64 (a : Int))
 have k3 := (k2.setCell (p := ⟨w.heap.size, 0, none⟩) (Nat.le_refl _) (.string (bs m))).setCell (p := ⟨w.heap.size, 1, none⟩) (Nat.le_refl _) (.int .i64 (a : Int))
 have c30 := b3.c0
 have c31 := b3.c1
 have K3 := hid k3
 have R3 := hid r3
 have B3 := hid b3
 clear b2 r2 k2 b3 r3 k3
 have r30 := R3.out.c0
 have r31 := R3.out.c1
 have q30 := R3.out.f0
 have q31 := R3.out.f1
 go_wp2
 refine bodyPost_ret (results_bx2 rfl _ _ (w.heap.size + 1) (.string (bs m)) (.int .i64 (a : Int)) 43 rfl ((R3.out.set0 _).set1 _) Tryz.underlying43 (sizeBuf _)) rfl ?_
 exact ⟨rfl, (K3.out.setCell (p := ⟨w.heap.size + 1, 0, none⟩) (Nat.le_succ _) _).setCell (p := ⟨w.heap.size + 1, 1, none⟩) (Nat.le_succ _) _⟩
end
section
open Go Go.RowKit
open Go.Lib (hid)
set_option maxRecDepth 100000
theorem szD (W : World) : (sizeOf 60).run Tryz.prog W = .ok 3 W := by simp [sizeOf, typeInfo, go_sem]; kernel_rfl
theorem results_bx3 {P : Program} {fn : Func} {p : Tmp} {ty : TypeId} {fs : Array Field} (h : fn.results = #[.cell p ty]) (tmps : Array Value) (w : World) (g : Nat) (v0 v1 v2 : Value) (t : TypeId)
  (hp : tmps.getD p undef = .pointer (some ⟨g, 0, none⟩)) (hb : BxA w g t [v0, v1, v2]) (hu : P.underlying ty = some (.struct fs)) (hsz : (sizeOf ty).run P w = .ok 3 w) : (results fn tmps).run P w = .ok (.agg #[v0, v1, v2]) w := by
 have hp' : tmps[p]?.getD undef = .pointer (some ⟨g, 0, none⟩) := by simpa using hp
 have c0 := hb.c 0 rfl
 have c1 := hb.c 1 rfl
 have c2 := hb.c 2 rfl
 simp [results, h, hp', asAddr, loadVar, isAgg, Sem.run_bind, run_underlying hu, hsz, loadCells, loadCellsFrom, Addr.add, c0, c1, c2, go_sem]
theorem results_bx3' {P : Program} {fn : Func} {p q : Tmp} {ty : TypeId} {fs : Array Field} (h : fn.results = #[.cell p ty, .tmp q]) (tmps : Array Value) (w : World) (g : Nat) (v0 v1 v2 v : Value) (t : TypeId)
  (hp : tmps.getD p undef = .pointer (some ⟨g, 0, none⟩)) (hq : tmps.getD q undef = v) (hb : BxA w g t [v0, v1, v2]) (hu : P.underlying ty = some (.struct fs)) (hsz : (sizeOf ty).run P w = .ok 3 w) : (results fn tmps).run P w = .ok (.tuple #[.agg #[v0, v1, v2], v]) w := by
 have hp' : tmps[p]?.getD undef = .pointer (some ⟨g, 0, none⟩) := by simpa using hp
 have hq' : tmps[q]?.getD undef = v := by simpa using hq
 have c0 := hb.c 0 rfl
 have c1 := hb.c 1 rfl
 have c2 := hb.c 2 rfl
 simp [results, h, hp', hq', asAddr, loadVar, isAgg, Sem.run_bind, run_underlying hu, hsz, loadCells, loadCellsFrom, Addr.add, c0, c1, c2, go_sem]
theorem field_buf0L (a b : Value) : ∀ W : World, (Instr.field 43 (.agg #[a, b]) 0).run Tryz.prog W = .ok a W := fun W => by kernel_rfl
section
variable (w : World) (O F : Nat → Prop) (b : Nat) (s : LN)
set_option maxHeartbeats 1000000 in
theorem buf_callsL (h : LineL w O F b s) (_ : Spans w) :
  Calls Tryz.prog 13 #[.pointer (some ⟨b, 0, none⟩)] w fun e w' => e = .returned (.agg #[.string (bs s.buf.1), .int .i64 (s.buf.2 : Int)]) ∧ Below w.heap.size w w' := by
 obtain ⟨g, r, Rl, Rr, h⟩ := h
 have k0 : Below w.heap.size w (w.alloc (.cells #[.string ⟨#[]⟩, .int .i64 0] 43)) := (Below.refl _ w).alloc (Nat.le_refl _) _
 have hb0 := Bx.new w 43 (.string ⟨#[]⟩) (.int .i64 0)
 have c0 := (h.box.below k0).c 0 rfl
 have H := hid (now_callsB _ Rl g s.log (objB.below h.log k0))
 clear h
 go_enter Tryz.func13, Tryz.ntmps13
 go_wp2_with fail
 refine H.out.mono ?_
 rintro e w2 ⟨rfl, hb2⟩
 have g2 := hb0.below hb2
 have k2 := k0.trans (hb2.mono k0.size)
 have f0 := g2.c0
 have f1 := g2.c1
 have e0 := g2.f0
 have e1 := g2.f1
 have G2 := hid g2
 have K2 := hid k2
 clear g2 k2 hb2 hb0 k0
 go_wp2
 refine bodyPost_ret (results_bx rfl _ _ w.heap.size (.string (bs s.log.now.1)) (.int .i64 (s.log.now.2 : Int)) 43 rfl ((G2.out.set0 _).set1 _) Tryz.underlying43 (sizeBuf _)) rfl ?_
 exact ⟨rfl, (K2.out.setCell (p := ⟨w.heap.size, 0, none⟩) (Nat.le_refl _) _).setCell (p := ⟨w.heap.size, 1, none⟩) (Nat.le_refl _) _⟩
theorem undos_callsL (h : LineL w O F b s) (_ : Spans w) :
  Calls Tryz.prog 11 #[.pointer (some ⟨b, 0, none⟩)] w fun e w' => e = .returned (.tuple #[.int .i64 (s.log.back.length : Int), .int .i64 (s.log.forth.length : Int)]) ∧ Below w.heap.size w w' := by
 obtain ⟨g, r, Rl, Rr, h⟩ := h
 have c0 := h.box.c 0 rfl
 have H := hid (len_callsB w Rl g s.log h.log)
 clear h
 go_enter Tryz.func11, Tryz.ntmps11
 go_wp2_with fail
 refine H.out.mono ?_
 rintro e w2 ⟨rfl, hb2⟩
 go_wp2
 go_ret2
 exact ⟨rfl, hb2⟩
set_option maxHeartbeats 2000000 in
theorem write_callsL (h : LineL w O F b s) (x : Bf) (hx : Rt x.1 x.2) :
  Calls Tryz.prog 54 #[.pointer (some ⟨b, 0, none⟩), bufV x] w fun e w' => e = .returned (.bool (decide (x ≠ s.buf))) ∧ ToLn w O F w' b ⟨wrG s.log x 0, s.ring, s.last⟩ := by
 obtain ⟨g, r, Rl, Rr, h⟩ := h
 have hgl := h.log.lt g h.log.ins
 have hbg := h.bg
 obtain ⟨W1, hW1⟩ : ∃ W1, w.alloc (.cells #[.string (bs x.1), .int .i64 (x.2 : Int)] 43) = W1 := ⟨_, rfl⟩
 have k0 : Below w.heap.size w W1 := by rw [← hW1]; exact (Below.refl _ w).alloc (Nat.le_refl _) _
 have hx1 : Bx W1 w.heap.size 43 (.string (bs x.1)) (.int .i64 (x.2 : Int)) := by rw [← hW1]; exact Bx.new w 43 _ _
 have h1 := h.below k0
 have HSS : Hid (∀ w', Only (fun k => k = g) W1.drew w' → w'.cell? ⟨b, 0, none⟩ = some (.pointer (some ⟨g, 0, none⟩)) ∧ w'.cell? ⟨w.heap.size, 0, none⟩ = some (.string (bs x.1)) ∧ w'.cell? ⟨w.heap.size, 1, none⟩ = some (.int .i64 (x.2 : Int))) := hid (fun w' ho => ⟨(h1.box.below (Below.refl _ W1).drew |>.keep ho hbg).c 0 rfl, ho.cell (Bx.below hx1 (Below.refl _ W1).drew).c0 (fun (e : w.heap.size = g) => by omega), ho.cell (Bx.below hx1 (Below.refl _ W1).drew).c1 (fun (e : w.heap.size = g) => by omega)⟩)
 have c0 := h1.box.c 0 rfl
 have x0 := hx1.c0
 have x1 := hx1.c1
 have HD := hid (do_callsB W1.drew Rl g s.log (objB.below h1.log (Below.refl _ W1).drew) x 0)
 have HL := hid (h1.below (Below.refl _ W1).drew)
 have HK : Hid (Below w.heap.size w W1.drew) := hid (k0.trans ((Below.refl _ W1).drew.mono k0.size))
 have Hok := hid hx
 clear h h1 hx1 k0 hgl hbg hx
 rw [show s.buf = s.log.now from rfl]
 generalize decide (x ≠ s.log.now) = dd at *
 go_enter Tryz.func54, Tryz.ntmps54
 go_upto_region 1 with fail
 unfold bufV
 clear hW1
 refine wp_region_held_drew (S := (fun w' => w'.cell? ⟨b, 0, none⟩ = some (.pointer (some ⟨g, 0, none⟩)) ∧ w'.cell? ⟨w.heap.size, 0, none⟩ = some (.string (bs x.1)) ∧ w'.cell? ⟨w.heap.size, 1, none⟩ = some (.int .i64 (x.2 : Int)))) (by kernel_rfl) ⟨c0, x0, x1⟩ (fun hHeld => ?_)
 refine tkH 0 ?_
 refine tkH 1 ?_
 refine tkH 2 ?_
 refine tkH 3 ?_
 refine tkH 4 ?_
 refine rdH 5 fun K hK => ?_
 go_simp
 refine HD.out.mono ?_
 rintro e w3 ⟨rfl, ht⟩
 have hS := HSS.out w3 (by obtain ⟨_, _, ho, _⟩ := ht; exact ho)
 obtain ⟨Rl3, F3, h3, hs3⟩ := HL.out.log_at ht ⟨HL.out.ok.log.does x 0, (LN.does_lim _ _ _).trans HL.out.ok.lim, HL.out.ok.rt.does Hok.out 0, HL.out.ok.ring, HL.out.ok.rlim⟩
 have HB := hid (break_callsB w3 Rl3 g _ h3.log)
 have H3 := hid h3
 have HS3 := hid ((StepF.below O F HK.out).trans hs3)
 have y0 := h3.box.c 0 rfl
 clear ht h3 hs3 HD
 refine hK.out _ _ hS (fun hHeld => ?_)
 clear hK K
 refine tkH 6 ?_
 refine wpAnyH_done (by kernel_rfl) ?_ _
 go_wp2_with fail
 refine HB.out.mono ?_
 rintro e w4 ⟨rfl, ht⟩
 have hto := H3.out.log_to ht ⟨H3.out.ok.log.brk, H3.out.ok.lim, H3.out.ok.rt.brk, H3.out.ok.ring, H3.out.ok.rlim⟩
 go_wp2
 go_ret
 exact ⟨rfl, HS3.out.tom hto⟩
set_option maxHeartbeats 2000000 in
theorem move_callsL (h : LineL w O F b s) (hsp : Spans w) (a : Nat) (ha : IsB s.buf.1 a) :
  Calls Tryz.prog 110 #[.pointer (some ⟨b, 0, none⟩), .int .i64 (a : Int)] w fun e w' => e = .returned (.tuple #[]) ∧ ToLn w O F w' b ⟨mvL s.log a, s.ring, s.last⟩ := by
 have HBuf := hid (buf_callsL w.drew O F b s (objLn.below h (Below.refl _ w).drew) (spans_below hsp (Below.refl _ w).drew))
 obtain ⟨g, r, Rl, Rr, h⟩ := h
 have hgl := h.log.lt g h.log.ins
 have hbl := h.box.lt
 have hbg := h.bg
 have c0 := h.box.c 0 rfl
 have HSS : Hid (∀ w', Below w.heap.size w.drew w' → w'.cell? ⟨b, 0, none⟩ = some (.pointer (some ⟨g, 0, none⟩))) := hid (fun w' hb => ((h.box.below (Below.refl _ w).drew).below hb).c 0 rfl)
 have HST : Hid (∀ w1 w', Below w.heap.size w.drew w1 → Only (fun k => k = g) w1 w' → w'.cell? ⟨b, 0, none⟩ = some (.pointer (some ⟨g, 0, none⟩))) := hid (fun w1 w' hb ho => (((h.box.below (Below.refl _ w).drew).below hb).keep ho hbg).c 0 rfl)
 have HL := hid (h.below (Below.refl _ w).drew)
 have hok := h.ok
 have Hok := hid (show Rt s.log.now.1 a from ⟨h.ok.rt.1.1, h.ok.rt.1.2.1, ha⟩)
 clear h hgl hbg ha hbl hok hsp
 generalize hbf : s.buf = bf at HBuf
 have hbf' : s.log.now = bf := hbf
 clear hbf
 go_enter Tryz.func110, Tryz.ntmps110
 go_upto_region 0 with fail
 refine wp_region_held_drew (S := (fun w' => w'.cell? ⟨b, 0, none⟩ = some (.pointer (some ⟨g, 0, none⟩)))) (by kernel_rfl) c0 (fun hHeld => ?_)
 refine tkH 0 ?_
 refine tkH 1 ?_
 refine tkH 2 ?_
 refine tkH 3 ?_
 refine tkH 4 ?_
 refine tkH 7 ?_
 refine rdH 5 fun K hK => ?_
 go_simp
 refine HBuf.out.mono ?_
 rintro e w3 ⟨rfl, hb3⟩
 have H3 := hid (HL.out.below hb3)
 have HB3 : Hid (Below w.heap.size w w3) := hid ((Below.refl _ w).drew.trans hb3)
 have HS3 := hid (HST.out w3 · hb3)
 have hS := HSS.out w3 hb3
 have HM := hid (move_callsB w3 Rl g s.log H3.out.log (s.log.now.1, a))
 have Hok3 := hid hb3
 rw [hbf'] at HM
 have fb := field_buf0L (.string (bs bf.1)) (.int .i64 (bf.2 : Int))
 unfold bufV at HM
 dsimp only at HM
 clear hb3 HBuf
 refine hK.out _ _ hS (fun hHeld => ?_)
 clear hK K
 refine tkH 6 ?_
 refine tkH 8 ?_
 refine rdH 9 fun K hK => ?_
 go_simp
 refine HM.out.mono ?_
 rintro e w4 ⟨rfl, ht⟩
 have hT := HST.out w3 w4 Hok3.out (by obtain ⟨_, _, ho, _⟩ := ht; exact ho)
 rw [← hbf'] at ht
 obtain ⟨Rl4, F4, h4, hs4⟩ := H3.out.log_at ht ⟨H3.out.ok.log.move _, H3.out.ok.lim, H3.out.ok.rt.move Hok.out, H3.out.ok.ring, H3.out.ok.rlim⟩
 have HB := hid (break_callsB w4 Rl4 g _ h4.log)
 have H4 := hid h4
 have HS4 := hid ((StepF.below O F HB3.out).trans hs4)
 have y0 := h4.box.c 0 rfl
 clear ht h4 hs4 HM
 refine hK.out _ _ hT (fun hHeld => ?_)
 clear hK K
 refine wpAnyH_done (by kernel_rfl) ?_ _
 go_wp2_with fail
 refine HB.out.mono ?_
 rintro e w5 ⟨rfl, ht⟩
 have hto := H4.out.log_to ht ⟨H4.out.ok.log.brk, H4.out.ok.lim, H4.out.ok.rt.brk, H4.out.ok.ring, H4.out.ok.rlim⟩
 go_wp2
 go_end0
 exact ⟨rfl, HS4.out.tom hto⟩
end
end
section
open Go Go.RowKit
open Go.Lib (hid)
set_option maxHeartbeats 2000000 in
theorem prev_calls (l : List UInt8) (n : Int) (hl : l.length ≤ 137438953472) (w : World) (hsp : Spans w) :
  Calls Tryz.prog 15 #[.string (bs l), .int .i64 n] w fun e w' => e = .returned (.int .i64 (prvL (mS l) (mA l n) : Int)) ∧ Below w.heap.size w w' := by
 have HM := hid (fun W h => make_calls l n hl W h)
 have ha := mA_le l n
 have hms := mS_len l
 have HB := hid (fun W h => back_calls (mS l) ((mA l n : Int) - 1) (by omega) W h)
 have HiA : Hid (backL (mS l) ((mA l n : Int) - 1) = prvL (mS l) (mA l n)) := hid rfl
 rw [HiA.out] at HB
 clear HiA
 generalize prvL (mS l) (mA l n) = x at *
 generalize mA l n = a at *
 generalize mS l = m at *
 have hw1 : IntKind.i64.wrap ((a : Int) - 1) = (a : Int) - 1 := IntWalk.i64_in _ (by omega)
 have Hsp := hid hsp
 clear hsp
 go_enter Tryz.func15, Tryz.ntmps15
 go_wp2_with fail
 refine (HM.out _ Hsp.out).mono ?_
 rintro e w1 ⟨rfl, hb1⟩
 have b1 := Bx.new w1 43 (.string (bs m)) (.int .i64 (a : Int))
 have c10 := b1.c0
 have c11 := b1.c1
 have k1 : Below w.heap.size w (w1.alloc (.cells #[.string (bs m), .int .i64 (a : Int)] 43)) := hb1.alloc hb1.size _
 have K1 := hid k1
 clear hb1 b1 k1
 go_wp2_with fail
 refine (HB.out _ (spans_below Hsp.out K1.out)).mono ?_
 rintro e w2 ⟨rfl, hb2⟩
 have k2 := K1.out.trans (hb2.mono K1.out.size)
 go_wp2
 go_ret
 exact ⟨rfl, k2⟩
set_option maxHeartbeats 2000000 in
theorem next_callsT (l : List UInt8) (n : Int) (hl : l.length ≤ 137438953472) (w : World) (hsp : Spans w) :
  Calls Tryz.prog 16 #[.string (bs l), .int .i64 n] w fun e w' => e = .returned (.int .i64 (nxtL (mS l) (mA l n) : Int)) ∧ Below w.heap.size w w' := by
 have HM := hid (fun W h => make_calls l n hl W h)
 have ha := mA_le l n
 have hms := mS_len l
 have HB := hid (fun W h => on_calls (mS l) ((mA l n : Int) + 1) (by omega) W h)
 have HiA : Hid (onL (mS l) ((mA l n : Int) + 1) = nxtL (mS l) (mA l n)) := hid rfl
 rw [HiA.out] at HB
 clear HiA
 generalize nxtL (mS l) (mA l n) = x at *
 generalize mA l n = a at *
 generalize mS l = m at *
 have hw1 : IntKind.i64.wrap ((a : Int) + 1) = (a : Int) + 1 := IntWalk.i64_in _ (by omega)
 have Hsp := hid hsp
 clear hsp
 go_enter Tryz.func16, Tryz.ntmps16
 go_wp2_with fail
 refine (HM.out _ Hsp.out).mono ?_
 rintro e w1 ⟨rfl, hb1⟩
 have b1 := Bx.new w1 43 (.string (bs m)) (.int .i64 (a : Int))
 have c10 := b1.c0
 have c11 := b1.c1
 have k1 : Below w.heap.size w (w1.alloc (.cells #[.string (bs m), .int .i64 (a : Int)] 43)) := hb1.alloc hb1.size _
 have K1 := hid k1
 clear hb1 b1 k1
 go_wp2_with fail
 refine (HB.out _ (spans_below Hsp.out K1.out)).mono ?_
 rintro e w2 ⟨rfl, hb2⟩
 have k2 := K1.out.trans (hb2.mono K1.out.size)
 go_wp2
 go_ret
 exact ⟨rfl, k2⟩
end
section
open Go Go.RowKit
open Go.Lib (hid)
theorem nextL_bound (c : List UInt8) : (nextL c).1 ≤ 1114111 := by
 by_cases h : c = []
 ·subst h; simp [nextL_nil]
 ·have e : nextL c = Lib.decodeL c := by simp [nextL, h]
  have hv := decodeL_valid c
  rw [e]
  unfold Valid at hv
  omega
set_option maxHeartbeats 2000000 in
theorem isWord_calls (c : List UInt8) (hl : c.length ≤ 1099511627776) (w : World) :
  Calls Tryz.prog 92 #[.string (bs c)] w fun e w' => e = .returned (.bool (wordL c)) ∧ Below w.heap.size w w' := by
 have hs6 := Lib.run_convert_string_bytes (P := Tryz.prog) w 9 81 5 (bs c) Tryz.underlying9 Tryz.underlying81 Tryz.underlying5
 have hsz := bs_size c
 have kw := below_bytes w 5 ⟨c.toArray⟩
 have Hn := hid (next_calls _ (grownCap w c.length 0 5) c _ (byt_bytes w c) (grownCap_ge w c.length 0 5) (grownCap_le_maxLen w c.length 0 5 (by unfold maxLen; omega)))
 have hb := nextL_bound c
 have Hw : Hid (wordL c = wordR ((nextL c).1 : Int)) := hid rfl
 have Hkw := hid kw
 clear kw
 generalize (nextL c).1 = r at *
 generalize (nextL c).2 = z at *
 generalize wordL c = q at *
 go_enter Tryz.func92, Tryz.ntmps92
 go_wp2_with fail
 refine Hn.out.mono ?_
 rintro e w1 ⟨rfl, hb1⟩
 have Hk := hid (Hkw.out.trans (hb1.mono Hkw.out.size))
 clear hb1 hs6
 go_wp2
 all_goals
  go_ret
  refine ⟨?_, Hk.out⟩
  rw [Hw.out]
  refine congrArg (fun b : Bool => Ending.returned (Value.bool b)) ?_
  apply Bool.eq_iff_iff.2
  simp only [wordR, Bool.or_eq_true, decide_eq_true_eq, beq_iff_eq]
  first | omega | (refine ⟨fun _ => ?_, fun _ => trivial⟩; omega)
theorem skip_yes (q : Bool) (cs : List (List UInt8)) (k : Nat) (hk : k < cs.length) (h : wordL (cs.getD k []) = q) : skipN q (cs.drop k) = skipN q (cs.drop (k + 1)) + 1 := by
 have e : cs.drop k = cs.getD k [] :: cs.drop (k + 1) := by
  rw [List.drop_eq_getElem_cons hk]; simp [List.getD, hk]
 rw [e]
 conv => lhs; unfold skipN
 rw [if_pos h]
theorem skip_no (q : Bool) (cs : List (List UInt8)) (k : Nat) (hk : k < cs.length) (h : wordL (cs.getD k []) ≠ q) : skipN q (cs.drop k) = 0 := by
 have e : cs.drop k = cs.getD k [] :: cs.drop (k + 1) := by
  rw [List.drop_eq_getElem_cons hk]; simp [List.getD, hk]
 rw [e]
 unfold skipN
 rw [if_neg h]
theorem skip_end (q : Bool) (cs : List (List UInt8)) (k : Nat) (hk : ¬ k < cs.length) : skipN q (cs.drop k) = 0 := by
 rw [List.drop_of_length_le (by omega)]; rfl
def nxtB (cs : List (List UInt8)) (k : Nat) (q : Bool) : Bool := decide (k < cs.length) && (wordL (cs.getD k []) == q)
set_option maxHeartbeats 2000000 in
theorem nextIs_calls (q : Bool) (gn gc : Nat) (A : Option Addr) (c : Nat) (cs : List (List UInt8)) (k : Nat) (w : World) (hn : Boxed w gn 3 (.int .i64 (k : Int))) (hc : Boxed w gc 30 (.slice A cs.length c)) (hR : RdS w A (cs.map bs)) (hk : k ≤ cs.length) (hm : cs.flatten.length ≤ 1099511627776) :
  Calls Tryz.prog 91 #[.bool q, .pointer (some ⟨gn, 0, none⟩), .pointer (some ⟨gc, 0, none⟩)] w fun e w' => e = .returned (.bool (nxtB cs k q)) ∧ Below w.heap.size w w' := by
 have cn := hn.cell
 have cc := hc.cell
 by_cases hlt : k < cs.length
 ·have hd : decide ((k : Int) < (cs.length : Int)) = true := decide_eq_true (by omega)
  have hq : nxtB cs k q = (wordL (cs.getD k []) == q) := by unfold nxtB; rw [decide_eq_true hlt]; rfl
  rw [hq]
  obtain ⟨g, o, rfl, hg, hcell⟩ := rdS_at hR (by omega)
  have ck := hcell k hlt
  have hlen : (cs.getD k []).length ≤ 1099511627776 := by
   have h1 := pos_succ cs k hlt
   have h2 := pos_le cs (k + 1)
   omega
  have HW := hid (fun W => isWord_calls (cs.getD k []) hlen W)
  have hkl : (k : Int) < (cs.length : Int) := by omega
  clear hR hcell hq hlen
  generalize wordL (cs.getD k []) = b at *
  generalize cs.getD k [] = d at *
  go_enter Tryz.func91, Tryz.ntmps91
  go_wp2_with fail
  refine (HW.out _).mono ?_
  rintro e w1 ⟨rfl, hb1⟩
  go_wp2
  go_ret
  exact ⟨rfl, hb1⟩
 ·have hd : decide ((k : Int) < (cs.length : Int)) = false := decide_eq_false (by omega)
  have hq : nxtB cs k q = false := by unfold nxtB; rw [decide_eq_false hlt]; rfl
  rw [hq]
  go_enter Tryz.func91, Tryz.ntmps91
  go_wp2
  go_ret
  exact ⟨rfl, Below.refl _ _⟩
def numAt (w : World) (g : Nat) : Nat := match w.cell? ⟨g, 0, none⟩ with | some (.int _ z) => z.toNat | _ => 0
theorem numAt_of {w : World} {g : Nat} {t : TypeId} {k : Nat} (h : Boxed w g t (.int .i64 (k : Int))) : numAt w g = k := by
 unfold numAt; rw [h.cell]; simp
def ThrAt (w : World) (A : Option Addr) (c : Nat) (cs : List (List UInt8)) (v5 : Value) (wr : World) (k : Nat) : Prop :=
 v5 = .int .i64 (pos cs k : Int) ∧ k ≤ cs.length ∧ Boxed wr (w.heap.size + 1) 3 (.int .i64 (k : Int)) ∧ Boxed wr w.heap.size 30 (.slice A cs.length c) ∧ Below w.heap.size w wr
set_option maxHeartbeats 8000000 in
theorem through_calls (A : Option Addr) (c : Nat) (cs : List (List UInt8)) (w : World) (hR : RdS w A (cs.map bs)) (hm : cs.flatten.length ≤ 1099511627776) (hn : cs.length ≤ 1099511627776) :
  Calls Tryz.prog 42 #[.slice A cs.length c] w fun e w' => e = .returned (.int .i64 (thrL cs : Int)) ∧ Below w.heap.size w w' := by
 have hK : Hid (thrL cs = pos cs (skipN false cs + skipN true (cs.drop (skipN false cs)))) := hid rfl
 have b0 := (Boxed.new w 30 (.slice A cs.length c)).alloc (.cells #[.int .i64 0] 3)
 have n0 := Boxed.new (w.alloc (.cells #[.slice A cs.length c] 30)) 3 (.int .i64 0)
 rw [World.size_alloc] at n0
 have k0 : Below w.heap.size w ((w.alloc (.cells #[.slice A cs.length c] 30)).alloc (.cells #[.int .i64 0] 3)) := ((Below.refl _ w).alloc (Nat.le_refl _) _).alloc (by simp) _
 have HR := hid hR
 have B0 := hid b0
 have N0 := hid n0
 have K0 := hid k0
 clear hR b0 n0 k0
 go_enter Tryz.func42, Tryz.ntmps42
 go_wp2_with fail
 go_loopw [5] (fun v5 wr => ∃ k, ThrAt w A c cs v5 wr k ∧ Hid (k + skipN false (cs.drop k) = skipN false cs)) (fun _ wr => cs.length - numAt wr (w.heap.size + 1))
 case atStart => exact ⟨0, ⟨rfl, Nat.zero_le _, N0.out, B0.out, K0.out⟩, hid (by simp)⟩
 case round =>
  obtain ⟨k, ⟨rfl, hk, hnx, hcl, hbel⟩, hinv⟩ := hrel
  have HC := hid (nextIs_calls false (w.heap.size + 1) w.heap.size A c cs k wr hnx hcl (HR.out.below hbel) hk hm)
  have hnum := hid (numAt_of hnx)
  cases hb : nxtB cs k false with
  | true =>
   rw [hb] at HC
   have hlt : k < cs.length := by
    unfold nxtB at hb
    simp only [Bool.and_eq_true, decide_eq_true_eq] at hb
    exact hb.1
   have hwd : wordL (cs.getD k []) = false := by
    unfold nxtB at hb
    simp only [Bool.and_eq_true, beq_iff_eq] at hb
    exact hb.2
   have hps := hid (pos_succ cs k hlt)
   have hple := pos_le cs (k + 1)
   rw [hps.out] at hple
   have hsk := hid (skip_yes false cs k hlt hwd)
   obtain ⟨g, o, rfl, hg, hcell⟩ := rdS_at HR.out (by omega)
   have hckw := hcell k hlt
   have hsz := bs_size (cs.getD k [])
   have Hnx := hid hnx
   have Hcl := hid hcl
   have Hbel := hid hbel
   have Hckw := hid hckw
   have hkl : (k : Int) < (cs.length : Int) := by omega
   have hw1 : IntKind.i64.wrap ((k : Int) + 1) = (k : Int) + 1 := IntWalk.i64_in _ (by omega)
   clear hb hwd hcell hckw hnx hcl hbel
   generalize cs.getD k [] = d at *
   generalize hp0 : pos cs k = p0 at *
   have hw2 : IntKind.i64.wrap ((p0 : Int) + (d.length : Int)) = (p0 : Int) + (d.length : Int) := IntWalk.i64_in _ (by omega)
   clear hp0
   go_wp2_with fail
   refine HC.out.mono ?_
   rintro e w1 ⟨rfl, hb1⟩
   have nx1 : Boxed w1 (w.heap.size + 1) 3 (.int .i64 (k : Int)) := (hb1.block _ Hnx.out.lt).trans Hnx.out
   have cl1 : Boxed w1 w.heap.size 30 (.slice (some ⟨g, o, none⟩) cs.length c) := (hb1.block _ Hcl.out.lt).trans Hcl.out
   have be1 : Below w.heap.size w w1 := Hbel.out.trans (hb1.mono Hbel.out.size)
   have cn1 := nx1.cell
   have fn1 := nx1.frozen
   have cc1 := cl1.cell
   have ce1 : w1.cell? ⟨g, o + k, none⟩ = some (.string (bs d)) := by rw [be1.cell (p := ⟨g, o + k, none⟩) hg]; exact Hckw.out
   have Nx1 := hid (nx1.set (.int .i64 ((k : Int) + 1)))
   have Cl1 := hid (cl1.other (show w.heap.size ≠ w.heap.size + 1 by omega) (.int .i64 ((k : Int) + 1)))
   have Be1 := hid (be1.setCell (p := ⟨w.heap.size + 1, 0, none⟩) (Nat.le_succ _) (.int .i64 ((k : Int) + 1)))
   clear hb1 nx1 cl1 be1
   go_wp2
   go_roundw
   case rel =>
    refine ⟨k + 1, ⟨by rw [hps.out]; go_num, by omega, by simpa using Nx1.out, Cl1.out, Be1.out⟩, hid ?_⟩
    have := hinv.out
    rw [hsk.out] at this
    omega
   case measure =>
    have hn1 : numAt (w1.setCell ⟨w.heap.size + 1, 0, none⟩ (.int .i64 ((k : Int) + 1))) (w.heap.size + 1) = k + 1 := numAt_of (t := 3) (by simpa using Nx1.out)
    rw [hn1, hnum.out]; omega
  | false =>
   rw [hb] at HC
   have hsk : Hid (skipN false (cs.drop k) = 0) := hid (by
    by_cases hlt : k < cs.length
    ·refine skip_no false cs k hlt fun h => ?_
     unfold nxtB at hb
     rw [decide_eq_true hlt, h] at hb
     simp at hb
    ·exact skip_end false cs k hlt)
   have Hnx := hid hnx
   have Hcl := hid hcl
   have Hbel := hid hbel
   have Hk := hid hk
   clear hb hnx hcl hbel hk
   generalize hp0 : pos cs k = p0 at *
   have Hp0 := hid hp0
   clear hp0
   go_wp2_with fail
   refine HC.out.mono ?_
   rintro e w1 ⟨rfl, hb1⟩
   have nx1 : Boxed w1 (w.heap.size + 1) 3 (.int .i64 (k : Int)) := (hb1.block _ Hnx.out.lt).trans Hnx.out
   have cl1 : Boxed w1 w.heap.size 30 (.slice A cs.length c) := (hb1.block _ Hcl.out.lt).trans Hcl.out
   have be1 : Below w.heap.size w w1 := Hbel.out.trans (hb1.mono Hbel.out.size)
   have Nx1 := hid nx1
   have Cl1 := hid cl1
   have Be1 := hid be1
   clear hb1 nx1 cl1 be1
   go_wp2_with fail
   go_loopw [5] (fun v5 wr => ∃ k, ThrAt w A c cs v5 wr k ∧ Hid (k + skipN true (cs.drop k) = skipN false cs + skipN true (cs.drop (skipN false cs)))) (fun _ wr => cs.length - numAt wr (w.heap.size + 1))
   case atStart => exact ⟨k, ⟨by rw [Hp0.out], Hk.out, Nx1.out, Cl1.out, Be1.out⟩, hid (by have h1 := hinv.out; rw [hsk.out, Nat.add_zero] at h1; rw [h1])⟩
   case round =>
    obtain ⟨k, ⟨rfl, hk, hnx, hcl, hbel⟩, hinv⟩ := hrel
    have HC := hid (nextIs_calls true (w.heap.size + 1) w.heap.size A c cs k wr hnx hcl (HR.out.below hbel) hk hm)
    have hnum := hid (numAt_of hnx)
    cases hb : nxtB cs k true with
    | true =>
     rw [hb] at HC
     have hlt : k < cs.length := by
      unfold nxtB at hb
      simp only [Bool.and_eq_true, decide_eq_true_eq] at hb
      exact hb.1
     have hwd : wordL (cs.getD k []) = true := by
      unfold nxtB at hb
      simp only [Bool.and_eq_true, beq_iff_eq] at hb
      exact hb.2
     have hps := hid (pos_succ cs k hlt)
     have hple := pos_le cs (k + 1)
     rw [hps.out] at hple
     have hsk := hid (skip_yes true cs k hlt hwd)
     obtain ⟨g, o, rfl, hg, hcell⟩ := rdS_at HR.out (by omega)
     have hckw := hcell k hlt
     have hsz := bs_size (cs.getD k [])
     have Hnx := hid hnx
     have Hcl := hid hcl
     have Hbel := hid hbel
     have Hckw := hid hckw
     have hkl : (k : Int) < (cs.length : Int) := by omega
     have hw1 : IntKind.i64.wrap ((k : Int) + 1) = (k : Int) + 1 := IntWalk.i64_in _ (by omega)
     clear hb hwd hcell hckw hnx hcl hbel
     generalize cs.getD k [] = d at *
     generalize hp0 : pos cs k = p0 at *
     have hw2 : IntKind.i64.wrap ((p0 : Int) + (d.length : Int)) = (p0 : Int) + (d.length : Int) := IntWalk.i64_in _ (by omega)
     clear hp0
     go_wp2_with fail
     refine HC.out.mono ?_
     rintro e w1 ⟨rfl, hb1⟩
     have nx1 : Boxed w1 (w.heap.size + 1) 3 (.int .i64 (k : Int)) := (hb1.block _ Hnx.out.lt).trans Hnx.out
     have cl1 : Boxed w1 w.heap.size 30 (.slice (some ⟨g, o, none⟩) cs.length c) := (hb1.block _ Hcl.out.lt).trans Hcl.out
     have be1 : Below w.heap.size w w1 := Hbel.out.trans (hb1.mono Hbel.out.size)
     have cn1 := nx1.cell
     have fn1 := nx1.frozen
     have cc1 := cl1.cell
     have ce1 : w1.cell? ⟨g, o + k, none⟩ = some (.string (bs d)) := by rw [be1.cell (p := ⟨g, o + k, none⟩) hg]; exact Hckw.out
     have Nx1 := hid (nx1.set (.int .i64 ((k : Int) + 1)))
     have Cl1 := hid (cl1.other (show w.heap.size ≠ w.heap.size + 1 by omega) (.int .i64 ((k : Int) + 1)))
     have Be1 := hid (be1.setCell (p := ⟨w.heap.size + 1, 0, none⟩) (Nat.le_succ _) (.int .i64 ((k : Int) + 1)))
     clear hb1 nx1 cl1 be1
     go_wp2
     go_roundw
     case rel =>
      refine ⟨k + 1, ⟨by rw [hps.out]; go_num, by omega, by simpa using Nx1.out, Cl1.out, Be1.out⟩, hid ?_⟩
      have := hinv.out
      rw [hsk.out] at this
      omega
     case measure =>
      have hn1 : numAt (w1.setCell ⟨w.heap.size + 1, 0, none⟩ (.int .i64 ((k : Int) + 1))) (w.heap.size + 1) = k + 1 := numAt_of (t := 3) (by simpa using Nx1.out)
      rw [hn1, hnum.out]; omega
    | false =>
     rw [hb] at HC
     have hsk : Hid (skipN true (cs.drop k) = 0) := hid (by
      by_cases hlt : k < cs.length
      ·refine skip_no true cs k hlt fun h => ?_
       unfold nxtB at hb
       rw [decide_eq_true hlt, h] at hb
       simp at hb
      ·exact skip_end true cs k hlt)
     have Hnx := hid hnx
     have Hcl := hid hcl
     have Hbel := hid hbel
     have Hk := hid hk
     clear hb hnx hcl hbel hk
     generalize hp0 : pos cs k = p0 at *
     have Hp0 := hid hp0
     clear hp0
     go_wp2_with fail
     refine HC.out.mono ?_
     rintro e w1 ⟨rfl, hb1⟩
     have be1 : Below w.heap.size w w1 := Hbel.out.trans (hb1.mono Hbel.out.size)
     have He : Hid (thrL cs = p0) := hid (by
      have h1 := hinv.out
      rw [hsk.out] at h1
      rw [hK.out, ← h1, ← Hp0.out]; rfl)
     clear hb1
     go_wp2
     go_ret
     exact ⟨by rw [He.out]; rfl, be1⟩
end
section
open Go Go.RowKit Go.Lib Go.Sort
open Go.Lib (hid)
theorem setCells_same (g : Nat) : ∀ (vs : List Value) (o : Nat) (w : World), (w.setCells g o vs).tape = w.tape ∧ (w.setCells g o vs).heap.size = w.heap.size
 | [], _, _ => ⟨rfl, rfl⟩
 | v :: vs, o, w => by
  obtain ⟨h1, h2⟩ := setCells_same g vs (o + 1) (w.setCell ⟨g, o, none⟩ v)
  exact ⟨h1, h2.trans (by simp [World.setCell])⟩
theorem below_setCells {B g : Nat} {w : World} (hg : B ≤ g) (hB : B ≤ w.heap.size) (o : Nat) (vs : List Value) : Below B w (w.setCells g o vs) :=
 ⟨World.os_setCells _ _ _ _, (setCells_same g vs o w).1, World.output_setCells _ _ _ _, Nat.le_of_eq (setCells_same g vs o w).2.symm, fun k hk => World.heap_setCells_other w g o vs (by omega) (by omega)⟩
theorem strsOf_cs (cs : List (List UInt8)) : strsOf (fun i => bs (cs.getD i [])) cs.length = cs := by
 refine List.ext_getElem (by rw [strsOf_length]) fun i h1 h2 => ?_
 simp [strsOf, List.getD, h2]
theorem reverse_own (cs : List (List UInt8)) (A : Option Addr) (c base : Nat) (w : World) (hown : w.ownsRow base 9 1 (.slice A cs.length c) cs.length (cellsS (cs.map bs))) (hB : base ≤ w.heap.size) (hl : cs.length ≤ 1099511627776) :
  Calls Tryz.prog 41 #[.slice A cs.length c] w fun e w' => e = .returned (.tuple #[]) ∧ RdS w' A (cs.reverse.map bs) ∧ Below base w w' := by
 by_cases h0 : cs.length = 0
 ·rw [h0]
  refine (Tryz.slices_Reverse_string_empty A c w).mono ?_
  rintro e w' ⟨rfl, rfl⟩
  exact ⟨rfl, fun hn => absurd hn (by rw [List.length_map, List.length_reverse, h0]; omega), Below.refl _ _⟩
 ·rcases hown.2 with ⟨_, h1⟩ | ⟨g, cap, cur, hv, hbg, hh, _⟩
  ·exact absurd h1 h0
  ·injection hv with h1 h2 h3
   subst h1; subst h3
   have hat : ∀ i, i < cs.length → w.cell? ⟨g, 0 + i, none⟩ = some (.string (bs (cs.getD i []))) ∧ w.frozen? ⟨g, 0 + i, none⟩ = false := fun i hi => by
    rw [Nat.zero_add]
    exact own_cell hown (by simp [cellsS, hi, List.getD])
   refine (Tryz.slices_Reverse_string_cells g 0 cs.length c (fun i => bs (cs.getD i [])) w (by omega) (fun i hi => (hat i hi).1) (fun i hi => (hat i hi).2)).mono ?_
   rintro e w' ⟨rfl, q, rfl⟩
   rw [strsOf_cs]
   refine ⟨rfl, fun hn => ⟨g, 0, rfl, ?_, fun i hi => ?_⟩, (bel_drewN (Below.refl base w) q).trans (below_setCells hbg (bel_drewN (Below.refl base w) q |>.size |> Nat.le_trans hB) 0 _)⟩
   ·have h := (Array.getElem?_eq_some_iff.1 hh).1
    rw [(setCells_same g _ 0 _).2]
    exact h
   ·rw [List.length_map, List.length_reverse] at hi
    have h := World.cell?_setCells_in g (cs.reverse.map encStr) 0 (w.drewN q) (fun j hj => by
     rw [List.length_map, List.length_reverse] at hj
     have h2 := (hat j hj).1
     show (w.cell? ⟨g, 0 + j, none⟩).isSome = true
     rw [h2]; rfl) i (by rw [List.length_map, List.length_reverse]; exact hi)
    rw [h]
    simp [encStr, List.getD, hi]
theorem cutB_bs (l : List UInt8) : cutB (bs l) = (cutL l).map bs := rfl
theorem rev_flat (cs : List (List UInt8)) : cs.reverse.flatten.length = cs.flatten.length := by
 rw [List.length_flatten, List.length_flatten, List.map_reverse, List.sum_reverse]
theorem thr_rev (A : Option Addr) (c : Nat) (cs : List (List UInt8)) (w : World) (hR : RdS w A (cs.reverse.map bs)) (hm : cs.flatten.length ≤ 1099511627776) (hn : cs.length ≤ 1099511627776) :
  Calls Tryz.prog 42 #[.slice A cs.length c] w fun e w' => e = .returned (.int .i64 (thrL cs.reverse : Int)) ∧ Below w.heap.size w w' := by
 have h := through_calls A c cs.reverse w hR (by rw [rev_flat]; exact hm) (by rw [List.length_reverse]; exact hn)
 rwa [List.length_reverse] at h
theorem thrL_le (cs : List (List UInt8)) : thrL cs ≤ cs.flatten.length := pos_le cs _
theorem cutv_calls (l : List UInt8) (hl : l.length ≤ 1099511627776) (w : World) (hsp : Spans w) :
  Calls Tryz.prog 40 #[.string (bs l)] w fun e w' => ∃ v, e = .returned v ∧ w'.ownsRow w.heap.size 9 1 v (cutL l).length (cellsS ((cutL l).map bs)) ∧ Below w.heap.size w w' := by
 refine (cut_calls (bs l) (by rw [bs_size]; exact hl) w hsp).mono ?_
 rintro e w' ⟨v, rfl, hown, hb⟩
 rw [cutB_bs, List.length_map] at hown
 exact ⟨v, rfl, hown, hb⟩
set_option maxHeartbeats 4000000 in
theorem wordRight_calls (l : List UInt8) (n : Int) (hl : l.length ≤ 137438953472) (w : World) (hsp : Spans w) :
  Calls Tryz.prog 18 #[.string (bs l), .int .i64 n] w fun e w' => e = .returned (.int .i64 (wrL (mS l) (mA l n) : Int)) ∧ Below w.heap.size w w' := by
 have HM := hid (fun W h => make_calls l n hl W h)
 have ha := mA_le l n
 have hms := mS_len l
 have hcl := cutL_length ((mS l).drop (mA l n))
 have hcf := cutL_flatten ((mS l).drop (mA l n))
 have hdl := drop_len_le (mS l) (mA l n)
 have HC := hid (fun W h => cut_rd ((mS l).drop (mA l n)) (by omega) W h)
 have hth := thrL_le (cutL ((mS l).drop (mA l n)))
 have hwr : Hid (wrL (mS l) (mA l n) = mA l n + thrL (cutL ((mS l).drop (mA l n)))) := hid rfl
 have hx := bs_drop (mS l) (mA l n)
 rw [hcf] at hth
 have hcfl : (cutL ((mS l).drop (mA l n))).flatten.length ≤ 600 := by rw [hcf]; omega
 generalize wrL (mS l) (mA l n) = x at *
 clear hcf
 generalize cutL ((mS l).drop (mA l n)) = cs at *
 generalize (mS l).drop (mA l n) = y at *
 generalize mA l n = a at *
 generalize mS l = m at *
 have hszm := bs_size m
 have hi0 : (0 : Int) ≤ (a : Int) := by omega
 have hi1 : (a : Int) ≤ (m.length : Int) := by omega
 have hw1 : IntKind.i64.wrap ((a : Int) + (thrL cs : Int)) = (a : Int) + (thrL cs : Int) := IntWalk.i64_in _ (by omega)
 have Hsp := hid hsp
 clear hsp
 go_enter Tryz.func18, Tryz.ntmps18
 go_wp2_with fail
 refine (HM.out _ Hsp.out).mono ?_
 rintro e w1 ⟨rfl, hb1⟩
 have b1 := Bx.new w1 43 (.string (bs m)) (.int .i64 (a : Int))
 have k1 : Below w.heap.size w (w1.alloc (.cells #[.string (bs m), .int .i64 (a : Int)] 43)) := hb1.alloc hb1.size _
 have K2 := hid k1.drew
 have B2 := hid b1.drew
 clear hb1 b1 k1
 go_wp2_with fail
 refine wp_region_held_drew (S := (fun w' => w'.cell? ⟨w1.heap.size, 0, none⟩ = some (.string (bs m)) ∧ w'.cell? ⟨w1.heap.size, 1, none⟩ = some (.int .i64 (a : Int)))) (by kernel_rfl) ⟨B2.out.c0, B2.out.c1⟩ (fun hHeld => ?_)
 refine wpAnyH_take (i := 0) (oi := ⟨some 9, _, _, _, _, _⟩) (v := ?_) rfl (by kernel_rfl) (by kernel_rfl) (by kernel_rfl) (fun _ _ _ h => h) (Or.inl ⟨by kernel_rfl, ?hy0⟩) (by assumption) ?_
 case hy0 => (intro w' hSw; (try dsimp only at hSw); go_simp; try with_reducible rfl)
 simp only [Act.put, List.setIfInBounds_toArray, List.set_cons_zero, List.set_cons_succ]
 refine wpAnyH_take (i := 1) (oi := ⟨some 10, _, _, _, _, _⟩) (v := ?_) rfl (by kernel_rfl) (by kernel_rfl) (by kernel_rfl) (fun _ _ _ h => h) (Or.inl ⟨by kernel_rfl, ?hy1⟩) (by assumption) ?_
 case hy1 => (intro w' hSw; (try dsimp only at hSw); go_simp; try with_reducible rfl)
 simp only [Act.put, List.setIfInBounds_toArray, List.set_cons_zero, List.set_cons_succ]
 refine wpAnyH_take (i := 2) (oi := ⟨some 11, _, _, _, _, _⟩) (v := ?_) rfl (by kernel_rfl) (by kernel_rfl) (by kernel_rfl) (fun _ _ _ h => h) (Or.inl ⟨by kernel_rfl, ?hy2⟩) (by assumption) ?_
 case hy2 => (intro w' hSw; (try dsimp only at hSw); go_simp; try with_reducible rfl)
 simp only [Act.put, List.setIfInBounds_toArray, List.set_cons_zero, List.set_cons_succ]
 refine wpAnyH_take (i := 3) (oi := ⟨some 12, _, _, _, _, _⟩) (v := ?_) rfl (by kernel_rfl) (by kernel_rfl) (by kernel_rfl) (fun _ _ _ h => h) (Or.inl ⟨by kernel_rfl, ?hy3⟩) (by assumption) ?_
 case hy3 => (intro w' hSw; (try dsimp only at hSw); go_simp; try with_reducible rfl)
 simp only [Act.put, List.setIfInBounds_toArray, List.set_cons_zero, List.set_cons_succ]
 refine wpAnyH_take (i := 4) (oi := ⟨some 13, _, _, _, _, _⟩) (v := ?_) rfl (by kernel_rfl) (by kernel_rfl) (by kernel_rfl) (fun _ _ _ h => h) (Or.inl ⟨by kernel_rfl, ?hy4⟩) (by assumption) ?_
 case hy4 => (intro w' hSw; (try dsimp only at hSw); go_simp; try with_reducible rfl)
 simp only [Act.put, List.setIfInBounds_toArray, List.set_cons_zero, List.set_cons_succ]
 refine wpAnyH_take (i := 5) (oi := ⟨some 14, _, _, _, _, _⟩) (v := ?_) rfl (by kernel_rfl) (by kernel_rfl) (by kernel_rfl) (fun _ _ _ h => h) (Or.inl ⟨by kernel_rfl, ?hy5⟩) (by assumption) ?_
 case hy5 => (intro w' hSw; (try dsimp only at hSw); go_simp; try with_reducible rfl)
 simp only [Act.put, List.setIfInBounds_toArray, List.set_cons_zero, List.set_cons_succ]
 refine wpAnyH_take (i := 6) (oi := ⟨some 15, _, _, _, _, _⟩) (v := ?_) rfl (by kernel_rfl) (by kernel_rfl) (by kernel_rfl) (fun _ _ _ h => h) (Or.inl ⟨by kernel_rfl, ?hy6⟩) (by assumption) ?_
 case hy6 => (intro w' hSw; (try dsimp only at hSw); go_simp; try with_reducible rfl)
 simp only [Act.put, List.setIfInBounds_toArray, List.set_cons_zero, List.set_cons_succ]
 refine wpAnyH_ready (rs := [7]) (by kernel_rfl) (by simp) ?_
 refine AllReadyH.cons (o := ⟨some 16, _, _, _, _, _⟩) rfl (fun K hK => ?_) AllReadyH.nil
 (rw [if_pos (by kernel_rfl)])
 go_simp
 (refine (HC.out _ (spans_below Hsp.out K2.out)).mono ?_; rintro e w3 ⟨A, c, rfl, hR3, hb3⟩; have k3 := K2.out.trans (hb3.mono K2.out.size); have b3 := B2.out.below hb3)
 refine hK.out _ _ ⟨b3.c0, b3.c1⟩ (fun hHeld => ?_)
 clear hK K
 refine wpAnyH_ready (rs := [8]) (by kernel_rfl) (by simp) ?_
 refine AllReadyH.cons (o := ⟨some 17, _, _, _, _, _⟩) rfl (fun K hK => ?_) AllReadyH.nil
 (rw [if_pos (by kernel_rfl)])
 go_simp
 (refine (through_calls A c cs _ hR3 (by omega) (by omega)).mono ?_; rintro e w4 ⟨rfl, hb4⟩; have k4 := k3.trans (hb4.mono k3.size); have b4 := b3.below hb4)
 refine hK.out _ _ ⟨b4.c0, b4.c1⟩ (fun hHeld => ?_)
 clear hK K
 refine wpAnyH_take (i := 9) (oi := ⟨some 18, _, _, _, _, _⟩) (v := ?_) rfl (by kernel_rfl) (by kernel_rfl) (by kernel_rfl) (fun _ _ _ h => h) (Or.inl ⟨by kernel_rfl, ?hy9⟩) (by assumption) ?_
 case hy9 => (intro w' hSw; (try dsimp only at hSw); go_simp; try with_reducible rfl)
 simp only [Act.put, List.setIfInBounds_toArray, List.set_cons_zero, List.set_cons_succ]
 refine wpAnyH_take (i := 10) (oi := ⟨some 4, _, _, _, _, _⟩) (v := ?_) rfl (by kernel_rfl) (by kernel_rfl) (by kernel_rfl) (fun _ _ _ h => h) (Or.inl ⟨by kernel_rfl, ?hy10⟩) (by assumption) ?_
 case hy10 => (intro w' hSw; (try dsimp only at hSw); go_simp; try with_reducible rfl)
 simp only [Act.put, List.setIfInBounds_toArray, List.set_cons_zero, List.set_cons_succ]
 refine wpAnyH_done (by kernel_rfl) ?_ _
 have K4 := hid k4
 clear hHeld k3 b3 k4 b4 hb3 hb4 hR3
 go_wp2
 go_ret
 exact ⟨by rw [hwr.out]; go_num, K4.out⟩
set_option maxHeartbeats 4000000 in
theorem wordLeft_calls (l : List UInt8) (n : Int) (hl : l.length ≤ 137438953472) (w : World) (hsp : Spans w) :
  Calls Tryz.prog 17 #[.string (bs l), .int .i64 n] w fun e w' => e = .returned (.int .i64 (wlL (mS l) (mA l n) : Int)) ∧ Below w.heap.size w w' := by
 have HM := hid (fun W h => make_calls l n hl W h)
 have ha := mA_le l n
 have hms := mS_len l
 have hcl := cutL_length ((mS l).take (mA l n))
 have hcf := cutL_flatten ((mS l).take (mA l n))
 have htl : ((mS l).take (mA l n)).length = mA l n := by rw [List.length_take]; omega
 have HC := hid (fun W h => cutv_calls ((mS l).take (mA l n)) (by omega) W h)
 have hth := thrL_le (cutL ((mS l).take (mA l n))).reverse
 have hrf := rev_flat (cutL ((mS l).take (mA l n)))
 have hwr : Hid (wlL (mS l) (mA l n) = mA l n - thrL (cutL ((mS l).take (mA l n))).reverse) := hid rfl
 have hx := bs_take (mS l) (mA l n)
 rw [hrf, hcf] at hth
 have hcfl : (cutL ((mS l).take (mA l n))).flatten.length ≤ 600 := by rw [hcf]; omega
 generalize wlL (mS l) (mA l n) = x at *
 clear hcf
 generalize cutL ((mS l).take (mA l n)) = cs at *
 generalize (mS l).take (mA l n) = y at *
 generalize mA l n = a at *
 generalize mS l = m at *
 have hszm := bs_size m
 have hi0 : (0 : Int) ≤ (a : Int) := by omega
 have hi1 : (a : Int) ≤ (m.length : Int) := by omega
 have hw1 : IntKind.i64.wrap ((a : Int) - (thrL cs.reverse : Int)) = (a : Int) - (thrL cs.reverse : Int) := IntWalk.i64_in _ (by omega)
 have Hsp := hid hsp
 clear hsp
 go_enter Tryz.func17, Tryz.ntmps17
 go_wp2_with fail
 refine (HM.out _ Hsp.out).mono ?_
 rintro e w1 ⟨rfl, hb1⟩
 have b1 := Bx.new w1 43 (.string (bs m)) (.int .i64 (a : Int))
 have c10 := b1.c0
 have c11 := b1.c1
 have k1 : Below w.heap.size w (w1.alloc (.cells #[.string (bs m), .int .i64 (a : Int)] 43)) := hb1.alloc hb1.size _
 have K1 := hid k1
 have B1 := hid b1
 clear hb1 b1 k1
 go_wp2_with fail
 refine (HC.out _ (spans_below Hsp.out K1.out)).mono ?_
 rintro e w3 ⟨v, rfl, hown, hb3⟩
 obtain ⟨A, c, rfl⟩ := own_form hown
 have hsz3 := hb3.size
 have k3 := K1.out.trans (hb3.mono K1.out.size)
 have b3 := B1.out.below hb3
 have Hrev := hid (reverse_own cs A c _ w3 hown hsz3 (by omega))
 have K3 := hid k3
 have B3 := hid b3
 have HK1 := hid K1.out.size
 clear hown hb3 k3 b3 c10 c11 hsz3
 go_wp2_with fail
 refine Hrev.out.mono ?_
 rintro e w4 ⟨rfl, hR4, hb4⟩
 have k4 : Below w.heap.size w w4 := K3.out.trans (hb4.mono HK1.out)
 have b4 : Bx w4 w1.heap.size 43 (.string (bs m)) (.int .i64 (a : Int)) := (hb4.block _ (by simp)).trans B3.out
 have hR5 : RdS w4.drew A (cs.reverse.map bs) := hR4
 have K5 := hid k4.drew
 have B5 := hid b4.drew
 clear hb4 k4 b4 hR4
 go_wp2_with fail
 refine wp_region_held_drew (S := (fun w' => w'.cell? ⟨w1.heap.size, 0, none⟩ = some (.string (bs m)) ∧ w'.cell? ⟨w1.heap.size, 1, none⟩ = some (.int .i64 (a : Int)))) (by kernel_rfl) ⟨B5.out.c0, B5.out.c1⟩ (fun hHeld => ?_)
 refine wpAnyH_take (i := 0) (oi := ⟨some 18, _, _, _, _, _⟩) (v := ?_) rfl (by kernel_rfl) (by kernel_rfl) (by kernel_rfl) (fun _ _ _ h => h) (Or.inl ⟨by kernel_rfl, ?hy0⟩) (by assumption) ?_
 case hy0 => (intro w' hSw; (try dsimp only at hSw); go_simp; try with_reducible rfl)
 simp only [Act.put, List.setIfInBounds_toArray, List.set_cons_zero, List.set_cons_succ]
 refine wpAnyH_take (i := 1) (oi := ⟨some 19, _, _, _, _, _⟩) (v := ?_) rfl (by kernel_rfl) (by kernel_rfl) (by kernel_rfl) (fun _ _ _ h => h) (Or.inl ⟨by kernel_rfl, ?hy1⟩) (by assumption) ?_
 case hy1 => (intro w' hSw; (try dsimp only at hSw); go_simp; try with_reducible rfl)
 simp only [Act.put, List.setIfInBounds_toArray, List.set_cons_zero, List.set_cons_succ]
 refine wpAnyH_take (i := 2) (oi := ⟨some 20, _, _, _, _, _⟩) (v := ?_) rfl (by kernel_rfl) (by kernel_rfl) (by kernel_rfl) (fun _ _ _ h => h) (Or.inl ⟨by kernel_rfl, ?hy2⟩) (by assumption) ?_
 case hy2 => (intro w' hSw; (try dsimp only at hSw); go_simp; try with_reducible rfl)
 simp only [Act.put, List.setIfInBounds_toArray, List.set_cons_zero, List.set_cons_succ]
 refine wpAnyH_ready (rs := [3]) (by kernel_rfl) (by simp) ?_
 refine AllReadyH.cons (o := ⟨some 21, _, _, _, _, _⟩) rfl (fun K hK => ?_) AllReadyH.nil
 (rw [if_pos (by kernel_rfl)])
 go_simp
 (refine (thr_rev A c cs _ hR5 (by omega) (by omega)).mono ?_; rintro e w6 ⟨rfl, hb6⟩; have k6 := K5.out.trans (hb6.mono K5.out.size); have b6 := B5.out.below hb6)
 refine hK.out _ _ ⟨b6.c0, b6.c1⟩ (fun hHeld => ?_)
 clear hK K
 refine wpAnyH_take (i := 4) (oi := ⟨some 22, _, _, _, _, _⟩) (v := ?_) rfl (by kernel_rfl) (by kernel_rfl) (by kernel_rfl) (fun _ _ _ h => h) (Or.inl ⟨by kernel_rfl, ?hy4⟩) (by assumption) ?_
 case hy4 => (intro w' hSw; (try dsimp only at hSw); go_simp; try with_reducible rfl)
 simp only [Act.put, List.setIfInBounds_toArray, List.set_cons_zero, List.set_cons_succ]
 refine wpAnyH_take (i := 5) (oi := ⟨some 4, _, _, _, _, _⟩) (v := ?_) rfl (by kernel_rfl) (by kernel_rfl) (by kernel_rfl) (fun _ _ _ h => h) (Or.inl ⟨by kernel_rfl, ?hy5⟩) (by assumption) ?_
 case hy5 => (intro w' hSw; (try dsimp only at hSw); go_simp; try with_reducible rfl)
 simp only [Act.put, List.setIfInBounds_toArray, List.set_cons_zero, List.set_cons_succ]
 refine wpAnyH_done (by kernel_rfl) ?_ _
 have K6 := hid k6
 clear hHeld k6 b6 hb6 hR5
 go_wp2
 go_ret
 exact ⟨by rw [hwr.out]; go_num, K6.out⟩
end
section
open Go Go.RowKit
set_option maxRecDepth 100000
abbrev three (W : World) (M : Nat) (a b c : Value) : World := ((W.setCell ⟨M, 0, none⟩ a).setCell ⟨M, 1, none⟩ b).setCell ⟨M, 2, none⟩ c
theorem three_box {W : World} {M : Nat} {t : TypeId} {u v x : Value} (h : BxA W M t [u, v, x]) (a b c : Value) : BxA (three W M a b c) M t [a, b, c] := ((h.set 0 a).set 1 b).set 2 c
theorem three_only (W : World) (M : Nat) (a b c : Value) : Only (fun k => k = M) W (three W M a b c) := (((Only.refl (fun k => k = M) W).set (p := ⟨M, 0, none⟩) (.inl rfl) a).set (p := ⟨M, 1, none⟩) (.inl rfl) b).set (p := ⟨M, 2, none⟩) (.inl rfl) c
theorem boxesA (w : World) (k : Int) (t : ByteArray) : ∃ W2, (w.alloc (.cells #[.int .i64 k, .string t] 42)).alloc (.cells #[.int .i64 0, .int .i64 0, .int .i64 0] 60) = W2 ∧ Below w.heap.size w W2 ∧ W2.heap.size = w.heap.size + 2 ∧ Bx W2 w.heap.size 42 (.int .i64 k) (.string t) ∧ BxA W2 (w.heap.size + 1) 60 [.int .i64 0, .int .i64 0, .int .i64 0] := by
 refine ⟨_, rfl, ((Below.refl _ w).alloc (Nat.le_refl _) _).alloc (by rw [World.size_alloc]; omega) _, by rw [World.size_alloc, World.size_alloc], (Bx.new w _ _ _).alloc _, ?_⟩
 have := BxA.new (w.alloc (.cells #[.int .i64 k, .string t] 42)) 60 [.int .i64 0, .int .i64 0, .int .i64 0]
 rwa [World.size_alloc] at this
theorem fin3 {w W2 Wi W3 : World} {O F : Nat → Prop} {b n : Nat} {s0 s' : LN} {t : TypeId} {z0 z1 z2 : Value} (h : LineL w O F b s0) (hB : Below w.heap.size w W2) (hn : w.heap.size ≤ n) (hs : n < W2.heap.size) (hd : BxA W2 n t [z0, z1, z2]) (hb : Below W2.heap.size W2 Wi) (ht : ToLn Wi O F W3 b s') :
  BxA W3 n t [z0, z1, z2] ∧ ∀ u0 u1 u2, ToLn w O F (three W3 n u0 u1 u2) b s' := by
 obtain ⟨O', F', a1, a2, a3, a4⟩ := ht
 have hno : ¬ O n := fun hk => by have := objLn.lt h _ (.inl hk); omega
 have hnf : ¬ F n := fun hk => by have := objLn.lt h _ (.inr hk); omega
 have hz := hb.size
 refine ⟨(hd.below hb).keep a2 hno, fun u0 u1 u2 => ?_⟩
 have ho := three_only W3 n u0 u1 u2
 refine ⟨O', F', objLn.keep a1 ho (fun k hk (e : k = n) => ?_), (((Only.of_below (hB.trans (hb.mono hB.size))).trans a2 (fun i e => .inl e)).trans ho (fun i (e : i = n) => .inr (by omega))), fun k hk => (a3 k hk).imp id (fun h => Nat.le_trans (hB.trans (hb.mono hB.size)).size h), fun k hk => (a4 k hk).imp id (fun h => Nat.le_trans (hB.trans (hb.mono hB.size)).size h)⟩
 subst e
 rcases hk with hk | hk
 ·exact (a3 _ hk).elim hno (fun h => by omega)
 ·exact (a4 _ hk).elim hnf (fun h => by omega)
theorem back_prv (l : List UInt8) (a : Nat) : backL l (prvL l a : Int) = prvL l a := IsB.back (isB_back l _)
theorem back_nxt (l : List UInt8) (a : Nat) : backL l (nxtL l a : Int) = nxtL l a := IsB.back (isB_on l _)
theorem isB_cut {l : List UInt8} {k : Nat} (hk : k ≤ (cutL l).length) : IsB l (pos (cutL l) k) := ⟨k, hk, rfl⟩
theorem Rt.wl {l : List UInt8} {a : Nat} (h : Rt l a) : IsB l (wlL l a) := by
 obtain ⟨k, hk, rfl⟩ := h.2.2
 rw [wlL_pos h.1 hk]
 exact isB_cut (by omega)
theorem Rt.wr {l : List UInt8} {a : Nat} (h : Rt l a) : IsB l (wrL l a) := by
 obtain ⟨k, hk, rfl⟩ := h.2.2
 rw [wrL_pos]
 exact isB_cut (by have := thrK_le ((cutL l).drop k); rw [List.length_drop] at this; omega)
end
section
open Go Go.RowKit
open Go.Lib (hid)
set_option maxRecDepth 100000
section
variable (w : World) (O F : Nat → Prop) (b : Nat) (s : LN)
set_option maxHeartbeats 2000000 in
theorem act_left (k0 : Int) (t : ByteArray) (h : LineL w O F b s) (hsp : Spans w) :
  Calls Tryz.prog 75 #[.pointer (some ⟨b, 0, none⟩), .agg #[.int .i64 k0, .string t]] w fun e w' => e = .returned (dV .none) ∧ ToLn w O F w' b ⟨mvL s.log (prvL s.buf.1 s.buf.2), s.ring, s.last⟩ := by
 obtain ⟨W2, hW2, hB2, hs2, hk2, hd2⟩ := boxesA w k0 t
 have HB2 := hid hB2
 have HN2 := hid hs2
 have HD2 := hid hd2
 have H := hid h
 have H2 := hid (objLn.below h hB2)
 have HS := hid hsp
 have hrt := (line_ok h).rt.1
 have hl6 : s.buf.1.length ≤ 137438953472 := Nat.le_trans hrt.2.1 (by decide)
 have e1 : mS s.buf.1 = s.buf.1 := hrt.make.1
 have e2 : mA s.buf.1 s.buf.2 = s.buf.2 := hrt.make.2
 have HQ := hid (fun W hS => prev_calls s.buf.1 s.buf.2 hl6 W hS)
 rw [e1, e2] at HQ
 have HI : Hid (IsB s.buf.1 (prvL s.buf.1 s.buf.2)) := hid (isB_back _ _)
 clear h hsp hB2 hs2 hk2 hd2 hrt hl6 e1 e2
 go_enter Tryz.func75, Tryz.ntmps75
 go_wp2_with fail
 refine (buf_callsL W2 O F b s H2.out (spans_below HS.out HB2.out)).mono ?_
 rintro e w3 ⟨rfl, hb3⟩
 have x3 := Bx.new w3 43 (.string ⟨#[]⟩) (.int .i64 0)
 have f0 := x3.f0
 have f1 := x3.f1
 have g0 := x3.c0
 have g1 := x3.c1
 have x4 := Bx.new w3 43 (.string (bs s.buf.1)) (.int .i64 (s.buf.2 : Int))
 have hb4 := hb3.alloc hb3.size (.cells #[.string (bs s.buf.1), .int .i64 (s.buf.2 : Int)] 43)
 obtain ⟨W4, hW4⟩ : ∃ W4, w3.alloc (.cells #[.string (bs s.buf.1), .int .i64 (s.buf.2 : Int)] 43) = W4 := ⟨_, rfl⟩
 rw [hW4] at x4 hb4
 have y0 := x4.c0
 have y1 := x4.c1
 have HB4 := hid hb4
 clear x3 x4 hb4
 go_wp2_with fail
 refine (HQ.out W4 (spans_below HS.out (HB2.out.trans (HB4.out.mono HB2.out.size)))).mono ?_
 rintro e w5 ⟨rfl, hb5⟩
 have HB5 := hid (HB4.out.trans (hb5.mono HB4.out.size))
 clear hb5 HQ y0 y1
 go_wp2_with fail
 refine (move_callsL w5 O F b s (objLn.below H2.out HB5.out) (spans_below HS.out (HB2.out.trans (HB5.out.mono HB2.out.size))) _ HI.out).mono ?_
 rintro e w7 ⟨rfl, ht⟩
 have hf := fin3 H.out HB2.out (Nat.le_add_right _ 1) (by have := HN2.out; omega) HD2.out HB5.out ht
 have HF := hid hf.2
 have hd9 := hf.1
 have q0 := hd9.c 0 rfl
 have q1 := hd9.c 1 rfl
 have q2 := hd9.c 2 rfl
 have p0 := hd9.free 0
 have p1 := hd9.free 1
 have p2 := hd9.free 2
 have HD9 := hid hd9
 clear hf hd9
 go_wp2_with fail
 refine bodyPost_ret (results_bx3 rfl _ _ (w.heap.size + 1) _ _ _ 60 rfl (three_box HD9.out _ _ _) Tryz.underlying60 (szD _)) rfl ?_
 exact ⟨rfl, HF.out _ _ _⟩
set_option maxHeartbeats 2000000 in
theorem act_right (k0 : Int) (t : ByteArray) (h : LineL w O F b s) (hsp : Spans w) :
  Calls Tryz.prog 76 #[.pointer (some ⟨b, 0, none⟩), .agg #[.int .i64 k0, .string t]] w fun e w' => e = .returned (dV .none) ∧ ToLn w O F w' b ⟨mvL s.log (nxtL s.buf.1 s.buf.2), s.ring, s.last⟩ := by
 obtain ⟨W2, hW2, hB2, hs2, hk2, hd2⟩ := boxesA w k0 t
 have HB2 := hid hB2
 have HN2 := hid hs2
 have HD2 := hid hd2
 have H := hid h
 have H2 := hid (objLn.below h hB2)
 have HS := hid hsp
 have hrt := (line_ok h).rt.1
 have hl6 : s.buf.1.length ≤ 137438953472 := Nat.le_trans hrt.2.1 (by decide)
 have e1 : mS s.buf.1 = s.buf.1 := hrt.make.1
 have e2 : mA s.buf.1 s.buf.2 = s.buf.2 := hrt.make.2
 have HQ := hid (fun W hS => next_callsT s.buf.1 s.buf.2 hl6 W hS)
 rw [e1, e2] at HQ
 have HI : Hid (IsB s.buf.1 (nxtL s.buf.1 s.buf.2)) := hid (isB_on _ _)
 clear h hsp hB2 hs2 hk2 hd2 hrt hl6 e1 e2
 go_enter Tryz.func76, Tryz.ntmps76
 go_wp2_with fail
 refine (buf_callsL W2 O F b s H2.out (spans_below HS.out HB2.out)).mono ?_
 rintro e w3 ⟨rfl, hb3⟩
 have x3 := Bx.new w3 43 (.string ⟨#[]⟩) (.int .i64 0)
 have f0 := x3.f0
 have f1 := x3.f1
 have g0 := x3.c0
 have g1 := x3.c1
 have x4 := Bx.new w3 43 (.string (bs s.buf.1)) (.int .i64 (s.buf.2 : Int))
 have hb4 := hb3.alloc hb3.size (.cells #[.string (bs s.buf.1), .int .i64 (s.buf.2 : Int)] 43)
 obtain ⟨W4, hW4⟩ : ∃ W4, w3.alloc (.cells #[.string (bs s.buf.1), .int .i64 (s.buf.2 : Int)] 43) = W4 := ⟨_, rfl⟩
 rw [hW4] at x4 hb4
 have y0 := x4.c0
 have y1 := x4.c1
 have HB4 := hid hb4
 clear x3 x4 hb4
 go_wp2_with fail
 refine (HQ.out W4 (spans_below HS.out (HB2.out.trans (HB4.out.mono HB2.out.size)))).mono ?_
 rintro e w5 ⟨rfl, hb5⟩
 have HB5 := hid (HB4.out.trans (hb5.mono HB4.out.size))
 clear hb5 HQ y0 y1
 go_wp2_with fail
 refine (move_callsL w5 O F b s (objLn.below H2.out HB5.out) (spans_below HS.out (HB2.out.trans (HB5.out.mono HB2.out.size))) _ HI.out).mono ?_
 rintro e w7 ⟨rfl, ht⟩
 have hf := fin3 H.out HB2.out (Nat.le_add_right _ 1) (by have := HN2.out; omega) HD2.out HB5.out ht
 have HF := hid hf.2
 have hd9 := hf.1
 have q0 := hd9.c 0 rfl
 have q1 := hd9.c 1 rfl
 have q2 := hd9.c 2 rfl
 have p0 := hd9.free 0
 have p1 := hd9.free 1
 have p2 := hd9.free 2
 have HD9 := hid hd9
 clear hf hd9
 go_wp2_with fail
 refine bodyPost_ret (results_bx3 rfl _ _ (w.heap.size + 1) _ _ _ 60 rfl (three_box HD9.out _ _ _) Tryz.underlying60 (szD _)) rfl ?_
 exact ⟨rfl, HF.out _ _ _⟩
set_option maxHeartbeats 2000000 in
theorem act_wordLeft (k0 : Int) (t : ByteArray) (h : LineL w O F b s) (hsp : Spans w) :
  Calls Tryz.prog 79 #[.pointer (some ⟨b, 0, none⟩), .agg #[.int .i64 k0, .string t]] w fun e w' => e = .returned (dV .none) ∧ ToLn w O F w' b ⟨mvL s.log (wlL s.buf.1 s.buf.2), s.ring, s.last⟩ := by
 obtain ⟨W2, hW2, hB2, hs2, hk2, hd2⟩ := boxesA w k0 t
 have HB2 := hid hB2
 have HN2 := hid hs2
 have HD2 := hid hd2
 have H := hid h
 have H2 := hid (objLn.below h hB2)
 have HS := hid hsp
 have hrt := (line_ok h).rt.1
 have hl6 : s.buf.1.length ≤ 137438953472 := Nat.le_trans hrt.2.1 (by decide)
 have e1 : mS s.buf.1 = s.buf.1 := hrt.make.1
 have e2 : mA s.buf.1 s.buf.2 = s.buf.2 := hrt.make.2
 have HQ := hid (fun W hS => wordLeft_calls s.buf.1 s.buf.2 hl6 W hS)
 rw [e1, e2] at HQ
 have HI : Hid (IsB s.buf.1 (wlL s.buf.1 s.buf.2)) := hid (hrt.wl)
 clear h hsp hB2 hs2 hk2 hd2 hrt hl6 e1 e2
 go_enter Tryz.func79, Tryz.ntmps79
 go_wp2_with fail
 refine (buf_callsL W2 O F b s H2.out (spans_below HS.out HB2.out)).mono ?_
 rintro e w3 ⟨rfl, hb3⟩
 have x3 := Bx.new w3 43 (.string ⟨#[]⟩) (.int .i64 0)
 have f0 := x3.f0
 have f1 := x3.f1
 have g0 := x3.c0
 have g1 := x3.c1
 have x4 := Bx.new w3 43 (.string (bs s.buf.1)) (.int .i64 (s.buf.2 : Int))
 have hb4 := hb3.alloc hb3.size (.cells #[.string (bs s.buf.1), .int .i64 (s.buf.2 : Int)] 43)
 obtain ⟨W4, hW4⟩ : ∃ W4, w3.alloc (.cells #[.string (bs s.buf.1), .int .i64 (s.buf.2 : Int)] 43) = W4 := ⟨_, rfl⟩
 rw [hW4] at x4 hb4
 have y0 := x4.c0
 have y1 := x4.c1
 have HB4 := hid hb4
 clear x3 x4 hb4
 go_wp2_with fail
 refine (HQ.out W4 (spans_below HS.out (HB2.out.trans (HB4.out.mono HB2.out.size)))).mono ?_
 rintro e w5 ⟨rfl, hb5⟩
 have HB5 := hid (HB4.out.trans (hb5.mono HB4.out.size))
 clear hb5 HQ y0 y1
 go_wp2_with fail
 refine (move_callsL w5 O F b s (objLn.below H2.out HB5.out) (spans_below HS.out (HB2.out.trans (HB5.out.mono HB2.out.size))) _ HI.out).mono ?_
 rintro e w7 ⟨rfl, ht⟩
 have hf := fin3 H.out HB2.out (Nat.le_add_right _ 1) (by have := HN2.out; omega) HD2.out HB5.out ht
 have HF := hid hf.2
 have hd9 := hf.1
 have q0 := hd9.c 0 rfl
 have q1 := hd9.c 1 rfl
 have q2 := hd9.c 2 rfl
 have p0 := hd9.free 0
 have p1 := hd9.free 1
 have p2 := hd9.free 2
 have HD9 := hid hd9
 clear hf hd9
 go_wp2_with fail
 refine bodyPost_ret (results_bx3 rfl _ _ (w.heap.size + 1) _ _ _ 60 rfl (three_box HD9.out _ _ _) Tryz.underlying60 (szD _)) rfl ?_
 exact ⟨rfl, HF.out _ _ _⟩
set_option maxHeartbeats 2000000 in
theorem act_wordRight (k0 : Int) (t : ByteArray) (h : LineL w O F b s) (hsp : Spans w) :
  Calls Tryz.prog 80 #[.pointer (some ⟨b, 0, none⟩), .agg #[.int .i64 k0, .string t]] w fun e w' => e = .returned (dV .none) ∧ ToLn w O F w' b ⟨mvL s.log (wrL s.buf.1 s.buf.2), s.ring, s.last⟩ := by
 obtain ⟨W2, hW2, hB2, hs2, hk2, hd2⟩ := boxesA w k0 t
 have HB2 := hid hB2
 have HN2 := hid hs2
 have HD2 := hid hd2
 have H := hid h
 have H2 := hid (objLn.below h hB2)
 have HS := hid hsp
 have hrt := (line_ok h).rt.1
 have hl6 : s.buf.1.length ≤ 137438953472 := Nat.le_trans hrt.2.1 (by decide)
 have e1 : mS s.buf.1 = s.buf.1 := hrt.make.1
 have e2 : mA s.buf.1 s.buf.2 = s.buf.2 := hrt.make.2
 have HQ := hid (fun W hS => wordRight_calls s.buf.1 s.buf.2 hl6 W hS)
 rw [e1, e2] at HQ
 have HI : Hid (IsB s.buf.1 (wrL s.buf.1 s.buf.2)) := hid (hrt.wr)
 clear h hsp hB2 hs2 hk2 hd2 hrt hl6 e1 e2
 go_enter Tryz.func80, Tryz.ntmps80
 go_wp2_with fail
 refine (buf_callsL W2 O F b s H2.out (spans_below HS.out HB2.out)).mono ?_
 rintro e w3 ⟨rfl, hb3⟩
 have x3 := Bx.new w3 43 (.string ⟨#[]⟩) (.int .i64 0)
 have f0 := x3.f0
 have f1 := x3.f1
 have g0 := x3.c0
 have g1 := x3.c1
 have x4 := Bx.new w3 43 (.string (bs s.buf.1)) (.int .i64 (s.buf.2 : Int))
 have hb4 := hb3.alloc hb3.size (.cells #[.string (bs s.buf.1), .int .i64 (s.buf.2 : Int)] 43)
 obtain ⟨W4, hW4⟩ : ∃ W4, w3.alloc (.cells #[.string (bs s.buf.1), .int .i64 (s.buf.2 : Int)] 43) = W4 := ⟨_, rfl⟩
 rw [hW4] at x4 hb4
 have y0 := x4.c0
 have y1 := x4.c1
 have HB4 := hid hb4
 clear x3 x4 hb4
 go_wp2_with fail
 refine (HQ.out W4 (spans_below HS.out (HB2.out.trans (HB4.out.mono HB2.out.size)))).mono ?_
 rintro e w5 ⟨rfl, hb5⟩
 have HB5 := hid (HB4.out.trans (hb5.mono HB4.out.size))
 clear hb5 HQ y0 y1
 go_wp2_with fail
 refine (move_callsL w5 O F b s (objLn.below H2.out HB5.out) (spans_below HS.out (HB2.out.trans (HB5.out.mono HB2.out.size))) _ HI.out).mono ?_
 rintro e w7 ⟨rfl, ht⟩
 have hf := fin3 H.out HB2.out (Nat.le_add_right _ 1) (by have := HN2.out; omega) HD2.out HB5.out ht
 have HF := hid hf.2
 have hd9 := hf.1
 have q0 := hd9.c 0 rfl
 have q1 := hd9.c 1 rfl
 have q2 := hd9.c 2 rfl
 have p0 := hd9.free 0
 have p1 := hd9.free 1
 have p2 := hd9.free 2
 have HD9 := hid hd9
 clear hf hd9
 go_wp2_with fail
 refine bodyPost_ret (results_bx3 rfl _ _ (w.heap.size + 1) _ _ _ 60 rfl (three_box HD9.out _ _ _) Tryz.underlying60 (szD _)) rfl ?_
 exact ⟨rfl, HF.out _ _ _⟩
set_option maxHeartbeats 2000000 in
theorem act_home (k0 : Int) (t : ByteArray) (h : LineL w O F b s) (hsp : Spans w) :
  Calls Tryz.prog 77 #[.pointer (some ⟨b, 0, none⟩), .agg #[.int .i64 k0, .string t]] w fun e w' => e = .returned (dV .none) ∧ ToLn w O F w' b ⟨mvL s.log 0, s.ring, s.last⟩ := by
 obtain ⟨W2, hW2, hB2, hs2, hk2, hd2⟩ := boxesA w k0 t
 have HB2 := hid hB2
 have HN2 := hid hs2
 have HD2 := hid hd2
 have H := hid h
 have H2 := hid (objLn.below h hB2)
 have HS := hid hsp
 have hrt := (line_ok h).rt.1
 have hl6 : s.buf.1.length ≤ 137438953472 := Nat.le_trans hrt.2.1 (by decide)
 have e1 : mS s.buf.1 = s.buf.1 := hrt.make.1
 have e2 : mA s.buf.1 s.buf.2 = s.buf.2 := hrt.make.2
 clear h hsp hB2 hs2 hk2 hd2 hrt hl6 e1 e2
 go_enter Tryz.func77, Tryz.ntmps77
 go_wp2_with fail
 refine (move_callsL W2 O F b s (objLn.below H2.out (Below.refl _ W2)) (spans_below HS.out (HB2.out.trans ((Below.refl _ W2).mono HB2.out.size))) 0 (isB_zero _)).mono ?_
 rintro e w7 ⟨rfl, ht⟩
 have hf := fin3 H.out HB2.out (Nat.le_add_right _ 1) (by have := HN2.out; omega) HD2.out (Below.refl _ W2) ht
 have HF := hid hf.2
 have hd9 := hf.1
 have q0 := hd9.c 0 rfl
 have q1 := hd9.c 1 rfl
 have q2 := hd9.c 2 rfl
 have p0 := hd9.free 0
 have p1 := hd9.free 1
 have p2 := hd9.free 2
 have HD9 := hid hd9
 clear hf hd9
 go_wp2_with fail
 refine bodyPost_ret (results_bx3 rfl _ _ (w.heap.size + 1) _ _ _ 60 rfl (three_box HD9.out _ _ _) Tryz.underlying60 (szD _)) rfl ?_
 exact ⟨rfl, HF.out _ _ _⟩
set_option maxHeartbeats 2000000 in
theorem act_end (k0 : Int) (t : ByteArray) (h : LineL w O F b s) (hsp : Spans w) :
  Calls Tryz.prog 78 #[.pointer (some ⟨b, 0, none⟩), .agg #[.int .i64 k0, .string t]] w fun e w' => e = .returned (dV .none) ∧ ToLn w O F w' b ⟨mvL s.log s.buf.1.length, s.ring, s.last⟩ := by
 obtain ⟨W2, hW2, hB2, hs2, hk2, hd2⟩ := boxesA w k0 t
 have HB2 := hid hB2
 have HN2 := hid hs2
 have HD2 := hid hd2
 have H := hid h
 have H2 := hid (objLn.below h hB2)
 have HS := hid hsp
 have hrt := (line_ok h).rt.1
 have hl6 : s.buf.1.length ≤ 137438953472 := Nat.le_trans hrt.2.1 (by decide)
 have e1 : mS s.buf.1 = s.buf.1 := hrt.make.1
 have e2 : mA s.buf.1 s.buf.2 = s.buf.2 := hrt.make.2
 have hsz := bs_size s.buf.1
 clear h hsp hB2 hs2 hk2 hd2 hrt hl6 e1 e2
 go_enter Tryz.func78, Tryz.ntmps78
 go_wp2_with fail
 refine (buf_callsL W2 O F b s H2.out (spans_below HS.out HB2.out)).mono ?_
 rintro e w3 ⟨rfl, hb3⟩
 have HB3 := hid hb3
 clear hb3
 have fb := field_buf0L (.string (bs s.buf.1)) (.int .i64 (s.buf.2 : Int))
 go_wp2_with fail
 refine (move_callsL w3 O F b s (objLn.below H2.out HB3.out) (spans_below HS.out (HB2.out.trans (HB3.out.mono HB2.out.size))) _ (isB_all _)).mono ?_
 rintro e w7 ⟨rfl, ht⟩
 have hf := fin3 H.out HB2.out (Nat.le_add_right _ 1) (by have := HN2.out; omega) HD2.out HB3.out ht
 have HF := hid hf.2
 have hd9 := hf.1
 have q0 := hd9.c 0 rfl
 have q1 := hd9.c 1 rfl
 have q2 := hd9.c 2 rfl
 have p0 := hd9.free 0
 have p1 := hd9.free 1
 have p2 := hd9.free 2
 have HD9 := hid hd9
 clear hf hd9
 go_wp2_with fail
 refine bodyPost_ret (results_bx3 rfl _ _ (w.heap.size + 1) _ _ _ 60 rfl (three_box HD9.out _ _ _) Tryz.underlying60 (szD _)) rfl ?_
 exact ⟨rfl, HF.out _ _ _⟩
end
end
section
open Go Go.RowKit
open Go.Lib (hid)
theorem cutAt_le (a f t : Nat) (ha : a ≤ 600) (hf : f ≤ 600) : cutAt a f t ≤ 600 := by unfold cutAt; split <;> omega
set_option maxHeartbeats 4000000 in
theorem cutT_no (l : List UInt8) (n x y : Int) (hl : l.length ≤ 137438953472) (w : World) (hsp : Spans w) (hft : backL (mS l) y ≤ backL (mS l) x) :
  Calls Tryz.prog 108 #[.agg #[.string (bs l), .int .i64 n], .int .i64 x, .int .i64 y] w fun e w' => e = .returned (.tuple #[.agg #[.string (bs (mS l)), .int .i64 (mA l n : Int)], .string ⟨#[]⟩]) ∧ Below w.heap.size w w' := by
 have HM := hid (fun W h => make_calls l n hl W h)
 have ha := mA_le l n
 have hms := mS_len l
 have HB1 := hid (fun W h => back_calls (mS l) x (by omega) W h)
 have HB2 := hid (fun W h => back_calls (mS l) y (by omega) W h)
 have hf := backL_le (mS l) x
 have ht := backL_le (mS l) y
 generalize backL (mS l) x = f at *
 generalize backL (mS l) y = t at *
 generalize mA l n = a at *
 generalize mS l = m at *
 have k0 : Below w.heap.size w ((w.alloc (.cells #[.string (bs l), .int .i64 n] 43)).alloc (.cells #[.string ⟨#[]⟩, .int .i64 0] 43)) := ((Below.refl _ w).alloc (Nat.le_refl _) _).alloc (by simp) _
 have b0 := (Bx.new w 43 (.string (bs l)) (.int .i64 n)).alloc (.cells #[.string ⟨#[]⟩, .int .i64 0] 43)
 have r0 := Bx.new (w.alloc (.cells #[.string (bs l), .int .i64 n] 43)) 43 (.string ⟨#[]⟩) (.int .i64 0)
 rw [World.size_alloc] at r0
 have c00 := b0.c0
 have c01 := b0.c1
 have Hsp := hid hsp
 have hd : decide ((t : Int) ≤ (f : Int)) = true := decide_eq_true (by omega)
 clear hsp
 go_enter Tryz.func108, Tryz.ntmps108
 go_wp2_with fail
 refine (HM.out _ (spans_below Hsp.out k0)).mono ?_
 rintro e w1 ⟨rfl, hb1⟩
 have k1 := k0.trans (hb1.mono k0.size)
 have b1 := b0.below hb1
 have r1 := r0.below hb1
 clear hb1 c00 c01 b0 r0 k0
 have c10 := b1.c0
 have c11 := b1.c1
 have f10 := b1.f0
 have f11 := b1.f1
 have b3 := (b1.set0 (.string (bs m))).set1 (.int .i64 (a : Int))
 have r3 := (r1.other (i := 0) (Nat.succ_ne_self _) (.string (bs m))).other (i := 1) (Nat.succ_ne_self _) (.int .i64 (a : Int))
 have k3 := (k1.setCell (p := ⟨w.heap.size, 0, none⟩) (Nat.le_refl _) (.string (bs m))).setCell (p := ⟨w.heap.size, 1, none⟩) (Nat.le_refl _) (.int .i64 (a : Int))
 have c30 := b3.c0
 have c31 := b3.c1
 go_wp2_with fail
 generalize (w1.setCell ⟨w.heap.size, 0, none⟩ (.string (bs m))).setCell ⟨w.heap.size, 1, none⟩ (.int .i64 (a : Int)) = W3 at *
 have K3 := hid k3.drew
 have B3 := hid b3.drew
 have R3 := hid r3.drew
 clear b3 r3 k3 b1 r1 k1 c10 c11 f10 f11
 refine wp_region_held_drew (S := (fun w' => w'.cell? ⟨w.heap.size, 0, none⟩ = some (.string (bs m)) ∧ w'.cell? ⟨w.heap.size, 1, none⟩ = some (.int .i64 (a : Int)))) (by kernel_rfl) ⟨c30, c31⟩ (fun hHeld => ?_)
 refine tkH 0 ?_
 refine tkH 1 ?_
 refine tkH 2 ?_
 refine tkH 4 ?_
 refine tkH 5 ?_
 refine tkH 6 ?_
 refine rdH 3 fun K hK => ?_
 go_simp
 (refine (HB1.out _ (spans_below Hsp.out K3.out)).mono ?_; rintro e w4 ⟨rfl, hb4⟩; have k4 := K3.out.trans (hb4.mono K3.out.size); have b4 := B3.out.below hb4; have r4 := R3.out.below hb4; have c40 := b4.c0; have c41 := b4.c1)
 refine hK.out _ _ ⟨c40, c41⟩ (fun hHeld => ?_)
 clear hK K
 refine rdH 7 fun K hK => ?_
 go_simp
 (refine (HB2.out _ (spans_below Hsp.out k4)).mono ?_; rintro e w5 ⟨rfl, hb5⟩; have k5 := k4.trans (hb5.mono k4.size); have b5 := b4.below hb5; have r5 := r4.below hb5; have c50 := b5.c0; have c51 := b5.c1)
 refine hK.out _ _ ⟨c50, c51⟩ (fun hHeld => ?_)
 clear hK K
 refine tkH 8 ?_
 refine tkH 9 ?_
 refine wpAnyH_done (by kernel_rfl) ?_ _
 have K5 := hid k5
 have R5 := hid r5
 have r50 := r5.c0
 have r51 := r5.c1
 have q50 := r5.f0
 have q51 := r5.f1
 clear hHeld k4 b4 r4 c40 c41 hb4 hb5 k5 b5 r5 c30 c31
 go_wp2
 refine bodyPost_ret (results_bx2 rfl _ _ (w.heap.size + 1) (.string (bs m)) (.int .i64 (a : Int)) 43 rfl ((R5.out.set0 _).set1 _) Tryz.underlying43 (sizeBuf _)) rfl ?_
 exact ⟨rfl, (K5.out.setCell (p := ⟨w.heap.size + 1, 0, none⟩) (Nat.le_succ _) _).setCell (p := ⟨w.heap.size + 1, 1, none⟩) (Nat.le_succ _) _⟩
set_option maxHeartbeats 4000000 in
theorem cutT_ok (l : List UInt8) (n x y : Int) (hl : l.length ≤ 137438953472) (w : World) (hsp : Spans w) (hft : backL (mS l) x < backL (mS l) y) :
  Calls Tryz.prog 108 #[.agg #[.string (bs l), .int .i64 n], .int .i64 x, .int .i64 y] w fun e w' => e = .returned (.tuple #[.agg #[.string (bs (cutS (mS l) (backL (mS l) x) (backL (mS l) y))), .int .i64 (cutA (mS l) (mA l n) (backL (mS l) x) (backL (mS l) y) : Int)], .string (bs (goneS (mS l) (backL (mS l) x) (backL (mS l) y)))]) ∧ Below w.heap.size w w' := by
 have HM := hid (fun W h => make_calls l n hl W h)
 have ha := mA_le l n
 have hms := mS_len l
 have HB1 := hid (fun W h => back_calls (mS l) x (by omega) W h)
 have HB2 := hid (fun W h => back_calls (mS l) y (by omega) W h)
 have hf := backL_le (mS l) x
 have ht := backL_le (mS l) y
 generalize backL (mS l) x = f at *
 generalize backL (mS l) y = t at *
 generalize mA l n = a at *
 generalize mS l = m at *
 have hcl := cutS_length m f t (by omega) ht
 have hca := cutAt_le a f t (by omega) (by omega)
 have HB3 := hid (fun W h => back_calls (cutS m f t) ((cutAt a f t : Nat) : Int) (by omega) W h)
 have HcA : Hid (backL (cutS m f t) ((cutAt a f t : Nat) : Int) = cutA m a f t) := hid rfl
 rw [HcA.out] at HB3
 have hx1 := bs_take m f
 have hx2 := bs_drop m t
 have hx3 : (bs m).extract f t = bs (goneS m f t) := bs_mid m f t
 have hp1 : ∀ W : World, (Op.stringOp .add (bs (m.take f)) (bs (m.drop t))).run Tryz.prog W = .ok (.string (bs (cutS m f t))) W :=
  add_bs Tryz.prog (m.take f) (m.drop t) (by have := take_len_le m f; have := drop_len_le m t; omega)
 have HAt : Hid (cutAt a f t = if f < a then max f (a - (t - f)) else a) := hid rfl
 clear HcA
 generalize cutA m a f t = ca at *
 generalize cutS m f t = cS at *
 generalize goneS m f t = gS at *
 generalize m.take f = t1 at *
 generalize m.drop t = t2 at *
 generalize cutAt a f t = at' at *
 have hszm := bs_size m
 have hszc := bs_size cS
 have hi0 : (0 : Int) ≤ (f : Int) := by omega
 have hi1 : (f : Int) ≤ (m.length : Int) := by omega
 have hi2 : (0 : Int) ≤ (t : Int) := by omega
 have hi3 : (t : Int) ≤ (m.length : Int) := by omega
 have hi4 : (f : Int) ≤ (t : Int) := by omega
 have k0 : Below w.heap.size w ((w.alloc (.cells #[.string (bs l), .int .i64 n] 43)).alloc (.cells #[.string ⟨#[]⟩, .int .i64 0] 43)) := ((Below.refl _ w).alloc (Nat.le_refl _) _).alloc (by simp) _
 have b0 := (Bx.new w 43 (.string (bs l)) (.int .i64 n)).alloc (.cells #[.string ⟨#[]⟩, .int .i64 0] 43)
 have r0 := Bx.new (w.alloc (.cells #[.string (bs l), .int .i64 n] 43)) 43 (.string ⟨#[]⟩) (.int .i64 0)
 rw [World.size_alloc] at r0
 have c00 := b0.c0
 have c01 := b0.c1
 have Hsp := hid hsp
 have hd : decide ((t : Int) ≤ (f : Int)) = false := decide_eq_false (by omega)
 clear hsp
 go_enter Tryz.func108, Tryz.ntmps108
 go_wp2_with fail
 refine (HM.out _ (spans_below Hsp.out k0)).mono ?_
 rintro e w1 ⟨rfl, hb1⟩
 have k1 := k0.trans (hb1.mono k0.size)
 have b1 := b0.below hb1
 have r1 := r0.below hb1
 clear hb1 c00 c01 b0 r0 k0
 have c10 := b1.c0
 have c11 := b1.c1
 have f10 := b1.f0
 have f11 := b1.f1
 have b3 := (b1.set0 (.string (bs m))).set1 (.int .i64 (a : Int))
 have r3 := (r1.other (i := 0) (Nat.succ_ne_self _) (.string (bs m))).other (i := 1) (Nat.succ_ne_self _) (.int .i64 (a : Int))
 have k3 := (k1.setCell (p := ⟨w.heap.size, 0, none⟩) (Nat.le_refl _) (.string (bs m))).setCell (p := ⟨w.heap.size, 1, none⟩) (Nat.le_refl _) (.int .i64 (a : Int))
 have c30 := b3.c0
 have c31 := b3.c1
 go_wp2_with fail
 generalize (w1.setCell ⟨w.heap.size, 0, none⟩ (.string (bs m))).setCell ⟨w.heap.size, 1, none⟩ (.int .i64 (a : Int)) = W3 at *
 have K3 := hid k3.drew
 have B3 := hid b3.drew
 have R3 := hid r3.drew
 clear b3 r3 k3 b1 r1 k1 c10 c11 f10 f11
 refine wp_region_held_drew (S := (fun w' => w'.cell? ⟨w.heap.size, 0, none⟩ = some (.string (bs m)) ∧ w'.cell? ⟨w.heap.size, 1, none⟩ = some (.int .i64 (a : Int)))) (by kernel_rfl) ⟨c30, c31⟩ (fun hHeld => ?_)
 refine tkH 0 ?_
 refine tkH 1 ?_
 refine tkH 2 ?_
 refine tkH 4 ?_
 refine tkH 5 ?_
 refine tkH 6 ?_
 refine rdH 3 fun K hK => ?_
 go_simp
 (refine (HB1.out _ (spans_below Hsp.out K3.out)).mono ?_; rintro e w4 ⟨rfl, hb4⟩; have k4 := K3.out.trans (hb4.mono K3.out.size); have b4 := B3.out.below hb4; have r4 := R3.out.below hb4; have c40 := b4.c0; have c41 := b4.c1)
 refine hK.out _ _ ⟨c40, c41⟩ (fun hHeld => ?_)
 clear hK K
 refine rdH 7 fun K hK => ?_
 go_simp
 (refine (HB2.out _ (spans_below Hsp.out k4)).mono ?_; rintro e w5 ⟨rfl, hb5⟩; have k5 := k4.trans (hb5.mono k4.size); have b5 := b4.below hb5; have r5 := r4.below hb5; have c50 := b5.c0; have c51 := b5.c1)
 refine hK.out _ _ ⟨c50, c51⟩ (fun hHeld => ?_)
 clear hK K
 refine tkH 8 ?_
 refine tkH 9 ?_
 refine wpAnyH_done (by kernel_rfl) ?_ _
 have K5 := hid k5
 have R5 := hid r5
 have B5 := hid b5
 clear hHeld k4 b4 r4 c40 c41 hb4 hb5 k5 b5 r5 c30 c31
 go_wp2_with fail
 go_quiet (fail)
 have K6a := hid (bel_drewN K5.out nq)
 have B6a := hid (B5.out.drewN nq)
 have R6a := hid (R5.out.drewN nq)
 clear K5 B5 R5
 by_cases hfa : f < a
 ·have hdf : decide ((f : Int) < (a : Int)) = true := decide_eq_true (by omega)
  have hw1 : IntKind.i64.wrap ((t : Int) - (f : Int)) = (t : Int) - (f : Int) := IntWalk.i64_in _ (by omega)
  have hw2 : IntKind.i64.wrap ((a : Int) - ((t : Int) - (f : Int))) = (a : Int) - ((t : Int) - (f : Int)) := IntWalk.i64_in _ (by omega)
  have hmx : max (f : Int) ((a : Int) - ((t : Int) - (f : Int))) = (at' : Int) := by rw [HAt.out, if_pos hfa]; omega
  go_wp2_with fail
  generalize w5.drewN nq = W6 at *
  have K6 := hid (K6a.out.drew)
  have B6 := hid (B6a.out.drew)
  have R6 := hid (R6a.out.drew)
  refine wp_region_held_drew (S := (fun w' => w'.cell? ⟨w.heap.size, 0, none⟩ = some (.string (bs m)) ∧ w'.cell? ⟨w.heap.size, 1, none⟩ = some (.int .i64 (a : Int)))) (by kernel_rfl) ⟨B6.out.c0, B6.out.c1⟩ (fun hHeld => ?_)
  refine tkH 0 ?_
  refine tkH 1 ?_
  refine tkH 2 ?_
  refine tkH 5 ?_
  refine tkH 6 ?_
  refine tkH 7 ?_
  refine tkH 8 ?_
  refine tkH 9 ?_
  refine rdH 3 fun K hK => ?_
  go_simp
  (refine (HB3.out _ (spans_below Hsp.out K6.out)).mono ?_; rintro e w7 ⟨rfl, hb7⟩; have k7 := K6.out.trans (hb7.mono K6.out.size); have b7 := B6.out.below hb7; have r7 := R6.out.below hb7; have r70 := r7.c0; have r71 := r7.c1; have q70 := r7.f0; have q71 := r7.f1)
  refine hK.out _ _ ⟨b7.c0, b7.c1⟩ (fun hHeld => ?_)
  clear hK K
  refine tkH 4 ?_
  refine rdH 10 fun K hK => ?_
  go_simp
  refine hK.out _ _ ⟨((b7.other (i := 0) (Nat.ne_of_lt (Nat.lt_succ_self _)) _).other (i := 1) (Nat.ne_of_lt (Nat.lt_succ_self _)) _).c0, ((b7.other (i := 0) (Nat.ne_of_lt (Nat.lt_succ_self _)) _).other (i := 1) (Nat.ne_of_lt (Nat.lt_succ_self _)) _).c1⟩ (fun hHeld => ?_)
  clear hK K
  refine tkH 11 ?_
  refine wpAnyH_done (by kernel_rfl) ?_ _
  have K7 := hid k7
  have R7 := hid r7
  go_wp2
  refine bodyPost_ret (results_bx2 rfl _ _ (w.heap.size + 1) (.string (bs cS)) (.int .i64 (ca : Int)) 43 rfl ((R7.out.set0 _).set1 _) Tryz.underlying43 (sizeBuf _)) rfl ?_
  exact ⟨rfl, (K7.out.setCell (p := ⟨w.heap.size + 1, 0, none⟩) (Nat.le_succ _) _).setCell (p := ⟨w.heap.size + 1, 1, none⟩) (Nat.le_succ _) _⟩
 ·have hdf : decide ((f : Int) < (a : Int)) = false := decide_eq_false (by omega)
  obtain rfl : a = at' := by rw [HAt.out, if_neg hfa]
  go_wp2_with fail
  generalize w5.drewN nq = W6 at *
  have K6 := hid (K6a.out.drew)
  have B6 := hid (B6a.out.drew)
  have R6 := hid (R6a.out.drew)
  refine wp_region_held_drew (S := (fun w' => w'.cell? ⟨w.heap.size, 0, none⟩ = some (.string (bs m)) ∧ w'.cell? ⟨w.heap.size, 1, none⟩ = some (.int .i64 (a : Int)))) (by kernel_rfl) ⟨B6.out.c0, B6.out.c1⟩ (fun hHeld => ?_)
  refine tkH 0 ?_
  refine tkH 1 ?_
  refine tkH 2 ?_
  refine tkH 5 ?_
  refine tkH 6 ?_
  refine tkH 7 ?_
  refine tkH 8 ?_
  refine tkH 9 ?_
  refine rdH 3 fun K hK => ?_
  go_simp
  (refine (HB3.out _ (spans_below Hsp.out K6.out)).mono ?_; rintro e w7 ⟨rfl, hb7⟩; have k7 := K6.out.trans (hb7.mono K6.out.size); have b7 := B6.out.below hb7; have r7 := R6.out.below hb7; have r70 := r7.c0; have r71 := r7.c1; have q70 := r7.f0; have q71 := r7.f1)
  refine hK.out _ _ ⟨b7.c0, b7.c1⟩ (fun hHeld => ?_)
  clear hK K
  refine tkH 4 ?_
  refine rdH 10 fun K hK => ?_
  go_simp
  refine hK.out _ _ ⟨((b7.other (i := 0) (Nat.ne_of_lt (Nat.lt_succ_self _)) _).other (i := 1) (Nat.ne_of_lt (Nat.lt_succ_self _)) _).c0, ((b7.other (i := 0) (Nat.ne_of_lt (Nat.lt_succ_self _)) _).other (i := 1) (Nat.ne_of_lt (Nat.lt_succ_self _)) _).c1⟩ (fun hHeld => ?_)
  clear hK K
  refine tkH 11 ?_
  refine wpAnyH_done (by kernel_rfl) ?_ _
  have K7 := hid k7
  have R7 := hid r7
  go_wp2
  refine bodyPost_ret (results_bx2 rfl _ _ (w.heap.size + 1) (.string (bs cS)) (.int .i64 (ca : Int)) 43 rfl ((R7.out.set0 _).set1 _) Tryz.underlying43 (sizeBuf _)) rfl ?_
  exact ⟨rfl, (K7.out.setCell (p := ⟨w.heap.size + 1, 0, none⟩) (Nat.le_succ _) _).setCell (p := ⟨w.heap.size + 1, 1, none⟩) (Nat.le_succ _) _⟩
theorem cutT_calls (l : List UInt8) (n x y : Int) (hl : l.length ≤ 137438953472) (w : World) (hsp : Spans w) :
  Calls Tryz.prog 108 #[.agg #[.string (bs l), .int .i64 n], .int .i64 x, .int .i64 y] w fun e w' => e = .returned (.tuple #[.agg #[.string (bs (cutR (mS l) (mA l n) (backL (mS l) x) (backL (mS l) y)).1), .int .i64 ((cutR (mS l) (mA l n) (backL (mS l) x) (backL (mS l) y)).2.1 : Int)], .string (bs (cutR (mS l) (mA l n) (backL (mS l) x) (backL (mS l) y)).2.2)]) ∧ Below w.heap.size w w' := by
 unfold cutR
 by_cases h : backL (mS l) x < backL (mS l) y
 ·rw [if_pos h]
  dsimp only
  exact cutT_ok l n x y hl w hsp h
 ·rw [if_neg h]
  dsimp only
  rw [show bs [] = (⟨#[]⟩ : ByteArray) from rfl]
  exact cutT_no l n x y hl w hsp (by omega)
end
section
open Go Go.RowKit
open Go.Lib (hid)
set_option maxRecDepth 100000
section
variable (w : World) (O F : Nat → Prop) (b : Nat) (s : LN)
set_option maxHeartbeats 2000000 in
theorem act_backspace (k0 : Int) (t : ByteArray) (h : LineL w O F b s) (hsp : Spans w) :
  Calls Tryz.prog 72 #[.pointer (some ⟨b, 0, none⟩), .agg #[.int .i64 k0, .string t]] w fun e w' => e = .returned (dV .none) ∧ ToLn w O F w' b ⟨wrG s.log ((cutR s.buf.1 s.buf.2 (prvL s.buf.1 s.buf.2) (s.buf.2)).1, (cutR s.buf.1 s.buf.2 (prvL s.buf.1 s.buf.2) (s.buf.2)).2.1) 0, s.ring, s.last⟩ := by
 obtain ⟨W2, hW2, hB2, hs2, hk2, hd2⟩ := boxesA w k0 t
 have HB2 := hid hB2
 have HN2 := hid hs2
 have HD2 := hid hd2
 have H := hid h
 have H2 := hid (objLn.below h hB2)
 have HS := hid hsp
 have hrt := (line_ok h).rt.1
 have hl6 : s.buf.1.length ≤ 137438953472 := Nat.le_trans hrt.2.1 (by decide)
 have e1 : mS s.buf.1 = s.buf.1 := hrt.make.1
 have e2 : mA s.buf.1 s.buf.2 = s.buf.2 := hrt.make.2
 have HQ := hid (fun W hS => prev_calls s.buf.1 s.buf.2 hl6 W hS)
 rw [e1, e2] at HQ
 have HC := hid (fun W hS => cutT_calls s.buf.1 s.buf.2 (prvL s.buf.1 s.buf.2 : Int) (s.buf.2 : Int) hl6 W hS)
 have e3 : backL s.buf.1 (s.buf.2 : Int) = s.buf.2 := IsB.back hrt.2.2
 rw [e1, e2, e3, back_prv] at HC
 clear e3
 have HR : Hid (Rt (cutR s.buf.1 s.buf.2 (prvL s.buf.1 s.buf.2) (s.buf.2)).1 (cutR s.buf.1 s.buf.2 (prvL s.buf.1 s.buf.2) (s.buf.2)).2.1) := hid (LN.cutR_rt (line_ok h).rt.1 ((isB_back s.buf.1 _ : IsB s.buf.1 (prvL s.buf.1 s.buf.2))) (hrt.2.2))
 clear h hsp hB2 hs2 hk2 hd2 hrt hl6 e1 e2
 go_enter Tryz.func72, Tryz.ntmps72
 go_wp2_with fail
 refine (buf_callsL W2 O F b s H2.out (spans_below HS.out HB2.out)).mono ?_
 rintro e w3 ⟨rfl, hb3⟩
 have x3 := Bx.new w3 43 (.string ⟨#[]⟩) (.int .i64 0)
 have f0 := x3.f0
 have f1 := x3.f1
 have g0 := x3.c0
 have g1 := x3.c1
 have x4 := Bx.new w3 43 (.string (bs s.buf.1)) (.int .i64 (s.buf.2 : Int))
 have hb4 := hb3.alloc hb3.size (.cells #[.string (bs s.buf.1), .int .i64 (s.buf.2 : Int)] 43)
 obtain ⟨W4, hW4⟩ : ∃ W4, w3.alloc (.cells #[.string (bs s.buf.1), .int .i64 (s.buf.2 : Int)] 43) = W4 := ⟨_, rfl⟩
 rw [hW4] at x4 hb4
 have y0 := x4.c0
 have y1 := x4.c1
 have HB4 := hid hb4
 have hk2 := hb3.size
 have HS4 : Hid (∀ W, Below W4.heap.size W4 W → W.cell? ⟨w3.heap.size, 0, none⟩ = some (.string (bs s.buf.1)) ∧ W.cell? ⟨w3.heap.size, 1, none⟩ = some (.int .i64 (s.buf.2 : Int))) := hid (fun W hW => ⟨(x4.below hW).c0, (x4.below hW).c1⟩)
 have HX4 := hid x4
 clear x3 x4 hb4
 generalize hc : cutR s.buf.1 s.buf.2 (prvL s.buf.1 s.buf.2) (s.buf.2) = c at HC HR
 have Hc := hid hc
 clear hc
 generalize hv : prvL s.buf.1 s.buf.2 = v at HQ HC
 clear hv
 go_upto_region 2 with fail
 refine wp_region_later (S := (fun w' => w'.cell? ⟨w3.heap.size, 0, none⟩ = some (.string (bs s.buf.1)) ∧ w'.cell? ⟨w3.heap.size, 1, none⟩ = some (.int .i64 (s.buf.2 : Int)))) 12 (by kernel_rfl) ⟨y0, y1⟩ (fun hHeld => ?_)
 refine laterAny_take (i := 0) (oi := ⟨some 9, _, _, _, _, _⟩) (v := ?_) rfl (by kernel_rfl) (by kernel_rfl) (by decide) (by kernel_rfl) (by kernel_rfl) (by kernel_rfl) (fun _ _ _ h => h) (Or.inl ⟨by kernel_rfl, ?hy0⟩) (by assumption) ?_
 case hy0 => (intro w' hSw; (try dsimp only at hSw); go_simp; try with_reducible rfl)
 simp only [Act.put, List.setIfInBounds_toArray, List.set_cons_zero, List.set_cons_succ]
 refine laterAny_take (i := 1) (oi := ⟨some 10, _, _, _, _, _⟩) (v := ?_) rfl (by kernel_rfl) (by kernel_rfl) (by decide) (by kernel_rfl) (by kernel_rfl) (by kernel_rfl) (fun _ _ _ h => h) (Or.inl ⟨by kernel_rfl, ?hy1⟩) (by assumption) ?_
 case hy1 => (intro w' hSw; (try dsimp only at hSw); go_simp; try with_reducible rfl)
 simp only [Act.put, List.setIfInBounds_toArray, List.set_cons_zero, List.set_cons_succ]
 refine laterAny_take (i := 2) (oi := ⟨some 11, _, _, _, _, _⟩) (v := ?_) rfl (by kernel_rfl) (by kernel_rfl) (by decide) (by kernel_rfl) (by kernel_rfl) (by kernel_rfl) (fun _ _ _ h => h) (Or.inl ⟨by kernel_rfl, ?hy2⟩) (by assumption) ?_
 case hy2 => (intro w' hSw; (try dsimp only at hSw); go_simp; try with_reducible rfl)
 simp only [Act.put, List.setIfInBounds_toArray, List.set_cons_zero, List.set_cons_succ]
 refine laterAny_take (i := 3) (oi := ⟨some 12, _, _, _, _, _⟩) (v := ?_) rfl (by kernel_rfl) (by kernel_rfl) (by decide) (by kernel_rfl) (by kernel_rfl) (by kernel_rfl) (fun _ _ _ h => h) (Or.inl ⟨by kernel_rfl, ?hy3⟩) (by assumption) ?_
 case hy3 => (intro w' hSw; (try dsimp only at hSw); go_simp; try with_reducible rfl)
 simp only [Act.put, List.setIfInBounds_toArray, List.set_cons_zero, List.set_cons_succ]
 refine laterAny_take (i := 4) (oi := ⟨some 13, _, _, _, _, _⟩) (v := ?_) rfl (by kernel_rfl) (by kernel_rfl) (by decide) (by kernel_rfl) (by kernel_rfl) (by kernel_rfl) (fun _ _ _ h => h) (Or.inl ⟨by kernel_rfl, ?hy4⟩) (by assumption) ?_
 case hy4 => (intro w' hSw; (try dsimp only at hSw); go_simp; try with_reducible rfl)
 simp only [Act.put, List.setIfInBounds_toArray, List.set_cons_zero, List.set_cons_succ]
 refine laterAny_take (i := 6) (oi := ⟨some 15, _, _, _, _, _⟩) (v := ?_) rfl (by kernel_rfl) (by kernel_rfl) (by decide) (by kernel_rfl) (by kernel_rfl) (by kernel_rfl) (fun _ _ _ h => h) (Or.inl ⟨by kernel_rfl, ?hy6⟩) (by assumption) ?_
 case hy6 => (intro w' hSw; (try dsimp only at hSw); go_simp; try with_reducible rfl)
 simp only [Act.put, List.setIfInBounds_toArray, List.set_cons_zero, List.set_cons_succ]
 refine laterAny_take (i := 7) (oi := ⟨some 16, _, _, _, _, _⟩) (v := ?_) rfl (by kernel_rfl) (by kernel_rfl) (by decide) (by kernel_rfl) (by kernel_rfl) (by kernel_rfl) (fun _ _ _ h => h) (Or.inl ⟨by kernel_rfl, ?hy7⟩) (by assumption) ?_
 case hy7 => (intro w' hSw; (try dsimp only at hSw); go_simp; try with_reducible rfl)
 simp only [Act.put, List.setIfInBounds_toArray, List.set_cons_zero, List.set_cons_succ]
 refine laterAny_ready (rs := [5]) (by kernel_rfl) (by simp) ?_
 refine AllReadyB.cons (o := ⟨some 14, _, _, _, _, _⟩) rfl (fun K hK => ?_) AllReadyB.nil
 (rw [if_pos (by kernel_rfl)])
 go_simp
 refine (HQ.out W4.drew (spans_below HS.out (HB2.out.trans (HB4.out.drew.mono HB2.out.size)))).mono ?_
 rintro e w5 ⟨rfl, hb5⟩
 have hb5' : Below W4.heap.size W4 w5 := (Below.refl _ W4).drew.trans hb5
 have q5 := HS4.out w5 hb5'
 have HB5 := hid hb5'
 clear hb5 hb5' HQ
 refine hK.out _ _ q5 (fun hHeld => ?_)
 clear hK K
 refine laterAny_ready (rs := [8]) (by kernel_rfl) (by simp) ?_
 refine AllReadyB.cons (o := ⟨some 17, _, _, _, _, _⟩) rfl (fun K hK => ?_) AllReadyB.nil
 (rw [if_pos (by kernel_rfl)])
 go_simp
 refine (HC.out w5 (spans_below HS.out (HB2.out.trans ((HB4.out.trans (HB5.out.mono HB4.out.size)).mono HB2.out.size)))).mono ?_
 rintro e w6 ⟨rfl, hb6⟩
 have hb6' := HB5.out.trans (hb6.mono HB5.out.size)
 have q6 := HS4.out w6 hb6'
 have HB6 := hid hb6'
 have x6 := HX4.out.below hb6'
 have u0 := x6.f0
 have u1 := x6.f1
 have x7 := hid ((x6.set0 (.string (bs c.1))).set1 (.int .i64 (c.2.1 : Int)))
 clear hb6 hb6' HC x6
 refine hK.out _ _ q6 (fun hHeld => ?_)
 clear hK K
 refine laterAny_take (i := 9) (oi := ⟨some 8, _, _, _, _, _⟩) (v := ?_) rfl (by kernel_rfl) (by kernel_rfl) (by decide) (by kernel_rfl) (by kernel_rfl) (by kernel_rfl) (fun _ _ _ h => h) (Or.inl ⟨by kernel_rfl, ?hy9⟩) (by assumption) ?_
 case hy9 => (intro w' hSw; (try dsimp only at hSw); go_simp; try with_reducible rfl)
 simp only [Act.put, List.setIfInBounds_toArray, List.set_cons_zero, List.set_cons_succ]
 refine laterAny_take (i := 10) (oi := ⟨some 18, _, _, _, _, _⟩) (v := ?_) rfl (by kernel_rfl) (by kernel_rfl) (by decide) (by kernel_rfl) (by kernel_rfl) (by kernel_rfl) (fun _ _ _ h => h) (Or.inl ⟨by kernel_rfl, ?hy10⟩) (by assumption) ?_
 case hy10 => (intro w' hSw; (try dsimp only at hSw); go_simp; try with_reducible rfl)
 simp only [Act.put, List.setIfInBounds_toArray, List.set_cons_zero, List.set_cons_succ]
 obtain ⟨W7, hW7⟩ : ∃ W7, (w6.setCell ⟨w3.heap.size, 0, none⟩ (.string (bs c.1))).setCell ⟨w3.heap.size, 1, none⟩ (.int .i64 (c.2.1 : Int)) = W7 := ⟨_, rfl⟩
 have v0 := x7.out.c0
 have v1 := x7.out.c1
 have hb7 : Below W2.heap.size W2 W7 := by
  rw [← hW7]
  exact ((HB4.out.trans (HB6.out.mono HB4.out.size)).setCell (p := ⟨w3.heap.size, 0, none⟩) hk2 _).setCell (p := ⟨w3.heap.size, 1, none⟩) hk2 _
 rw [hW7] at v0 v1
 have HB7 := hid hb7
 clear hb7 x7
 refine laterAny_ready (rs := [11, 12]) (by kernel_rfl) (by simp) ?_
 refine AllReadyB.cons (o := ⟨some 19, _, _, _, _, _⟩) rfl (fun K hK => ?_) (AllReadyB.past (o := ⟨none, _, _, _, _, _⟩) rfl (by kernel_rfl) (fun K hK => ?_) AllReadyB.nil)
 ·(rw [if_pos (by kernel_rfl)])
  go_simp
  refine hK.out _ _ q6 (fun hHeld => ?_)
  clear hK K
  refine laterAny_ready (rs := [12]) (by kernel_rfl) (by simp) ?_
  refine AllReadyB.past (o := ⟨none, _, _, _, _, _⟩) rfl (by kernel_rfl) (fun K hK => ?_) AllReadyB.nil
  (rw [if_pos (by kernel_rfl)])
  go_simp
  refine hK.out _ _ ?_
  clear hK K
  refine laterAny_done (by kernel_rfl) ?_
  go_wp2_with fail
  refine (write_callsL W7 O F b s (objLn.below H2.out HB7.out) (c.1, c.2.1) HR.out).mono ?_
  rintro e w8 ⟨rfl, ht⟩
  have hf := fin3 H.out HB2.out (Nat.le_add_right _ 1) (by have := HN2.out; omega) HD2.out HB7.out ht
  have HF := hid hf.2
  have hd9 := hf.1
  have q0 := hd9.c 0 rfl
  have q1 := hd9.c 1 rfl
  have q2 := hd9.c 2 rfl
  have p0 := hd9.free 0
  have p1 := hd9.free 1
  have p2 := hd9.free 2
  have HD9 := hid hd9
  clear hf hd9
  go_wp2_with fail
  refine bodyPost_ret (results_bx3 rfl _ _ (w.heap.size + 1) _ _ _ 60 rfl (three_box HD9.out _ _ _) Tryz.underlying60 (szD _)) rfl ?_
  exact ⟨rfl, by rw [Hc.out]; exact HF.out _ _ _⟩
 ·(rw [if_pos (by kernel_rfl)])
  go_simp
  refine hK.out _ _ ?_
  clear hK K
  refine laterAny_ready (rs := [11]) (by kernel_rfl) (by simp) ?_
  refine AllReadyB.past (o := ⟨some 19, _, _, _, _, _⟩) rfl (by kernel_rfl) (fun K hK => ?_) AllReadyB.nil
  (rw [if_pos (by kernel_rfl)])
  go_simp
  refine hK.out _ _ ?_
  clear hK K
  refine laterAny_done (by kernel_rfl) ?_
  go_wp2_with fail
  refine (write_callsL W7 O F b s (objLn.below H2.out HB7.out) (c.1, c.2.1) HR.out).mono ?_
  rintro e w8 ⟨rfl, ht⟩
  have hf := fin3 H.out HB2.out (Nat.le_add_right _ 1) (by have := HN2.out; omega) HD2.out HB7.out ht
  have HF := hid hf.2
  have hd9 := hf.1
  have q0 := hd9.c 0 rfl
  have q1 := hd9.c 1 rfl
  have q2 := hd9.c 2 rfl
  have p0 := hd9.free 0
  have p1 := hd9.free 1
  have p2 := hd9.free 2
  have HD9 := hid hd9
  clear hf hd9
  go_wp2_with fail
  refine bodyPost_ret (results_bx3 rfl _ _ (w.heap.size + 1) _ _ _ 60 rfl (three_box HD9.out _ _ _) Tryz.underlying60 (szD _)) rfl ?_
  exact ⟨rfl, by rw [Hc.out]; exact HF.out _ _ _⟩
set_option maxHeartbeats 2000000 in
theorem act_del (k0 : Int) (t : ByteArray) (h : LineL w O F b s) (hsp : Spans w) :
  Calls Tryz.prog 73 #[.pointer (some ⟨b, 0, none⟩), .agg #[.int .i64 k0, .string t]] w fun e w' => e = .returned (dV .none) ∧ ToLn w O F w' b ⟨wrG s.log ((cutR s.buf.1 s.buf.2 (s.buf.2) (nxtL s.buf.1 s.buf.2)).1, (cutR s.buf.1 s.buf.2 (s.buf.2) (nxtL s.buf.1 s.buf.2)).2.1) 0, s.ring, s.last⟩ := by
 obtain ⟨W2, hW2, hB2, hs2, hk2, hd2⟩ := boxesA w k0 t
 have HB2 := hid hB2
 have HN2 := hid hs2
 have HD2 := hid hd2
 have H := hid h
 have H2 := hid (objLn.below h hB2)
 have HS := hid hsp
 have hrt := (line_ok h).rt.1
 have hl6 : s.buf.1.length ≤ 137438953472 := Nat.le_trans hrt.2.1 (by decide)
 have e1 : mS s.buf.1 = s.buf.1 := hrt.make.1
 have e2 : mA s.buf.1 s.buf.2 = s.buf.2 := hrt.make.2
 have HQ := hid (fun W hS => next_callsT s.buf.1 s.buf.2 hl6 W hS)
 rw [e1, e2] at HQ
 have HC := hid (fun W hS => cutT_calls s.buf.1 s.buf.2 ((s.buf.2 : Nat) : Int) (nxtL s.buf.1 s.buf.2 : Int) hl6 W hS)
 have e3 : backL s.buf.1 (s.buf.2 : Int) = s.buf.2 := IsB.back hrt.2.2
 rw [e1, e2, e3, back_nxt] at HC
 clear e3
 have HR : Hid (Rt (cutR s.buf.1 s.buf.2 (s.buf.2) (nxtL s.buf.1 s.buf.2)).1 (cutR s.buf.1 s.buf.2 (s.buf.2) (nxtL s.buf.1 s.buf.2)).2.1) := hid (LN.cutR_rt (line_ok h).rt.1 (hrt.2.2) ((isB_on s.buf.1 _ : IsB s.buf.1 (nxtL s.buf.1 s.buf.2))))
 clear h hsp hB2 hs2 hk2 hd2 hrt hl6 e1 e2
 go_enter Tryz.func73, Tryz.ntmps73
 go_wp2_with fail
 refine (buf_callsL W2 O F b s H2.out (spans_below HS.out HB2.out)).mono ?_
 rintro e w3 ⟨rfl, hb3⟩
 have x3 := Bx.new w3 43 (.string ⟨#[]⟩) (.int .i64 0)
 have f0 := x3.f0
 have f1 := x3.f1
 have g0 := x3.c0
 have g1 := x3.c1
 have x4 := Bx.new w3 43 (.string (bs s.buf.1)) (.int .i64 (s.buf.2 : Int))
 have hb4 := hb3.alloc hb3.size (.cells #[.string (bs s.buf.1), .int .i64 (s.buf.2 : Int)] 43)
 obtain ⟨W4, hW4⟩ : ∃ W4, w3.alloc (.cells #[.string (bs s.buf.1), .int .i64 (s.buf.2 : Int)] 43) = W4 := ⟨_, rfl⟩
 rw [hW4] at x4 hb4
 have y0 := x4.c0
 have y1 := x4.c1
 have HB4 := hid hb4
 have hk2 := hb3.size
 have HS4 : Hid (∀ W, Below W4.heap.size W4 W → W.cell? ⟨w3.heap.size, 0, none⟩ = some (.string (bs s.buf.1)) ∧ W.cell? ⟨w3.heap.size, 1, none⟩ = some (.int .i64 (s.buf.2 : Int))) := hid (fun W hW => ⟨(x4.below hW).c0, (x4.below hW).c1⟩)
 have HX4 := hid x4
 clear x3 x4 hb4
 generalize hc : cutR s.buf.1 s.buf.2 (s.buf.2) (nxtL s.buf.1 s.buf.2) = c at HC HR
 have Hc := hid hc
 clear hc
 generalize hv : nxtL s.buf.1 s.buf.2 = v at HQ HC
 clear hv
 go_upto_region 2 with fail
 refine wp_region_later (S := (fun w' => w'.cell? ⟨w3.heap.size, 0, none⟩ = some (.string (bs s.buf.1)) ∧ w'.cell? ⟨w3.heap.size, 1, none⟩ = some (.int .i64 (s.buf.2 : Int)))) 12 (by kernel_rfl) ⟨y0, y1⟩ (fun hHeld => ?_)
 refine laterAny_take (i := 0) (oi := ⟨some 9, _, _, _, _, _⟩) (v := ?_) rfl (by kernel_rfl) (by kernel_rfl) (by decide) (by kernel_rfl) (by kernel_rfl) (by kernel_rfl) (fun _ _ _ h => h) (Or.inl ⟨by kernel_rfl, ?hy0⟩) (by assumption) ?_
 case hy0 => (intro w' hSw; (try dsimp only at hSw); go_simp; try with_reducible rfl)
 simp only [Act.put, List.setIfInBounds_toArray, List.set_cons_zero, List.set_cons_succ]
 refine laterAny_take (i := 1) (oi := ⟨some 10, _, _, _, _, _⟩) (v := ?_) rfl (by kernel_rfl) (by kernel_rfl) (by decide) (by kernel_rfl) (by kernel_rfl) (by kernel_rfl) (fun _ _ _ h => h) (Or.inl ⟨by kernel_rfl, ?hy1⟩) (by assumption) ?_
 case hy1 => (intro w' hSw; (try dsimp only at hSw); go_simp; try with_reducible rfl)
 simp only [Act.put, List.setIfInBounds_toArray, List.set_cons_zero, List.set_cons_succ]
 refine laterAny_take (i := 2) (oi := ⟨some 11, _, _, _, _, _⟩) (v := ?_) rfl (by kernel_rfl) (by kernel_rfl) (by decide) (by kernel_rfl) (by kernel_rfl) (by kernel_rfl) (fun _ _ _ h => h) (Or.inl ⟨by kernel_rfl, ?hy2⟩) (by assumption) ?_
 case hy2 => (intro w' hSw; (try dsimp only at hSw); go_simp; try with_reducible rfl)
 simp only [Act.put, List.setIfInBounds_toArray, List.set_cons_zero, List.set_cons_succ]
 refine laterAny_take (i := 3) (oi := ⟨some 12, _, _, _, _, _⟩) (v := ?_) rfl (by kernel_rfl) (by kernel_rfl) (by decide) (by kernel_rfl) (by kernel_rfl) (by kernel_rfl) (fun _ _ _ h => h) (Or.inl ⟨by kernel_rfl, ?hy3⟩) (by assumption) ?_
 case hy3 => (intro w' hSw; (try dsimp only at hSw); go_simp; try with_reducible rfl)
 simp only [Act.put, List.setIfInBounds_toArray, List.set_cons_zero, List.set_cons_succ]
 refine laterAny_take (i := 4) (oi := ⟨some 13, _, _, _, _, _⟩) (v := ?_) rfl (by kernel_rfl) (by kernel_rfl) (by decide) (by kernel_rfl) (by kernel_rfl) (by kernel_rfl) (fun _ _ _ h => h) (Or.inl ⟨by kernel_rfl, ?hy4⟩) (by assumption) ?_
 case hy4 => (intro w' hSw; (try dsimp only at hSw); go_simp; try with_reducible rfl)
 simp only [Act.put, List.setIfInBounds_toArray, List.set_cons_zero, List.set_cons_succ]
 refine laterAny_take (i := 5) (oi := ⟨some 14, _, _, _, _, _⟩) (v := ?_) rfl (by kernel_rfl) (by kernel_rfl) (by decide) (by kernel_rfl) (by kernel_rfl) (by kernel_rfl) (fun _ _ _ h => h) (Or.inl ⟨by kernel_rfl, ?hy5⟩) (by assumption) ?_
 case hy5 => (intro w' hSw; (try dsimp only at hSw); go_simp; try with_reducible rfl)
 simp only [Act.put, List.setIfInBounds_toArray, List.set_cons_zero, List.set_cons_succ]
 refine laterAny_take (i := 6) (oi := ⟨some 15, _, _, _, _, _⟩) (v := ?_) rfl (by kernel_rfl) (by kernel_rfl) (by decide) (by kernel_rfl) (by kernel_rfl) (by kernel_rfl) (fun _ _ _ h => h) (Or.inl ⟨by kernel_rfl, ?hy6⟩) (by assumption) ?_
 case hy6 => (intro w' hSw; (try dsimp only at hSw); go_simp; try with_reducible rfl)
 simp only [Act.put, List.setIfInBounds_toArray, List.set_cons_zero, List.set_cons_succ]
 refine laterAny_ready (rs := [7]) (by kernel_rfl) (by simp) ?_
 refine AllReadyB.cons (o := ⟨some 16, _, _, _, _, _⟩) rfl (fun K hK => ?_) AllReadyB.nil
 (rw [if_pos (by kernel_rfl)])
 go_simp
 refine (HQ.out W4.drew (spans_below HS.out (HB2.out.trans (HB4.out.drew.mono HB2.out.size)))).mono ?_
 rintro e w5 ⟨rfl, hb5⟩
 have hb5' : Below W4.heap.size W4 w5 := (Below.refl _ W4).drew.trans hb5
 have q5 := HS4.out w5 hb5'
 have HB5 := hid hb5'
 clear hb5 hb5' HQ
 refine hK.out _ _ q5 (fun hHeld => ?_)
 clear hK K
 refine laterAny_ready (rs := [8]) (by kernel_rfl) (by simp) ?_
 refine AllReadyB.cons (o := ⟨some 17, _, _, _, _, _⟩) rfl (fun K hK => ?_) AllReadyB.nil
 (rw [if_pos (by kernel_rfl)])
 go_simp
 refine (HC.out w5 (spans_below HS.out (HB2.out.trans ((HB4.out.trans (HB5.out.mono HB4.out.size)).mono HB2.out.size)))).mono ?_
 rintro e w6 ⟨rfl, hb6⟩
 have hb6' := HB5.out.trans (hb6.mono HB5.out.size)
 have q6 := HS4.out w6 hb6'
 have HB6 := hid hb6'
 have x6 := HX4.out.below hb6'
 have u0 := x6.f0
 have u1 := x6.f1
 have x7 := hid ((x6.set0 (.string (bs c.1))).set1 (.int .i64 (c.2.1 : Int)))
 clear hb6 hb6' HC x6
 refine hK.out _ _ q6 (fun hHeld => ?_)
 clear hK K
 refine laterAny_take (i := 9) (oi := ⟨some 8, _, _, _, _, _⟩) (v := ?_) rfl (by kernel_rfl) (by kernel_rfl) (by decide) (by kernel_rfl) (by kernel_rfl) (by kernel_rfl) (fun _ _ _ h => h) (Or.inl ⟨by kernel_rfl, ?hy9⟩) (by assumption) ?_
 case hy9 => (intro w' hSw; (try dsimp only at hSw); go_simp; try with_reducible rfl)
 simp only [Act.put, List.setIfInBounds_toArray, List.set_cons_zero, List.set_cons_succ]
 refine laterAny_take (i := 10) (oi := ⟨some 18, _, _, _, _, _⟩) (v := ?_) rfl (by kernel_rfl) (by kernel_rfl) (by decide) (by kernel_rfl) (by kernel_rfl) (by kernel_rfl) (fun _ _ _ h => h) (Or.inl ⟨by kernel_rfl, ?hy10⟩) (by assumption) ?_
 case hy10 => (intro w' hSw; (try dsimp only at hSw); go_simp; try with_reducible rfl)
 simp only [Act.put, List.setIfInBounds_toArray, List.set_cons_zero, List.set_cons_succ]
 obtain ⟨W7, hW7⟩ : ∃ W7, (w6.setCell ⟨w3.heap.size, 0, none⟩ (.string (bs c.1))).setCell ⟨w3.heap.size, 1, none⟩ (.int .i64 (c.2.1 : Int)) = W7 := ⟨_, rfl⟩
 have v0 := x7.out.c0
 have v1 := x7.out.c1
 have hb7 : Below W2.heap.size W2 W7 := by
  rw [← hW7]
  exact ((HB4.out.trans (HB6.out.mono HB4.out.size)).setCell (p := ⟨w3.heap.size, 0, none⟩) hk2 _).setCell (p := ⟨w3.heap.size, 1, none⟩) hk2 _
 rw [hW7] at v0 v1
 have HB7 := hid hb7
 clear hb7 x7
 refine laterAny_ready (rs := [11, 12]) (by kernel_rfl) (by simp) ?_
 refine AllReadyB.cons (o := ⟨some 19, _, _, _, _, _⟩) rfl (fun K hK => ?_) (AllReadyB.past (o := ⟨none, _, _, _, _, _⟩) rfl (by kernel_rfl) (fun K hK => ?_) AllReadyB.nil)
 ·(rw [if_pos (by kernel_rfl)])
  go_simp
  refine hK.out _ _ q6 (fun hHeld => ?_)
  clear hK K
  refine laterAny_ready (rs := [12]) (by kernel_rfl) (by simp) ?_
  refine AllReadyB.past (o := ⟨none, _, _, _, _, _⟩) rfl (by kernel_rfl) (fun K hK => ?_) AllReadyB.nil
  (rw [if_pos (by kernel_rfl)])
  go_simp
  refine hK.out _ _ ?_
  clear hK K
  refine laterAny_done (by kernel_rfl) ?_
  go_wp2_with fail
  refine (write_callsL W7 O F b s (objLn.below H2.out HB7.out) (c.1, c.2.1) HR.out).mono ?_
  rintro e w8 ⟨rfl, ht⟩
  have hf := fin3 H.out HB2.out (Nat.le_add_right _ 1) (by have := HN2.out; omega) HD2.out HB7.out ht
  have HF := hid hf.2
  have hd9 := hf.1
  have q0 := hd9.c 0 rfl
  have q1 := hd9.c 1 rfl
  have q2 := hd9.c 2 rfl
  have p0 := hd9.free 0
  have p1 := hd9.free 1
  have p2 := hd9.free 2
  have HD9 := hid hd9
  clear hf hd9
  go_wp2_with fail
  refine bodyPost_ret (results_bx3 rfl _ _ (w.heap.size + 1) _ _ _ 60 rfl (three_box HD9.out _ _ _) Tryz.underlying60 (szD _)) rfl ?_
  exact ⟨rfl, by rw [Hc.out]; exact HF.out _ _ _⟩
 ·(rw [if_pos (by kernel_rfl)])
  go_simp
  refine hK.out _ _ ?_
  clear hK K
  refine laterAny_ready (rs := [11]) (by kernel_rfl) (by simp) ?_
  refine AllReadyB.past (o := ⟨some 19, _, _, _, _, _⟩) rfl (by kernel_rfl) (fun K hK => ?_) AllReadyB.nil
  (rw [if_pos (by kernel_rfl)])
  go_simp
  refine hK.out _ _ ?_
  clear hK K
  refine laterAny_done (by kernel_rfl) ?_
  go_wp2_with fail
  refine (write_callsL W7 O F b s (objLn.below H2.out HB7.out) (c.1, c.2.1) HR.out).mono ?_
  rintro e w8 ⟨rfl, ht⟩
  have hf := fin3 H.out HB2.out (Nat.le_add_right _ 1) (by have := HN2.out; omega) HD2.out HB7.out ht
  have HF := hid hf.2
  have hd9 := hf.1
  have q0 := hd9.c 0 rfl
  have q1 := hd9.c 1 rfl
  have q2 := hd9.c 2 rfl
  have p0 := hd9.free 0
  have p1 := hd9.free 1
  have p2 := hd9.free 2
  have HD9 := hid hd9
  clear hf hd9
  go_wp2_with fail
  refine bodyPost_ret (results_bx3 rfl _ _ (w.heap.size + 1) _ _ _ 60 rfl (three_box HD9.out _ _ _) Tryz.underlying60 (szD _)) rfl ?_
  exact ⟨rfl, by rw [Hc.out]; exact HF.out _ _ _⟩
end
end
end Go.Proofs.YtoaponaljkhlfaaGreatDoor
