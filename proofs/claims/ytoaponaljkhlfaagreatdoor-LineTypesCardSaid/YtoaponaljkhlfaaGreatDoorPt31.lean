/-
  Layer 7 and what it stands on, part 31 (Makes Ins LnW Steps Words).
-/
import Derived.Test.YtoaponaljkhlfaaGreatDoorPt19
import Derived.Test.YtoaponaljkhlfaaGreatDoorPt22
import Derived.Test.YtoaponaljkhlfaaGreatDoorPt25
import Derived.BigQuiet
import Derived.Deep.Cut
namespace Go.Proofs.YtoaponaljkhlfaaGreatDoor
section
open Go Go.RowKit
theorem bs_mid (l : List UInt8) (m n : Nat) : (bs l).extract m n = bs ((l.drop m).take (n - m)) := by
  rw [Lib.extract_eq]
set_option maxHeartbeats 2000000 in
theorem make_calls (l : List UInt8) (n : Int) (hl : l.length ≤ 137438953472) (w : World) (hsp : Spans w) :
    Calls Tryz.prog 37 #[.string (bs l), .int .i64 n] w fun e w' => e = .returned (.agg #[.string (bs (mS l)), .int .i64 (mA l n : Int)]) ∧ Below w.heap.size w w' := by
  have k0 : Below w.heap.size w (w.alloc (.cells #[.string ⟨#[]⟩, .int .i64 0] 43)) := (Below.refl _ w).alloc (Nat.le_refl _) _
  have hb0 := Bx.new w 43 (.string ⟨#[]⟩) (.int .i64 0)
  have HP := Lib.hid (fun W => plain_calls l hl W)
  have hpl := plain_length l
  have hbl := backL_le (plainL l) 600
  have hms := mS_len l
  have Hsp := Lib.hid hsp
  have HB1 := Lib.hid (fun W h => back_calls (plainL l) 600 (by omega) W h)
  have HB2 := Lib.hid (fun W h => back_calls (mS l) n (by omega) W h)
  have hex : (bs (plainL l)).extract 0 (backL (plainL l) 600) = bs (mS l) := bs_take _ _
  have HmA : Hid (backL (mS l) n = mA l n) := Lib.hid rfl
  have hsz := bs_size (plainL l)
  clear hsp
  generalize backL (mS l) n = a at *
  generalize mA l n = a' at *
  obtain rfl := HmA.out
  generalize backL (plainL l) 600 = b at *
  generalize mS l = m at *
  generalize plainL l = p at *
  go_enter Tryz.func37, Tryz.ntmps37
  go_wp2_with fail
  refine (HP.out _).mono ?_
  rintro e w1 ⟨rfl, hb1⟩
  have k1 := k0.trans (hb1.mono k0.size)
  have g1 := hb0.below hb1
  clear hb1
  go_wp2_with fail
  refine (HB1.out _ (spans_below Hsp.out k1)).mono ?_
  rintro e w2 ⟨rfl, hb2⟩
  have k2 := k1.trans (hb2.mono k1.size)
  have g2 := g1.below hb2
  clear hb2 g1 k1
  go_wp2_with fail
  refine (HB2.out _ (spans_below Hsp.out k2)).mono ?_
  rintro e w3 ⟨rfl, hb3⟩
  have k3 := k2.trans (hb3.mono k2.size)
  have g3 := g2.below hb3
  have c0 := g3.c0
  have c1 := g3.c1
  have f0 := g3.f0
  have f1 := g3.f1
  have G3 := Lib.hid g3
  have K3 := Lib.hid k3
  clear hb3 g2 k2 g3 k3
  go_wp2
  refine bodyPost_ret (results_bx rfl _ _ w.heap.size (.string (bs m)) (.int .i64 (a : Int)) 43 rfl ((G3.out.set0 _).set1 _) Tryz.underlying43 (sizeBuf _)) rfl ?_
  exact ⟨rfl, (K3.out.setCell (p := ⟨w.heap.size, 0, none⟩) (Nat.le_refl _) _).setCell (p := ⟨w.heap.size, 1, none⟩) (Nat.le_refl _) _⟩
theorem mS_short (l : List UInt8) (h : (plainL l).length ≤ 600) : mS l = plainL l := by
  unfold mS
  rw [backL_all _ 600 (by omega), List.take_length]
end
section
open Go Go.RowKit
theorem drop_len_le (l : List UInt8) (k : Nat) : (l.drop k).length ≤ l.length := by rw [List.length_drop]; omega
theorem take_len_le (l : List UInt8) (k : Nat) : (l.take k).length ≤ l.length := by rw [List.length_take]; omega
theorem bs_drop' (l : List UInt8) (k : Nat) : (bs l).extract k l.length = bs (l.drop k) := bs_drop l k
set_option maxHeartbeats 4000000 in
theorem insert_ok (l s : List UInt8) (n : Int) (hl : l.length ≤ 137438953472) (hs : s.length ≤ 137438953472) (w : World) (hsp : Spans w) (h6 : (mS l).length + (plainL s).length ≤ 600) :
    Calls Tryz.prog 53 #[.agg #[.string (bs l), .int .i64 n], .string (bs s)] w fun e w' => e = .returned (.tuple #[.agg #[.string (bs (insS (mS l) (mA l n) (plainL s))), .int .i64 (insA (mS l) (mA l n) (plainL s) : Int)], .int .i64 0]) ∧ Below w.heap.size w w' := by
  have HM := Lib.hid (fun W h => make_calls l n hl W h)
  have HP := Lib.hid (fun W => plain_calls s hs W)
  have ha := mA_le l n
  have hil := insS_length (mS l) (mA l n) (plainL s) ha
  have HO := Lib.hid (fun W h => on_calls (insS (mS l) (mA l n) (plainL s)) ((mA l n + (plainL s).length : Nat) : Int) (by omega) W h)
  have HiA : Hid (onL (insS (mS l) (mA l n) (plainL s)) ((mA l n + (plainL s).length : Nat) : Int) = insA (mS l) (mA l n) (plainL s)) := Lib.hid rfl
  have hx1 := bs_take (mS l) (mA l n)
  have hx2 := bs_drop (mS l) (mA l n)
  have hp1 := add_bs Tryz.prog ((mS l).take (mA l n)) (plainL s) (by have := take_len_le (mS l) (mA l n); omega)
  have hp2 : ∀ W : World, (Op.stringOp .add (bs ((mS l).take (mA l n) ++ plainL s)) (bs ((mS l).drop (mA l n)))).run Tryz.prog W = .ok (.string (bs (insS (mS l) (mA l n) (plainL s)))) W :=
    add_bs Tryz.prog ((mS l).take (mA l n) ++ plainL s) ((mS l).drop (mA l n)) (by have := take_len_le (mS l) (mA l n); have := drop_len_le (mS l) (mA l n); rw [List.length_append]; omega)
  rw [HiA.out] at HO
  clear HiA
  generalize insA (mS l) (mA l n) (plainL s) = x at *
  generalize insS (mS l) (mA l n) (plainL s) = whole at *
  generalize (mS l).take (mA l n) ++ plainL s = t3 at *
  generalize (mS l).take (mA l n) = t1 at *
  generalize (mS l).drop (mA l n) = t2 at *
  generalize mA l n = a at *
  generalize mS l = m at *
  generalize plainL s = p at *
  have hszm := bs_size m
  have hszp := bs_size p
  have k0 : Below w.heap.size w ((w.alloc (.cells #[.string (bs l), .int .i64 n] 43)).alloc (.cells #[.string ⟨#[]⟩, .int .i64 0] 43)) := ((Below.refl _ w).alloc (Nat.le_refl _) _).alloc (by simp) _
  have b0 := (Bx.new w 43 (.string (bs l)) (.int .i64 n)).alloc (.cells #[.string ⟨#[]⟩, .int .i64 0] 43)
  have r0 := Bx.new (w.alloc (.cells #[.string (bs l), .int .i64 n] 43)) 43 (.string ⟨#[]⟩) (.int .i64 0)
  rw [World.size_alloc] at r0
  have c00 := b0.c0
  have c01 := b0.c1
  have Hsp := Lib.hid hsp
  have hi0 : (0 : Int) ≤ (a : Int) := by omega
  have hi1 : (a : Int) ≤ (m.length : Int) := by omega
  have hw1 : IntKind.i64.wrap ((m.length : Int) + (p.length : Int)) = (m.length : Int) + (p.length : Int) := IntWalk.i64_in _ (by omega)
  have hw2 : IntKind.i64.wrap ((a : Int) + (p.length : Int)) = (a : Int) + (p.length : Int) := IntWalk.i64_in _ (by omega)
  have hd6 : decide ((600 : Int) < (m.length : Int) + (p.length : Int)) = false := decide_eq_false (by omega)
  have hcast : ((a + p.length : Nat) : Int) = (a : Int) + (p.length : Int) := by omega
  rw [hcast] at HO
  clear hsp hil hcast
  go_enter Tryz.func53, Tryz.ntmps53
  go_wp2_with fail
  refine (HM.out _ (spans_below Hsp.out k0)).mono ?_
  rintro e w1 ⟨rfl, hb1⟩
  have k1 := k0.trans (hb1.mono k0.size)
  have b1 := b0.below hb1
  have r1 := r0.below hb1
  clear hb1 c00 c01 b0 r0 k0
  go_wp2_with fail
  refine (HP.out _).mono ?_
  rintro e w2 ⟨rfl, hb2⟩
  have k2 := k1.trans (hb2.mono k1.size)
  have b2 := b1.below hb2
  have r2 := r1.below hb2
  clear hb2 b1 r1 k1
  have c20 := b2.c0
  have c21 := b2.c1
  have f20 := b2.f0
  have f21 := b2.f1
  have b3 := (b2.set0 (.string (bs m))).set1 (.int .i64 (a : Int))
  have r3 := (r2.other (i := 0) (Nat.succ_ne_self _) (.string (bs m))).other (i := 1) (Nat.succ_ne_self _) (.int .i64 (a : Int))
  have k3 := (k2.setCell (p := ⟨w.heap.size, 0, none⟩) (Nat.le_refl _) (.string (bs m))).setCell (p := ⟨w.heap.size, 1, none⟩) (Nat.le_refl _) (.int .i64 (a : Int))
  have c30 := b3.c0
  have c31 := b3.c1
  have K3 := Lib.hid k3
  have R3 := Lib.hid r3
  have B3 := Lib.hid b3
  clear b2 r2 k2 b3 r3 k3
  go_wp2_with fail
  go_quiet (fail)
  go_wp2_with fail
  refine (HO.out _ (spans_below Hsp.out (bel_drewN K3.out _))).mono ?_
  rintro e w5 ⟨rfl, hb5⟩
  have k5 := (bel_drewN K3.out nq).trans (hb5.mono (bel_drewN K3.out nq).size)
  have r5 := (R3.out.drewN nq).below hb5
  have c50 := r5.c0
  have c51 := r5.c1
  have f50 := r5.f0
  have f51 := r5.f1
  have K5 := Lib.hid k5
  have R5 := Lib.hid r5
  clear hb5 r5 k5
  go_wp2
  refine bodyPost_ret (results_bx2 rfl _ _ (w.heap.size + 1) (.string (bs whole)) (.int .i64 (x : Int)) 43 rfl ((R5.out.set0 _).set1 _) Tryz.underlying43 (sizeBuf _)) rfl ?_
  exact ⟨rfl, (K5.out.setCell (p := ⟨w.heap.size + 1, 0, none⟩) (Nat.le_succ _) _).setCell (p := ⟨w.heap.size + 1, 1, none⟩) (Nat.le_succ _) _⟩
set_option maxHeartbeats 4000000 in
theorem insert_no (l s : List UInt8) (n : Int) (hl : l.length ≤ 137438953472) (hs : s.length ≤ 137438953472) (w : World) (hsp : Spans w) (h6 : 600 < (mS l).length + (plainL s).length) :
    Calls Tryz.prog 53 #[.agg #[.string (bs l), .int .i64 n], .string (bs s)] w fun e w' => e = .returned (.tuple #[.agg #[.string (bs (mS l)), .int .i64 (mA l n : Int)], .int .i64 30]) ∧ Below w.heap.size w w' := by
  have HM := Lib.hid (fun W h => make_calls l n hl W h)
  have HP := Lib.hid (fun W => plain_calls s hs W)
  have ha := mA_le l n
  have hms := mS_len l
  have hpl := plain_length s
  generalize mA l n = a at *
  generalize mS l = m at *
  generalize plainL s = p at *
  have hszm := bs_size m
  have hszp := bs_size p
  have k0 : Below w.heap.size w ((w.alloc (.cells #[.string (bs l), .int .i64 n] 43)).alloc (.cells #[.string ⟨#[]⟩, .int .i64 0] 43)) := ((Below.refl _ w).alloc (Nat.le_refl _) _).alloc (by simp) _
  have b0 := (Bx.new w 43 (.string (bs l)) (.int .i64 n)).alloc (.cells #[.string ⟨#[]⟩, .int .i64 0] 43)
  have r0 := Bx.new (w.alloc (.cells #[.string (bs l), .int .i64 n] 43)) 43 (.string ⟨#[]⟩) (.int .i64 0)
  rw [World.size_alloc] at r0
  have c00 := b0.c0
  have c01 := b0.c1
  have Hsp := Lib.hid hsp
  have hw1 : IntKind.i64.wrap ((m.length : Int) + (p.length : Int)) = (m.length : Int) + (p.length : Int) := IntWalk.i64_in _ (by omega)
  have hd6 : decide ((600 : Int) < (m.length : Int) + (p.length : Int)) = true := decide_eq_true (by omega)
  clear hsp
  go_enter Tryz.func53, Tryz.ntmps53
  go_wp2_with fail
  refine (HM.out _ (spans_below Hsp.out k0)).mono ?_
  rintro e w1 ⟨rfl, hb1⟩
  have k1 := k0.trans (hb1.mono k0.size)
  have b1 := b0.below hb1
  have r1 := r0.below hb1
  clear hb1 c00 c01 b0 r0 k0
  go_wp2_with fail
  refine (HP.out _).mono ?_
  rintro e w2 ⟨rfl, hb2⟩
  have k2 := k1.trans (hb2.mono k1.size)
  have b2 := b1.below hb2
  have r2 := r1.below hb2
  clear hb2 b1 r1 k1
  have c20 := b2.c0
  have c21 := b2.c1
  have f20 := b2.f0
  have f21 := b2.f1
  have b3 := (b2.set0 (.string (bs m))).set1 (.int .i64 (a : Int))
  have r3 := (r2.other (i := 0) (Nat.succ_ne_self _) (.string (bs m))).other (i := 1) (Nat.succ_ne_self _) (.int .i64 (a : Int))
  have k3 := (k2.setCell (p := ⟨w.heap.size, 0, none⟩) (Nat.le_refl _) (.string (bs m))).setCell (p := ⟨w.heap.size, 1, none⟩) (Nat.le_refl _) (.int .i64 (a : Int))
  have c30 := b3.c0
  have c31 := b3.c1
  have K3 := Lib.hid k3
  have R3 := Lib.hid r3
  have B3 := Lib.hid b3
  clear b2 r2 k2 b3 r3 k3
  have r30 := R3.out.c0
  have r31 := R3.out.c1
  have q30 := R3.out.f0
  have q31 := R3.out.f1
  go_wp2
  refine bodyPost_ret (results_bx2 rfl _ _ (w.heap.size + 1) (.string (bs m)) (.int .i64 (a : Int)) 43 rfl ((R3.out.set0 _).set1 _) Tryz.underlying43 (sizeBuf _)) rfl ?_
  exact ⟨rfl, (K3.out.setCell (p := ⟨w.heap.size + 1, 0, none⟩) (Nat.le_succ _) _).setCell (p := ⟨w.heap.size + 1, 1, none⟩) (Nat.le_succ _) _⟩
end
section
open Go Go.RowKit
set_option maxRecDepth 100000
theorem szD (W : World) : (sizeOf 60).run Tryz.prog W = .ok 3 W := by simp [sizeOf, typeInfo, go_sem]; kernel_rfl
theorem results_bx3 {P : Program} {fn : Func} {p : Tmp} {ty : TypeId} {fs : Array Field} (h : fn.results = #[.cell p ty]) (tmps : Array Value) (w : World) (g : Nat) (v0 v1 v2 : Value) (t : TypeId)
    (hp : tmps.getD p undef = .pointer (some ⟨g, 0, none⟩)) (hb : BxA w g t [v0, v1, v2]) (hu : P.underlying ty = some (.struct fs)) (hsz : (sizeOf ty).run P w = .ok 3 w) : (results fn tmps).run P w = .ok (.agg #[v0, v1, v2]) w := by
  have hp' : tmps[p]?.getD undef = .pointer (some ⟨g, 0, none⟩) := by simpa using hp
  have c0 := hb.c 0 rfl
  have c1 := hb.c 1 rfl
  have c2 := hb.c 2 rfl
  simp [results, h, hp', asAddr, loadVar, isAgg, Sem.run_bind, run_underlying hu, hsz, loadCells, loadCellsFrom, Addr.add, c0, c1, c2, go_sem]
theorem results_bx3' {P : Program} {fn : Func} {p q : Tmp} {ty : TypeId} {fs : Array Field} (h : fn.results = #[.cell p ty, .tmp q]) (tmps : Array Value) (w : World) (g : Nat) (v0 v1 v2 v : Value) (t : TypeId)
    (hp : tmps.getD p undef = .pointer (some ⟨g, 0, none⟩)) (hq : tmps.getD q undef = v) (hb : BxA w g t [v0, v1, v2]) (hu : P.underlying ty = some (.struct fs)) (hsz : (sizeOf ty).run P w = .ok 3 w) : (results fn tmps).run P w = .ok (.tuple #[.agg #[v0, v1, v2], v]) w := by
  have hp' : tmps[p]?.getD undef = .pointer (some ⟨g, 0, none⟩) := by simpa using hp
  have hq' : tmps[q]?.getD undef = v := by simpa using hq
  have c0 := hb.c 0 rfl
  have c1 := hb.c 1 rfl
  have c2 := hb.c 2 rfl
  simp [results, h, hp', hq', asAddr, loadVar, isAgg, Sem.run_bind, run_underlying hu, hsz, loadCells, loadCellsFrom, Addr.add, c0, c1, c2, go_sem]
theorem field_buf0L (a b : Value) : ∀ W : World, (Instr.field 43 (.agg #[a, b]) 0).run Tryz.prog W = .ok a W := fun W => by kernel_rfl
section
variable (w : World) (O F : Nat → Prop) (b : Nat) (s : LN)
set_option maxHeartbeats 1000000 in
theorem buf_callsL (h : LineL w O F b s) (_ : Spans w) :
    Calls Tryz.prog 13 #[.pointer (some ⟨b, 0, none⟩)] w fun e w' => e = .returned (.agg #[.string (bs s.buf.1), .int .i64 (s.buf.2 : Int)]) ∧ Below w.heap.size w w' := by
  obtain ⟨g, r, Rl, Rr, h⟩ := h
  have k0 : Below w.heap.size w (w.alloc (.cells #[.string ⟨#[]⟩, .int .i64 0] 43)) := (Below.refl _ w).alloc (Nat.le_refl _) _
  have hb0 := Bx.new w 43 (.string ⟨#[]⟩) (.int .i64 0)
  have c0 := (h.box.below k0).c 0 rfl
  have H := Lib.hid (now_callsB _ Rl g s.log (objB.below h.log k0))
  clear h
  go_enter Tryz.func13, Tryz.ntmps13
  go_wp2_with fail
  refine H.out.mono ?_
  rintro e w2 ⟨rfl, hb2⟩
  have g2 := hb0.below hb2
  have k2 := k0.trans (hb2.mono k0.size)
  have f0 := g2.c0
  have f1 := g2.c1
  have e0 := g2.f0
  have e1 := g2.f1
  have G2 := Lib.hid g2
  have K2 := Lib.hid k2
  clear g2 k2 hb2 hb0 k0
  go_wp2
  refine bodyPost_ret (results_bx rfl _ _ w.heap.size (.string (bs s.log.now.1)) (.int .i64 (s.log.now.2 : Int)) 43 rfl ((G2.out.set0 _).set1 _) Tryz.underlying43 (sizeBuf _)) rfl ?_
  exact ⟨rfl, (K2.out.setCell (p := ⟨w.heap.size, 0, none⟩) (Nat.le_refl _) _).setCell (p := ⟨w.heap.size, 1, none⟩) (Nat.le_refl _) _⟩
theorem undos_callsL (h : LineL w O F b s) (_ : Spans w) :
    Calls Tryz.prog 11 #[.pointer (some ⟨b, 0, none⟩)] w fun e w' => e = .returned (.tuple #[.int .i64 (s.log.back.length : Int), .int .i64 (s.log.forth.length : Int)]) ∧ Below w.heap.size w w' := by
  obtain ⟨g, r, Rl, Rr, h⟩ := h
  have c0 := h.box.c 0 rfl
  have H := Lib.hid (len_callsB w Rl g s.log h.log)
  clear h
  go_enter Tryz.func11, Tryz.ntmps11
  go_wp2_with fail
  refine H.out.mono ?_
  rintro e w2 ⟨rfl, hb2⟩
  go_wp2
  go_ret2
  exact ⟨rfl, hb2⟩
set_option maxHeartbeats 2000000 in
theorem write_callsL (h : LineL w O F b s) (x : Bf) (hx : Rt x.1 x.2) :
    Calls Tryz.prog 54 #[.pointer (some ⟨b, 0, none⟩), bufV x] w fun e w' => e = .returned (.bool (decide (x ≠ s.buf))) ∧ ToLn w O F w' b ⟨wrG s.log x 0, s.ring, s.last⟩ := by
  obtain ⟨g, r, Rl, Rr, h⟩ := h
  have hgl := h.log.lt g h.log.ins
  have hbg := h.bg
  obtain ⟨W1, hW1⟩ : ∃ W1, w.alloc (.cells #[.string (bs x.1), .int .i64 (x.2 : Int)] 43) = W1 := ⟨_, rfl⟩
  have k0 : Below w.heap.size w W1 := by rw [← hW1]; exact (Below.refl _ w).alloc (Nat.le_refl _) _
  have hx1 : Bx W1 w.heap.size 43 (.string (bs x.1)) (.int .i64 (x.2 : Int)) := by rw [← hW1]; exact Bx.new w 43 _ _
  have h1 := h.below k0
  have HSS : Hid (∀ w', Only (fun k => k = g) W1.drew w' → w'.cell? ⟨b, 0, none⟩ = some (.pointer (some ⟨g, 0, none⟩)) ∧ w'.cell? ⟨w.heap.size, 0, none⟩ = some (.string (bs x.1)) ∧ w'.cell? ⟨w.heap.size, 1, none⟩ = some (.int .i64 (x.2 : Int))) := Lib.hid (fun w' ho => ⟨(h1.box.below (Below.refl _ W1).drew |>.keep ho hbg).c 0 rfl, ho.cell (Bx.below hx1 (Below.refl _ W1).drew).c0 (fun (e : w.heap.size = g) => by omega), ho.cell (Bx.below hx1 (Below.refl _ W1).drew).c1 (fun (e : w.heap.size = g) => by omega)⟩)
  have c0 := h1.box.c 0 rfl
  have x0 := hx1.c0
  have x1 := hx1.c1
  have HD := Lib.hid (do_callsB W1.drew Rl g s.log (objB.below h1.log (Below.refl _ W1).drew) x 0)
  have HL := Lib.hid (h1.below (Below.refl _ W1).drew)
  have HK : Hid (Below w.heap.size w W1.drew) := Lib.hid (k0.trans ((Below.refl _ W1).drew.mono k0.size))
  have Hok := Lib.hid hx
  clear h h1 hx1 k0 hgl hbg hx
  rw [show s.buf = s.log.now from rfl]
  generalize decide (x ≠ s.log.now) = dd at *
  go_enter Tryz.func54, Tryz.ntmps54
  go_upto_region 1 with fail
  unfold bufV
  clear hW1
  refine wp_region_held_drew (S := (fun w' => w'.cell? ⟨b, 0, none⟩ = some (.pointer (some ⟨g, 0, none⟩)) ∧ w'.cell? ⟨w.heap.size, 0, none⟩ = some (.string (bs x.1)) ∧ w'.cell? ⟨w.heap.size, 1, none⟩ = some (.int .i64 (x.2 : Int)))) (by kernel_rfl) ⟨c0, x0, x1⟩ (fun hHeld => ?_)
  refine wpAnyH_take (i := 0) (oi := ⟨some 6, _, _, _, _, _⟩) (v := ?_) rfl (by kernel_rfl) (by kernel_rfl) (by kernel_rfl) (fun _ _ _ h => h) (Or.inl ⟨by kernel_rfl, ?hy0⟩) (by assumption) ?_
  case hy0 => (intro w' hSw; (try dsimp only at hSw); go_simp; try with_reducible rfl)
  simp only [Act.put, List.setIfInBounds_toArray, List.set_cons_zero, List.set_cons_succ]
  refine wpAnyH_take (i := 1) (oi := ⟨some 7, _, _, _, _, _⟩) (v := ?_) rfl (by kernel_rfl) (by kernel_rfl) (by kernel_rfl) (fun _ _ _ h => h) (Or.inl ⟨by kernel_rfl, ?hy1⟩) (by assumption) ?_
  case hy1 => (intro w' hSw; (try dsimp only at hSw); go_simp; try with_reducible rfl)
  simp only [Act.put, List.setIfInBounds_toArray, List.set_cons_zero, List.set_cons_succ]
  refine wpAnyH_take (i := 2) (oi := ⟨some 8, _, _, _, _, _⟩) (v := ?_) rfl (by kernel_rfl) (by kernel_rfl) (by kernel_rfl) (fun _ _ _ h => h) (Or.inl ⟨by kernel_rfl, ?hy2⟩) (by assumption) ?_
  case hy2 => (intro w' hSw; (try dsimp only at hSw); go_simp; try with_reducible rfl)
  simp only [Act.put, List.setIfInBounds_toArray, List.set_cons_zero, List.set_cons_succ]
  refine wpAnyH_take (i := 3) (oi := ⟨some 9, _, _, _, _, _⟩) (v := ?_) rfl (by kernel_rfl) (by kernel_rfl) (by kernel_rfl) (fun _ _ _ h => h) (Or.inl ⟨by kernel_rfl, ?hy3⟩) (by assumption) ?_
  case hy3 => (intro w' hSw; (try dsimp only at hSw); go_simp; try with_reducible rfl)
  simp only [Act.put, List.setIfInBounds_toArray, List.set_cons_zero, List.set_cons_succ]
  refine wpAnyH_take (i := 4) (oi := ⟨some 10, _, _, _, _, _⟩) (v := ?_) rfl (by kernel_rfl) (by kernel_rfl) (by kernel_rfl) (fun _ _ _ h => h) (Or.inl ⟨by kernel_rfl, ?hy4⟩) (by assumption) ?_
  case hy4 => (intro w' hSw; (try dsimp only at hSw); go_simp; try with_reducible rfl)
  simp only [Act.put, List.setIfInBounds_toArray, List.set_cons_zero, List.set_cons_succ]
  refine wpAnyH_ready (rs := [5]) (by kernel_rfl) (by simp) ?_
  refine AllReadyH.cons (o := ⟨some 11, _, _, _, _, _⟩) rfl (fun K hK => ?_) AllReadyH.nil
  (rw [if_pos (by kernel_rfl)])
  go_simp
  refine HD.out.mono ?_
  rintro e w3 ⟨rfl, ht⟩
  have hS := HSS.out w3 (by obtain ⟨_, _, ho, _⟩ := ht; exact ho)
  obtain ⟨Rl3, F3, h3, hs3⟩ := HL.out.log_at ht ⟨HL.out.ok.log.does x 0, (LN.does_lim _ _ _).trans HL.out.ok.lim, HL.out.ok.rt.does Hok.out 0, HL.out.ok.ring, HL.out.ok.rlim⟩
  have HB := Lib.hid (break_callsB w3 Rl3 g _ h3.log)
  have H3 := Lib.hid h3
  have HS3 := Lib.hid ((StepF.below O F HK.out).trans hs3)
  have y0 := h3.box.c 0 rfl
  clear ht h3 hs3 HD
  refine hK.out _ _ hS (fun hHeld => ?_)
  clear hK K
  refine wpAnyH_take (i := 6) (oi := ⟨some 5, _, _, _, _, _⟩) (v := ?_) rfl (by kernel_rfl) (by kernel_rfl) (by kernel_rfl) (fun _ _ _ h => h) (Or.inl ⟨by kernel_rfl, ?hy6⟩) (by assumption) ?_
  case hy6 => (intro w' hSw; (try dsimp only at hSw); go_simp; try with_reducible rfl)
  simp only [Act.put, List.setIfInBounds_toArray, List.set_cons_zero, List.set_cons_succ]
  refine wpAnyH_done (by kernel_rfl) ?_ _
  go_wp2_with fail
  refine HB.out.mono ?_
  rintro e w4 ⟨rfl, ht⟩
  have hto := H3.out.log_to ht ⟨H3.out.ok.log.brk, H3.out.ok.lim, H3.out.ok.rt.brk, H3.out.ok.ring, H3.out.ok.rlim⟩
  go_wp2
  go_ret
  exact ⟨rfl, HS3.out.tom hto⟩
set_option maxHeartbeats 2000000 in
theorem move_callsL (h : LineL w O F b s) (hsp : Spans w) (a : Nat) (ha : IsB s.buf.1 a) :
    Calls Tryz.prog 110 #[.pointer (some ⟨b, 0, none⟩), .int .i64 (a : Int)] w fun e w' => e = .returned (.tuple #[]) ∧ ToLn w O F w' b ⟨mvL s.log a, s.ring, s.last⟩ := by
  have HBuf := Lib.hid (buf_callsL w.drew O F b s (objLn.below h (Below.refl _ w).drew) (spans_below hsp (Below.refl _ w).drew))
  obtain ⟨g, r, Rl, Rr, h⟩ := h
  have hgl := h.log.lt g h.log.ins
  have hbl := h.box.lt
  have hbg := h.bg
  have c0 := h.box.c 0 rfl
  have HSS : Hid (∀ w', Below w.heap.size w.drew w' → w'.cell? ⟨b, 0, none⟩ = some (.pointer (some ⟨g, 0, none⟩))) := Lib.hid (fun w' hb => ((h.box.below (Below.refl _ w).drew).below hb).c 0 rfl)
  have HST : Hid (∀ w1 w', Below w.heap.size w.drew w1 → Only (fun k => k = g) w1 w' → w'.cell? ⟨b, 0, none⟩ = some (.pointer (some ⟨g, 0, none⟩))) := Lib.hid (fun w1 w' hb ho => (((h.box.below (Below.refl _ w).drew).below hb).keep ho hbg).c 0 rfl)
  have HL := Lib.hid (h.below (Below.refl _ w).drew)
  have hok := h.ok
  have Hok := Lib.hid (show Rt s.log.now.1 a from ⟨h.ok.rt.1.1, h.ok.rt.1.2.1, ha⟩)
  clear h hgl hbg ha hbl hok hsp
  generalize hbf : s.buf = bf at HBuf
  have hbf' : s.log.now = bf := hbf
  clear hbf
  go_enter Tryz.func110, Tryz.ntmps110
  go_upto_region 0 with fail
  refine wp_region_held_drew (S := (fun w' => w'.cell? ⟨b, 0, none⟩ = some (.pointer (some ⟨g, 0, none⟩)))) (by kernel_rfl) c0 (fun hHeld => ?_)
  refine wpAnyH_take (i := 0) (oi := ⟨some 4, _, _, _, _, _⟩) (v := ?_) rfl (by kernel_rfl) (by kernel_rfl) (by kernel_rfl) (fun _ _ _ h => h) (Or.inl ⟨by kernel_rfl, ?hy0⟩) (by assumption) ?_
  case hy0 => (intro w' hSw; (try dsimp only at hSw); go_simp; try with_reducible rfl)
  simp only [Act.put, List.setIfInBounds_toArray, List.set_cons_zero, List.set_cons_succ]
  refine wpAnyH_take (i := 1) (oi := ⟨some 5, _, _, _, _, _⟩) (v := ?_) rfl (by kernel_rfl) (by kernel_rfl) (by kernel_rfl) (fun _ _ _ h => h) (Or.inl ⟨by kernel_rfl, ?hy1⟩) (by assumption) ?_
  case hy1 => (intro w' hSw; (try dsimp only at hSw); go_simp; try with_reducible rfl)
  simp only [Act.put, List.setIfInBounds_toArray, List.set_cons_zero, List.set_cons_succ]
  refine wpAnyH_take (i := 2) (oi := ⟨some 6, _, _, _, _, _⟩) (v := ?_) rfl (by kernel_rfl) (by kernel_rfl) (by kernel_rfl) (fun _ _ _ h => h) (Or.inl ⟨by kernel_rfl, ?hy2⟩) (by assumption) ?_
  case hy2 => (intro w' hSw; (try dsimp only at hSw); go_simp; try with_reducible rfl)
  simp only [Act.put, List.setIfInBounds_toArray, List.set_cons_zero, List.set_cons_succ]
  refine wpAnyH_take (i := 3) (oi := ⟨some 7, _, _, _, _, _⟩) (v := ?_) rfl (by kernel_rfl) (by kernel_rfl) (by kernel_rfl) (fun _ _ _ h => h) (Or.inl ⟨by kernel_rfl, ?hy3⟩) (by assumption) ?_
  case hy3 => (intro w' hSw; (try dsimp only at hSw); go_simp; try with_reducible rfl)
  simp only [Act.put, List.setIfInBounds_toArray, List.set_cons_zero, List.set_cons_succ]
  refine wpAnyH_take (i := 4) (oi := ⟨some 8, _, _, _, _, _⟩) (v := ?_) rfl (by kernel_rfl) (by kernel_rfl) (by kernel_rfl) (fun _ _ _ h => h) (Or.inl ⟨by kernel_rfl, ?hy4⟩) (by assumption) ?_
  case hy4 => (intro w' hSw; (try dsimp only at hSw); go_simp; try with_reducible rfl)
  simp only [Act.put, List.setIfInBounds_toArray, List.set_cons_zero, List.set_cons_succ]
  refine wpAnyH_take (i := 7) (oi := ⟨some 11, _, _, _, _, _⟩) (v := ?_) rfl (by kernel_rfl) (by kernel_rfl) (by kernel_rfl) (fun _ _ _ h => h) (Or.inl ⟨by kernel_rfl, ?hy7⟩) (by assumption) ?_
  case hy7 => (intro w' hSw; (try dsimp only at hSw); go_simp; try with_reducible rfl)
  simp only [Act.put, List.setIfInBounds_toArray, List.set_cons_zero, List.set_cons_succ]
  refine wpAnyH_ready (rs := [5]) (by kernel_rfl) (by simp) ?_
  refine AllReadyH.cons (o := ⟨some 9, _, _, _, _, _⟩) rfl (fun K hK => ?_) AllReadyH.nil
  (rw [if_pos (by kernel_rfl)])
  go_simp
  refine HBuf.out.mono ?_
  rintro e w3 ⟨rfl, hb3⟩
  have H3 := Lib.hid (HL.out.below hb3)
  have HB3 : Hid (Below w.heap.size w w3) := Lib.hid ((Below.refl _ w).drew.trans hb3)
  have HS3 := Lib.hid (HST.out w3 · hb3)
  have hS := HSS.out w3 hb3
  have HM := Lib.hid (move_callsB w3 Rl g s.log H3.out.log (s.log.now.1, a))
  have Hok3 := Lib.hid hb3
  rw [hbf'] at HM
  have fb := field_buf0L (.string (bs bf.1)) (.int .i64 (bf.2 : Int))
  unfold bufV at HM
  dsimp only at HM
  clear hb3 HBuf
  refine hK.out _ _ hS (fun hHeld => ?_)
  clear hK K
  refine wpAnyH_take (i := 6) (oi := ⟨some 10, _, _, _, _, _⟩) (v := ?_) rfl (by kernel_rfl) (by kernel_rfl) (by kernel_rfl) (fun _ _ _ h => h) (Or.inl ⟨by kernel_rfl, ?hy6⟩) (by assumption) ?_
  case hy6 => (intro w' hSw; (try dsimp only at hSw); go_simp; try with_reducible rfl)
  simp only [Act.put, List.setIfInBounds_toArray, List.set_cons_zero, List.set_cons_succ]
  refine wpAnyH_take (i := 8) (oi := ⟨some 12, _, _, _, _, _⟩) (v := ?_) rfl (by kernel_rfl) (by kernel_rfl) (by kernel_rfl) (fun _ _ _ h => h) (Or.inl ⟨by kernel_rfl, ?hy8⟩) (by assumption) ?_
  case hy8 => (intro w' hSw; (try dsimp only at hSw); go_simp; try with_reducible rfl)
  simp only [Act.put, List.setIfInBounds_toArray, List.set_cons_zero, List.set_cons_succ]
  refine wpAnyH_ready (rs := [9]) (by kernel_rfl) (by simp) ?_
  refine AllReadyH.cons (o := ⟨some 13, _, _, _, _, _⟩) rfl (fun K hK => ?_) AllReadyH.nil
  (rw [if_pos (by kernel_rfl)])
  go_simp
  refine HM.out.mono ?_
  rintro e w4 ⟨rfl, ht⟩
  have hT := HST.out w3 w4 Hok3.out (by obtain ⟨_, _, ho, _⟩ := ht; exact ho)
  rw [← hbf'] at ht
  obtain ⟨Rl4, F4, h4, hs4⟩ := H3.out.log_at ht ⟨H3.out.ok.log.move _, H3.out.ok.lim, H3.out.ok.rt.move Hok.out, H3.out.ok.ring, H3.out.ok.rlim⟩
  have HB := Lib.hid (break_callsB w4 Rl4 g _ h4.log)
  have H4 := Lib.hid h4
  have HS4 := Lib.hid ((StepF.below O F HB3.out).trans hs4)
  have y0 := h4.box.c 0 rfl
  clear ht h4 hs4 HM
  refine hK.out _ _ hT (fun hHeld => ?_)
  clear hK K
  refine wpAnyH_done (by kernel_rfl) ?_ _
  go_wp2_with fail
  refine HB.out.mono ?_
  rintro e w5 ⟨rfl, ht⟩
  have hto := H4.out.log_to ht ⟨H4.out.ok.log.brk, H4.out.ok.lim, H4.out.ok.rt.brk, H4.out.ok.ring, H4.out.ok.rlim⟩
  go_wp2
  go_end0
  exact ⟨rfl, HS4.out.tom hto⟩
end
end
section
open Go Go.RowKit
set_option maxHeartbeats 2000000 in
theorem prev_calls (l : List UInt8) (n : Int) (hl : l.length ≤ 137438953472) (w : World) (hsp : Spans w) :
    Calls Tryz.prog 15 #[.string (bs l), .int .i64 n] w fun e w' => e = .returned (.int .i64 (prvL (mS l) (mA l n) : Int)) ∧ Below w.heap.size w w' := by
  have HM := Lib.hid (fun W h => make_calls l n hl W h)
  have ha := mA_le l n
  have hms := mS_len l
  have HB := Lib.hid (fun W h => back_calls (mS l) ((mA l n : Int) - 1) (by omega) W h)
  have HiA : Hid (backL (mS l) ((mA l n : Int) - 1) = prvL (mS l) (mA l n)) := Lib.hid rfl
  rw [HiA.out] at HB
  clear HiA
  generalize prvL (mS l) (mA l n) = x at *
  generalize mA l n = a at *
  generalize mS l = m at *
  have hw1 : IntKind.i64.wrap ((a : Int) - 1) = (a : Int) - 1 := IntWalk.i64_in _ (by omega)
  have Hsp := Lib.hid hsp
  clear hsp
  go_enter Tryz.func15, Tryz.ntmps15
  go_wp2_with fail
  refine (HM.out _ Hsp.out).mono ?_
  rintro e w1 ⟨rfl, hb1⟩
  have b1 := Bx.new w1 43 (.string (bs m)) (.int .i64 (a : Int))
  have c10 := b1.c0
  have c11 := b1.c1
  have k1 : Below w.heap.size w (w1.alloc (.cells #[.string (bs m), .int .i64 (a : Int)] 43)) := hb1.alloc hb1.size _
  have K1 := Lib.hid k1
  clear hb1 b1 k1
  go_wp2_with fail
  refine (HB.out _ (spans_below Hsp.out K1.out)).mono ?_
  rintro e w2 ⟨rfl, hb2⟩
  have k2 := K1.out.trans (hb2.mono K1.out.size)
  go_wp2
  go_ret
  exact ⟨rfl, k2⟩
set_option maxHeartbeats 2000000 in
theorem next_callsT (l : List UInt8) (n : Int) (hl : l.length ≤ 137438953472) (w : World) (hsp : Spans w) :
    Calls Tryz.prog 16 #[.string (bs l), .int .i64 n] w fun e w' => e = .returned (.int .i64 (nxtL (mS l) (mA l n) : Int)) ∧ Below w.heap.size w w' := by
  have HM := Lib.hid (fun W h => make_calls l n hl W h)
  have ha := mA_le l n
  have hms := mS_len l
  have HB := Lib.hid (fun W h => on_calls (mS l) ((mA l n : Int) + 1) (by omega) W h)
  have HiA : Hid (onL (mS l) ((mA l n : Int) + 1) = nxtL (mS l) (mA l n)) := Lib.hid rfl
  rw [HiA.out] at HB
  clear HiA
  generalize nxtL (mS l) (mA l n) = x at *
  generalize mA l n = a at *
  generalize mS l = m at *
  have hw1 : IntKind.i64.wrap ((a : Int) + 1) = (a : Int) + 1 := IntWalk.i64_in _ (by omega)
  have Hsp := Lib.hid hsp
  clear hsp
  go_enter Tryz.func16, Tryz.ntmps16
  go_wp2_with fail
  refine (HM.out _ Hsp.out).mono ?_
  rintro e w1 ⟨rfl, hb1⟩
  have b1 := Bx.new w1 43 (.string (bs m)) (.int .i64 (a : Int))
  have c10 := b1.c0
  have c11 := b1.c1
  have k1 : Below w.heap.size w (w1.alloc (.cells #[.string (bs m), .int .i64 (a : Int)] 43)) := hb1.alloc hb1.size _
  have K1 := Lib.hid k1
  clear hb1 b1 k1
  go_wp2_with fail
  refine (HB.out _ (spans_below Hsp.out K1.out)).mono ?_
  rintro e w2 ⟨rfl, hb2⟩
  have k2 := K1.out.trans (hb2.mono K1.out.size)
  go_wp2
  go_ret
  exact ⟨rfl, k2⟩
end
section
open Go Go.RowKit
theorem nextL_bound (c : List UInt8) : (nextL c).1 ≤ 1114111 := by
  by_cases h : c = []
  · subst h; simp [nextL_nil]
  · have e : nextL c = Lib.decodeL c := by simp [nextL, h]
    have hv := decodeL_valid c
    rw [e]
    unfold Valid at hv
    omega
set_option maxHeartbeats 2000000 in
theorem isWord_calls (c : List UInt8) (hl : c.length ≤ 1099511627776) (w : World) :
    Calls Tryz.prog 92 #[.string (bs c)] w fun e w' => e = .returned (.bool (wordL c)) ∧ Below w.heap.size w w' := by
  have hs6 := Lib.run_convert_string_bytes (P := Tryz.prog) w 9 81 5 (bs c) Tryz.underlying9 Tryz.underlying81 Tryz.underlying5
  have hsz := bs_size c
  have kw := below_bytes w 5 ⟨c.toArray⟩
  have Hn := Lib.hid (next_calls _ (grownCap w c.length 0 5) c _ (byt_bytes w c) (grownCap_ge w c.length 0 5) (grownCap_le_maxLen w c.length 0 5 (by unfold maxLen; omega)))
  have hb := nextL_bound c
  have Hw : Hid (wordL c = wordR ((nextL c).1 : Int)) := Lib.hid rfl
  have Hkw := Lib.hid kw
  clear kw
  generalize (nextL c).1 = r at *
  generalize (nextL c).2 = z at *
  generalize wordL c = q at *
  go_enter Tryz.func92, Tryz.ntmps92
  go_wp2_with fail
  refine Hn.out.mono ?_
  rintro e w1 ⟨rfl, hb1⟩
  have Hk := Lib.hid (Hkw.out.trans (hb1.mono Hkw.out.size))
  clear hb1 hs6
  go_wp2
  all_goals
    go_ret
    refine ⟨?_, Hk.out⟩
    rw [Hw.out]
    refine congrArg (fun b : Bool => Ending.returned (Value.bool b)) ?_
    apply Bool.eq_iff_iff.2
    simp only [wordR, Bool.or_eq_true, decide_eq_true_eq, beq_iff_eq]
    first | omega | (refine ⟨fun _ => ?_, fun _ => trivial⟩; omega)
theorem skip_yes (q : Bool) (cs : List (List UInt8)) (k : Nat) (hk : k < cs.length) (h : wordL (cs.getD k []) = q) : skipN q (cs.drop k) = skipN q (cs.drop (k + 1)) + 1 := by
  have e : cs.drop k = cs.getD k [] :: cs.drop (k + 1) := by
    rw [List.drop_eq_getElem_cons hk]; simp [List.getD, hk]
  rw [e]
  conv => lhs; unfold skipN
  rw [if_pos h]
theorem skip_no (q : Bool) (cs : List (List UInt8)) (k : Nat) (hk : k < cs.length) (h : wordL (cs.getD k []) ≠ q) : skipN q (cs.drop k) = 0 := by
  have e : cs.drop k = cs.getD k [] :: cs.drop (k + 1) := by
    rw [List.drop_eq_getElem_cons hk]; simp [List.getD, hk]
  rw [e]
  unfold skipN
  rw [if_neg h]
theorem skip_end (q : Bool) (cs : List (List UInt8)) (k : Nat) (hk : ¬ k < cs.length) : skipN q (cs.drop k) = 0 := by
  rw [List.drop_of_length_le (by omega)]; rfl
/-- Does the next cluster go on? -/
def nxtB (cs : List (List UInt8)) (k : Nat) (q : Bool) : Bool := decide (k < cs.length) && (wordL (cs.getD k []) == q)
set_option maxHeartbeats 2000000 in
theorem nextIs_calls (q : Bool) (gn gc : Nat) (A : Option Addr) (c : Nat) (cs : List (List UInt8)) (k : Nat) (w : World) (hn : Boxed w gn 3 (.int .i64 (k : Int))) (hc : Boxed w gc 30 (.slice A cs.length c)) (hR : RdS w A (cs.map bs)) (hk : k ≤ cs.length) (hm : cs.flatten.length ≤ 1099511627776) :
    Calls Tryz.prog 91 #[.bool q, .pointer (some ⟨gn, 0, none⟩), .pointer (some ⟨gc, 0, none⟩)] w fun e w' => e = .returned (.bool (nxtB cs k q)) ∧ Below w.heap.size w w' := by
  have cn := hn.cell
  have cc := hc.cell
  by_cases hlt : k < cs.length
  · have hd : decide ((k : Int) < (cs.length : Int)) = true := decide_eq_true (by omega)
    have hq : nxtB cs k q = (wordL (cs.getD k []) == q) := by unfold nxtB; rw [decide_eq_true hlt]; rfl
    rw [hq]
    obtain ⟨g, o, rfl, hg, hcell⟩ := rdS_at hR (by omega)
    have ck := hcell k hlt
    have hlen : (cs.getD k []).length ≤ 1099511627776 := by
      have h1 := pos_succ cs k hlt
      have h2 := pos_le cs (k + 1)
      omega
    have HW := Lib.hid (fun W => isWord_calls (cs.getD k []) hlen W)
    have hkl : (k : Int) < (cs.length : Int) := by omega
    clear hR hcell hq hlen
    generalize wordL (cs.getD k []) = b at *
    generalize cs.getD k [] = d at *
    go_enter Tryz.func91, Tryz.ntmps91
    go_wp2_with fail
    refine (HW.out _).mono ?_
    rintro e w1 ⟨rfl, hb1⟩
    go_wp2
    go_ret
    exact ⟨rfl, hb1⟩
  · have hd : decide ((k : Int) < (cs.length : Int)) = false := decide_eq_false (by omega)
    have hq : nxtB cs k q = false := by unfold nxtB; rw [decide_eq_false hlt]; rfl
    rw [hq]
    go_enter Tryz.func91, Tryz.ntmps91
    go_wp2
    go_ret
    exact ⟨rfl, Below.refl _ _⟩
/-- The number that lies in a box. -/
def numAt (w : World) (g : Nat) : Nat := match w.cell? ⟨g, 0, none⟩ with | some (.int _ z) => z.toNat | _ => 0
theorem numAt_of {w : World} {g : Nat} {t : TypeId} {k : Nat} (h : Boxed w g t (.int .i64 (k : Int))) : numAt w g = k := by
  unfold numAt; rw [h.cell]; simp
/-- What stands at a round's head. -/
def ThrAt (w : World) (A : Option Addr) (c : Nat) (cs : List (List UInt8)) (v5 : Value) (wr : World) (k : Nat) : Prop :=
  v5 = .int .i64 (pos cs k : Int) ∧ k ≤ cs.length ∧ Boxed wr (w.heap.size + 1) 3 (.int .i64 (k : Int)) ∧ Boxed wr w.heap.size 30 (.slice A cs.length c) ∧ Below w.heap.size w wr
set_option maxHeartbeats 8000000 in
theorem through_calls (A : Option Addr) (c : Nat) (cs : List (List UInt8)) (w : World) (hR : RdS w A (cs.map bs)) (hm : cs.flatten.length ≤ 1099511627776) (hn : cs.length ≤ 1099511627776) :
    Calls Tryz.prog 42 #[.slice A cs.length c] w fun e w' => e = .returned (.int .i64 (thrL cs : Int)) ∧ Below w.heap.size w w' := by
  have hK : Hid (thrL cs = pos cs (skipN false cs + skipN true (cs.drop (skipN false cs)))) := Lib.hid rfl
  have b0 := (Boxed.new w 30 (.slice A cs.length c)).alloc (.cells #[.int .i64 0] 3)
  have n0 := Boxed.new (w.alloc (.cells #[.slice A cs.length c] 30)) 3 (.int .i64 0)
  rw [World.size_alloc] at n0
  have k0 : Below w.heap.size w ((w.alloc (.cells #[.slice A cs.length c] 30)).alloc (.cells #[.int .i64 0] 3)) := ((Below.refl _ w).alloc (Nat.le_refl _) _).alloc (by simp) _
  have HR := Lib.hid hR
  have B0 := Lib.hid b0
  have N0 := Lib.hid n0
  have K0 := Lib.hid k0
  clear hR b0 n0 k0
  go_enter Tryz.func42, Tryz.ntmps42
  go_wp2_with fail
  go_loopw [5] (fun v5 wr => ∃ k, ThrAt w A c cs v5 wr k ∧ Hid (k + skipN false (cs.drop k) = skipN false cs)) (fun _ wr => cs.length - numAt wr (w.heap.size + 1))
  case atStart => exact ⟨0, ⟨rfl, Nat.zero_le _, N0.out, B0.out, K0.out⟩, Lib.hid (by simp)⟩
  case round =>
    obtain ⟨k, ⟨rfl, hk, hnx, hcl, hbel⟩, hinv⟩ := hrel
    have HC := Lib.hid (nextIs_calls false (w.heap.size + 1) w.heap.size A c cs k wr hnx hcl (HR.out.below hbel) hk hm)
    have hnum := Lib.hid (numAt_of hnx)
    cases hb : nxtB cs k false with
    | true =>
      rw [hb] at HC
      have hlt : k < cs.length := by
        unfold nxtB at hb
        simp only [Bool.and_eq_true, decide_eq_true_eq] at hb
        exact hb.1
      have hwd : wordL (cs.getD k []) = false := by
        unfold nxtB at hb
        simp only [Bool.and_eq_true, beq_iff_eq] at hb
        exact hb.2
      have hps := Lib.hid (pos_succ cs k hlt)
      have hple := pos_le cs (k + 1)
      rw [hps.out] at hple
      have hsk := Lib.hid (skip_yes false cs k hlt hwd)
      obtain ⟨g, o, rfl, hg, hcell⟩ := rdS_at HR.out (by omega)
      have hckw := hcell k hlt
      have hsz := bs_size (cs.getD k [])
      have Hnx := Lib.hid hnx
      have Hcl := Lib.hid hcl
      have Hbel := Lib.hid hbel
      have Hckw := Lib.hid hckw
      have hkl : (k : Int) < (cs.length : Int) := by omega
      have hw1 : IntKind.i64.wrap ((k : Int) + 1) = (k : Int) + 1 := IntWalk.i64_in _ (by omega)
      clear hb hwd hcell hckw hnx hcl hbel
      generalize cs.getD k [] = d at *
      generalize hp0 : pos cs k = p0 at *
      have hw2 : IntKind.i64.wrap ((p0 : Int) + (d.length : Int)) = (p0 : Int) + (d.length : Int) := IntWalk.i64_in _ (by omega)
      clear hp0
      go_wp2_with fail
      refine HC.out.mono ?_
      rintro e w1 ⟨rfl, hb1⟩
      have nx1 : Boxed w1 (w.heap.size + 1) 3 (.int .i64 (k : Int)) := (hb1.block _ Hnx.out.lt).trans Hnx.out
      have cl1 : Boxed w1 w.heap.size 30 (.slice (some ⟨g, o, none⟩) cs.length c) := (hb1.block _ Hcl.out.lt).trans Hcl.out
      have be1 : Below w.heap.size w w1 := Hbel.out.trans (hb1.mono Hbel.out.size)
      have cn1 := nx1.cell
      have fn1 := nx1.frozen
      have cc1 := cl1.cell
      have ce1 : w1.cell? ⟨g, o + k, none⟩ = some (.string (bs d)) := by rw [be1.cell (p := ⟨g, o + k, none⟩) hg]; exact Hckw.out
      have Nx1 := Lib.hid (nx1.set (.int .i64 ((k : Int) + 1)))
      have Cl1 := Lib.hid (cl1.other (show w.heap.size ≠ w.heap.size + 1 by omega) (.int .i64 ((k : Int) + 1)))
      have Be1 := Lib.hid (be1.setCell (p := ⟨w.heap.size + 1, 0, none⟩) (Nat.le_succ _) (.int .i64 ((k : Int) + 1)))
      clear hb1 nx1 cl1 be1
      go_wp2
      go_roundw
      case rel =>
        refine ⟨k + 1, ⟨by rw [hps.out]; go_num, by omega, by simpa using Nx1.out, Cl1.out, Be1.out⟩, Lib.hid ?_⟩
        have := hinv.out
        rw [hsk.out] at this
        omega
      case measure =>
        have hn1 : numAt (w1.setCell ⟨w.heap.size + 1, 0, none⟩ (.int .i64 ((k : Int) + 1))) (w.heap.size + 1) = k + 1 := numAt_of (t := 3) (by simpa using Nx1.out)
        rw [hn1, hnum.out]; omega
    | false =>
      rw [hb] at HC
      have hsk : Hid (skipN false (cs.drop k) = 0) := Lib.hid (by
        by_cases hlt : k < cs.length
        · refine skip_no false cs k hlt fun h => ?_
          unfold nxtB at hb
          rw [decide_eq_true hlt, h] at hb
          simp at hb
        · exact skip_end false cs k hlt)
      have Hnx := Lib.hid hnx
      have Hcl := Lib.hid hcl
      have Hbel := Lib.hid hbel
      have Hk := Lib.hid hk
      clear hb hnx hcl hbel hk
      generalize hp0 : pos cs k = p0 at *
      have Hp0 := Lib.hid hp0
      clear hp0
      go_wp2_with fail
      refine HC.out.mono ?_
      rintro e w1 ⟨rfl, hb1⟩
      have nx1 : Boxed w1 (w.heap.size + 1) 3 (.int .i64 (k : Int)) := (hb1.block _ Hnx.out.lt).trans Hnx.out
      have cl1 : Boxed w1 w.heap.size 30 (.slice A cs.length c) := (hb1.block _ Hcl.out.lt).trans Hcl.out
      have be1 : Below w.heap.size w w1 := Hbel.out.trans (hb1.mono Hbel.out.size)
      have Nx1 := Lib.hid nx1
      have Cl1 := Lib.hid cl1
      have Be1 := Lib.hid be1
      clear hb1 nx1 cl1 be1
      go_wp2_with fail
      go_loopw [5] (fun v5 wr => ∃ k, ThrAt w A c cs v5 wr k ∧ Hid (k + skipN true (cs.drop k) = skipN false cs + skipN true (cs.drop (skipN false cs)))) (fun _ wr => cs.length - numAt wr (w.heap.size + 1))
      case atStart => exact ⟨k, ⟨by rw [Hp0.out], Hk.out, Nx1.out, Cl1.out, Be1.out⟩, Lib.hid (by have h1 := hinv.out; rw [hsk.out, Nat.add_zero] at h1; rw [h1])⟩
      case round =>
        obtain ⟨k, ⟨rfl, hk, hnx, hcl, hbel⟩, hinv⟩ := hrel
        have HC := Lib.hid (nextIs_calls true (w.heap.size + 1) w.heap.size A c cs k wr hnx hcl (HR.out.below hbel) hk hm)
        have hnum := Lib.hid (numAt_of hnx)
        cases hb : nxtB cs k true with
        | true =>
          rw [hb] at HC
          have hlt : k < cs.length := by
            unfold nxtB at hb
            simp only [Bool.and_eq_true, decide_eq_true_eq] at hb
            exact hb.1
          have hwd : wordL (cs.getD k []) = true := by
            unfold nxtB at hb
            simp only [Bool.and_eq_true, beq_iff_eq] at hb
            exact hb.2
          have hps := Lib.hid (pos_succ cs k hlt)
          have hple := pos_le cs (k + 1)
          rw [hps.out] at hple
          have hsk := Lib.hid (skip_yes true cs k hlt hwd)
          obtain ⟨g, o, rfl, hg, hcell⟩ := rdS_at HR.out (by omega)
          have hckw := hcell k hlt
          have hsz := bs_size (cs.getD k [])
          have Hnx := Lib.hid hnx
          have Hcl := Lib.hid hcl
          have Hbel := Lib.hid hbel
          have Hckw := Lib.hid hckw
          have hkl : (k : Int) < (cs.length : Int) := by omega
          have hw1 : IntKind.i64.wrap ((k : Int) + 1) = (k : Int) + 1 := IntWalk.i64_in _ (by omega)
          clear hb hwd hcell hckw hnx hcl hbel
          generalize cs.getD k [] = d at *
          generalize hp0 : pos cs k = p0 at *
          have hw2 : IntKind.i64.wrap ((p0 : Int) + (d.length : Int)) = (p0 : Int) + (d.length : Int) := IntWalk.i64_in _ (by omega)
          clear hp0
          go_wp2_with fail
          refine HC.out.mono ?_
          rintro e w1 ⟨rfl, hb1⟩
          have nx1 : Boxed w1 (w.heap.size + 1) 3 (.int .i64 (k : Int)) := (hb1.block _ Hnx.out.lt).trans Hnx.out
          have cl1 : Boxed w1 w.heap.size 30 (.slice (some ⟨g, o, none⟩) cs.length c) := (hb1.block _ Hcl.out.lt).trans Hcl.out
          have be1 : Below w.heap.size w w1 := Hbel.out.trans (hb1.mono Hbel.out.size)
          have cn1 := nx1.cell
          have fn1 := nx1.frozen
          have cc1 := cl1.cell
          have ce1 : w1.cell? ⟨g, o + k, none⟩ = some (.string (bs d)) := by rw [be1.cell (p := ⟨g, o + k, none⟩) hg]; exact Hckw.out
          have Nx1 := Lib.hid (nx1.set (.int .i64 ((k : Int) + 1)))
          have Cl1 := Lib.hid (cl1.other (show w.heap.size ≠ w.heap.size + 1 by omega) (.int .i64 ((k : Int) + 1)))
          have Be1 := Lib.hid (be1.setCell (p := ⟨w.heap.size + 1, 0, none⟩) (Nat.le_succ _) (.int .i64 ((k : Int) + 1)))
          clear hb1 nx1 cl1 be1
          go_wp2
          go_roundw
          case rel =>
            refine ⟨k + 1, ⟨by rw [hps.out]; go_num, by omega, by simpa using Nx1.out, Cl1.out, Be1.out⟩, Lib.hid ?_⟩
            have := hinv.out
            rw [hsk.out] at this
            omega
          case measure =>
            have hn1 : numAt (w1.setCell ⟨w.heap.size + 1, 0, none⟩ (.int .i64 ((k : Int) + 1))) (w.heap.size + 1) = k + 1 := numAt_of (t := 3) (by simpa using Nx1.out)
            rw [hn1, hnum.out]; omega
        | false =>
          rw [hb] at HC
          have hsk : Hid (skipN true (cs.drop k) = 0) := Lib.hid (by
            by_cases hlt : k < cs.length
            · refine skip_no true cs k hlt fun h => ?_
              unfold nxtB at hb
              rw [decide_eq_true hlt, h] at hb
              simp at hb
            · exact skip_end true cs k hlt)
          have Hnx := Lib.hid hnx
          have Hcl := Lib.hid hcl
          have Hbel := Lib.hid hbel
          have Hk := Lib.hid hk
          clear hb hnx hcl hbel hk
          generalize hp0 : pos cs k = p0 at *
          have Hp0 := Lib.hid hp0
          clear hp0
          go_wp2_with fail
          refine HC.out.mono ?_
          rintro e w1 ⟨rfl, hb1⟩
          have be1 : Below w.heap.size w w1 := Hbel.out.trans (hb1.mono Hbel.out.size)
          have He : Hid (thrL cs = p0) := Lib.hid (by
            have h1 := hinv.out
            rw [hsk.out] at h1
            rw [hK.out, ← h1, ← Hp0.out]; rfl)
          clear hb1
          go_wp2
          go_ret
          exact ⟨by rw [He.out]; rfl, be1⟩
end
end Go.Proofs.YtoaponaljkhlfaaGreatDoor
