/-
  Layer 7 and what it stands on, part 11 (RingS PushS ChangeS).
-/
import Derived.Test.YtoaponaljkhlfaaGreatDoorPz9
import Derived.WalkKit
import Derived.BigQuiet
import Derived.IntWalk
namespace Go.Proofs.YtoaponaljkhlfaaGreatDoor
section
open Go Go.RowKit
open Go.Lib (hid)
set_option maxRecDepth 100000
abbrev RingS (w : World) (R : Nat → Prop) (b : Nat) (s : RS ByteArray) : Prop := RingAt (Value.string) 9 98 w R b s
abbrev RingToS (w : World) (R : Nat → Prop) (w' : World) (b : Nat) (s : RS ByteArray) : Prop := RingTo (Value.string) 9 98 w R w' b s
set_option maxHeartbeats 1000000 in
theorem new_callsS (n : Int) (w : World) :
  Calls Tryz.prog 25 #[.int .i64 n] w fun e w' => e = .returned (.pointer (some ⟨w.heap.size, 0, none⟩)) ∧ w.alloc (.cells #[.int .i64 (limOf n : Int), .slice none 0 0, .int .i64 0] 98) = w' := by
 have hl : min (max n 1) 64 = (limOf n : Int) := by unfold limOf; omega
 go_enter Tryz.func25, Tryz.ntmps25
 go_wp2
 all_goals go_ret
 ·exact ⟨rfl, by rw [show (limOf n : Int) = 1 by omega]⟩
 ·exact ⟨rfl, by rw [show (limOf n : Int) = 64 by omega]⟩
 ·exact ⟨rfl, by rw [show (limOf n : Int) = n by omega]⟩
theorem newRingS (n : Int) (w : World) : RingS (w.alloc (.cells #[.int .i64 (limOf n : Int), .slice none 0 0, .int .i64 0] 98)) (fun k => k = w.heap.size) w.heap.size (RS.new n) :=
 ⟨RS.Ok.new n, rfl, fun k hk => by subst hk; simp, .slice none 0 0, World.alloc_heap_new w _, World.ownsRow_nil _ _ _ _, fun g hg => by cases hg⟩
theorem ne_ringS : (9 : TypeId) ≠ 98 := by decide
set_option maxHeartbeats 1000000 in
theorem home_callsS (w : World) (R : Nat → Prop) (b : Nat) (s : RS ByteArray) (h : RingS w R b s) :
  Calls Tryz.prog 113 #[.pointer (some ⟨b, 0, none⟩)] w fun e w' => e = .returned (.tuple #[]) ∧ RingToS w R w' b s.home := by
 obtain ⟨A, c, hb, hown, hin, hrd, hlc, hcm, hA⟩ := h.open_
 have c2 := Bx3.c2 hb
 have f2 := Bx3.f2 hb
 have Hs := hid (ring_stand ne_ringS h 0 h.ok.home)
 clear hb hrd hown h hin
 go_enter Tryz.func113, Tryz.ntmps113
 go_wp2
 go_end0
 exact ⟨rfl, Hs.out⟩
set_option maxHeartbeats 1000000 in
theorem top_callsS (w : World) (R : Nat → Prop) (b : Nat) (s : RS ByteArray) (h : RingS w R b s) :
  Calls Tryz.prog 114 #[.pointer (some ⟨b, 0, none⟩)] w fun e w' => e = .returned (.tuple #[Value.string (s.l.getD s.i ⟨#[]⟩), .bool (decide (0 < s.l.length))]) ∧ Below w.heap.size w w' := by
 obtain ⟨A, c, hb, hown, hin, hrd, hlc, hcm, hA⟩ := h.open_
 have c1 := Bx3.c1 hb
 have c2 := Bx3.c2 hb
 have hat := h.ok.at_
 have hle := h.ok.le
 have hln := h.ok.len
 clear hb hown hin h
 by_cases h0 : s.l.length = 0
 ·have e0 : s.l = [] := List.eq_nil_of_length_eq_zero h0
  have He : Hid (Value.string (s.l.getD s.i ⟨#[]⟩) = .string ⟨#[]⟩ ∧ decide (0 < s.l.length) = false) := hid (by rw [e0]; exact ⟨rfl, rfl⟩)
  rw [h0] at c1
  clear e0 hat hle hln hlc hrd
  go_enter Tryz.func114, Tryz.ntmps114
  go_wp2
  go_ret2
  rw [He.out.1, He.out.2]
  exact ⟨rfl, Below.refl _ _⟩
 ·obtain ⟨g, o, rfl, hg, hc⟩ := hrd.at_ (by omega)
  have hi : s.i < s.l.length := hat.resolve_right fun h1 => by rw [h1.2] at h0; exact h0 rfl
  have hx : s.l[s.i]? = some (s.l.getD s.i ⟨#[]⟩) := by rw [List.getD_eq_getElem?_getD, List.getElem?_eq_getElem hi]; rfl
  have ck := hc _ _ hx
  have Hd : Hid (decide (0 < s.l.length) = true) := hid (decide_eq_true (by omega))
  have hi' : (s.i : Int) < (s.l.length : Int) := by omega
  have h0' : ((s.l.length : Int) == 0) = false := beq_eq_false_iff_ne.2 (by omega)
  clear hc hx hat hlc
  generalize s.l.getD s.i ⟨#[]⟩ = x at *
  generalize s.l.length = n at *
  generalize s.i = i at *
  go_enter Tryz.func114, Tryz.ntmps114
  go_wp2
  go_quiet (fail)
  go_wp2
  go_ret2
  rw [Hd.out]
  exact ⟨rfl, bel_drewK (Below.refl _ _) _⟩
set_option maxHeartbeats 1000000 in
theorem turn_callsS (w : World) (R : Nat → Prop) (b : Nat) (s : RS ByteArray) (h : RingS w R b s) :
  Calls Tryz.prog 116 #[.pointer (some ⟨b, 0, none⟩)] w fun e w' => e = .returned (.tuple #[Value.string (s.l.getD s.turn.i ⟨#[]⟩), .bool (decide (0 < s.l.length))]) ∧ RingToS w R w' b s.turn := by
 obtain ⟨A, c, hb, hown, hin, hrd, hlc, hcm, hA⟩ := h.open_
 have c1 := Bx3.c1 hb
 have c2 := Bx3.c2 hb
 have f2 := Bx3.f2 hb
 have hle := h.ok.le
 have hln := h.ok.len
 by_cases h0 : s.l.length = 0
 ·have e0 : s.l = [] := List.eq_nil_of_length_eq_zero h0
  have hi0 : s.i = 0 := (h.ok.at_.resolve_left (by omega)).1
  have e1 : s.turn = s := by
   obtain ⟨lim, l, i⟩ := s
   simp only at e0 hi0
   subst e0; subst hi0
   rfl
  have He : Hid (Value.string (s.l.getD s.i ⟨#[]⟩) = .string ⟨#[]⟩ ∧ decide (0 < s.l.length) = false) := hid (by rw [e0]; exact ⟨rfl, rfl⟩)
  have Ht := hid (top_callsS w R b s h)
  have HR := hid h
  rw [h0] at c1
  rw [e1]
  clear e0 hi0 e1 hb hown hin hrd hlc hle hln h
  have hd : decide ((0 : Int) < 0) = false := rfl
  go_enter Tryz.func116, Tryz.ntmps116
  go_wp2_with fail
  refine Ht.out.mono ?_
  rintro e w' ⟨rfl, hb⟩
  go_wp2
  go_ret2
  rw [He.out.1, He.out.2]
  exact ⟨rfl, R, HR.out.below hb, Only.of_below hb, fun _ h => .inl h⟩
 ·have hm := RS.turn_mod h.ok (by omega)
  have hi : s.i < s.l.length := h.ok.at_.resolve_right fun h1 => by rw [h1.2] at h0; exact h0 rfl
  have Hs := hid (ring_stand ne_ringS h s.turn.i h.ok.turn)
  have hgt : decide ((0 : Int) < (s.l.length : Int)) = true := decide_eq_true (by omega)
  have hn0 : ((s.l.length : Int) == 0) = false := beq_eq_false_iff_ne.2 (by omega)
  have ha : IntKind.i64.wrap ((s.i : Int) + 1) = (s.i : Int) + 1 := IntWalk.i64_in _ (by omega)
  have hr : ((s.i : Int) + 1).tmod (s.l.length : Int) = (s.turn.i : Int) := by rw [hm]; rfl
  have Hz : Hid (decide (0 < s.l.length) = true) := hid (decide_eq_true (by omega))
  have hlt : s.turn.i < 64 := by rcases h.ok.turn.at_ with h1 | h1 <;> (simp only [RS.turn] at *; omega)
  have hww : IntKind.i64.wrap ((s.turn.i : Nat) : Int) = ((s.turn.i : Nat) : Int) := IntWalk.i64_in _ (by omega)
  clear hb hown hin hrd hlc h hm
  go_enter Tryz.func116, Tryz.ntmps116
  go_wp2_with fail
  go_region
  have Hs2 : Hid (RingToS w R (w.setCell ⟨b, 2, none⟩ (.int .i64 (s.turn.i : Int))).drew b s.turn) := hid Hs.out.drew
  obtain ⟨R', hr', _, _⟩ := Hs2.out
  have Ht := hid (top_callsS _ R' b _ hr')
  clear hr' Hs c1 c2 f2 hr ha hww
  go_wp2_with fail
  refine Ht.out.mono ?_
  rintro e w2 ⟨rfl, hb2⟩
  go_wp2
  go_ret2
  exact ⟨rfl, Hs2.out.below hb2⟩
end
section
open Go Go.RowKit
open Go.Lib (hid)
set_option maxRecDepth 100000
theorem infoSV : (Tryz.prog.info? 9).map (fun i => (i.zero, i.size, i.bytes)) = some (some (.string ⟨#[]⟩), 1, 16) := by kernel_rfl
set_option maxHeartbeats 2000000 in
theorem push_callsS (w : World) (R : Nat → Prop) (b : Nat) (s : RS ByteArray) (h : RingS w R b s) (x : ByteArray) :
  Calls Tryz.prog 139 #[.pointer (some ⟨b, 0, none⟩), Value.string x] w fun e w' => e = .returned (.tuple #[]) ∧ RingToS w R w' b (s.push x) := by
 obtain ⟨i0, hi, hz0, hz1, hz2⟩ := info_parts infoSV
 obtain ⟨A, c, hb, hown, hin, hrd, hlc, hcm, hA⟩ := h.open_
 have c0 := Bx3.c0 hb
 have c1 := Bx3.c1 hb
 have hle := h.ok.le
 have hln := h.ok.len
 have hps := h.ok.pos
 have hok := h.ok.push x
 obtain ⟨k, hk⟩ : ∃ k, k = min s.l.length (s.lim - 1) := ⟨_, rfl⟩
 have hlk : (s.l.take (s.lim - 1)).length = k := by rw [List.length_take, hk, Nat.min_comm]
 obtain ⟨m, hm⟩ : ∃ m, m = 1 + k := ⟨_, rfl⟩
 have Hh := hid h
 have Hb := hid hb
 have Hrd := hid (hrd.take (s.lim - 1))
 have tail : ∀ nq v' w2, w2.ownsRow w.heap.size 9 1 v' m (([x] ++ s.l.take (s.lim - 1)).map (Value.string)) → ((w.drewN nq).alloc (.cells #[Value.string x] 9)).grownBy w2 (some w.heap.size) → (∃ A' c', v' = .slice A' m c') ∧ Only (fun _ => False) w w2 ∧ RingToS w R ((w2.setCell ⟨b, 1, none⟩ v').setCell ⟨b, 2, none⟩ (.int .i64 0)) b (s.push x) := by
  intro nq v' w2 ho hg
  have hO : Only (fun _ => False) w w2 := (((Only.refl (fun _ => False) w).drewN nq).alloc _).grown hg (fun i e => .inr (by injection e with e; omega))
  refine ⟨own_form ho, hO, ?_⟩
  refine ring_put Hh.out hO (ls := x :: s.l.take (s.lim - 1)) ?_ (fun g hg => (ho.lt g hg).1) hok
  rw [List.length_cons, hlk, Nat.add_comm k 1, ← hm]
  exact own_less ho (Nat.zero_le _)
 have Htail := hid tail
 have happ : ∀ nq, ∃ v' w2, (Builtin.append_ #[30, 30] 30 #[.slice (some ⟨w.heap.size, 0, none⟩) 1 1, .slice A k c]).run Tryz.prog ((w.drewN nq).alloc (.cells #[Value.string x] 9)) = .ok v' w2 ∧ w2.ownsRow w.heap.size 9 1 v' m (([x] ++ s.l.take (s.lim - 1)).map (Value.string)) ∧ ((w.drewN nq).alloc (.cells #[Value.string x] 9)).grownBy w2 (some w.heap.size) := by
  intro nq
  obtain ⟨v', w2, hr, ho, hg, _⟩ := run_append_V (P := Tryz.prog) (V := Value.string) (fun _ => rfl) ((w.drewN nq).alloc (.cells #[Value.string x] 9)) w.heap.size 30 30 9 i0 (.string ⟨#[]⟩) 16 Tryz.underlying30 hi hz0 hz1 hz2 rfl (by decide)
   (.slice (some ⟨w.heap.size, 0, none⟩) 1 1) 1 [x] rfl (own_oneV (w.drewN nq) w.heap.size 9 x (Nat.le_refl _)) A k c (s.l.take (s.lim - 1)) hlk.symm hA (RdV.alloc (w := w.drewN nq) Hrd.out _) (by rw [hlk]; simp; omega) (by simp [World.drewN])
  exact ⟨v', w2, hr, by rw [hm]; exact ho, hg⟩
 have Happ := hid happ
 clear hb hown hin hrd h tail happ hok hlk hm
 have hsub : IntKind.i64.wrap ((s.lim : Int) - 1) = ((s.lim - 1 : Nat) : Int) := by rw [IntWalk.i64_in _ (by omega)]; omega
 by_cases h1 : s.lim - 1 < s.l.length
 ·have hq : decide (((s.lim - 1 : Nat) : Int) < (s.l.length : Int)) = true := decide_eq_true (by omega)
  obtain rfl : k = s.lim - 1 := by omega
  clear hk
  go_enter Tryz.func139, Tryz.ntmps139
  go_wp2_with fail
  go_quiet (fail)
  obtain ⟨v', w2, hrun, ho, hg⟩ := Happ.out nq
  obtain ⟨⟨A', c', rfl⟩, hO, hR⟩ := Htail.out nq v' w2 ho hg
  have hb2 : Bx3 w2 b _ _ _ _ := Bx3.keep Hb.out hO (fun h => h)
  have d1 := hb2.c1
  have e1 := hb2.f1
  have d2 := hb2.c2
  have e2 := hb2.f2
  have Hrun := hid hrun
  have HR := hid hR
  clear hrun ho hg hO hR hb2 hq hsub
  go_wp2_with (at_builtin; refine wpList_append_g (by rfl) (.tmp 23) (.tmp 24) 30 rfl _ _ rfl rfl Hrun.out ?_)
  go_end0
  exact ⟨rfl, HR.out⟩
 ·have hq : decide (((s.lim - 1 : Nat) : Int) < (s.l.length : Int)) = false := decide_eq_false (by omega)
  obtain rfl : k = s.l.length := by omega
  clear hk
  go_enter Tryz.func139, Tryz.ntmps139
  go_wp2_with fail
  go_quiet (fail)
  obtain ⟨v', w2, hrun, ho, hg⟩ := Happ.out nq
  obtain ⟨⟨A', c', rfl⟩, hO, hR⟩ := Htail.out nq v' w2 ho hg
  have hb2 : Bx3 w2 b _ _ _ _ := Bx3.keep Hb.out hO (fun h => h)
  have d1 := hb2.c1
  have e1 := hb2.f1
  have d2 := hb2.c2
  have e2 := hb2.f2
  have Hrun := hid hrun
  have HR := hid hR
  clear hrun ho hg hO hR hb2 hq hsub
  go_wp2_with (at_builtin; refine wpList_append_g (by rfl) (.tmp 23) (.tmp 24) 30 rfl _ _ rfl rfl Hrun.out ?_)
  go_end0
  exact ⟨rfl, HR.out⟩
end
section
open Go Go.RowKit
set_option maxRecDepth 100000
theorem func_nilS (kf : Nat) (cap : Array Value) (W : World) : (binOp .eql 51 (.func (.func kf) #[] cap) .nilFunc).run Tryz.prog W = .ok (.bool false) W := by
 kernel_rfl
set_option maxHeartbeats 2000000 in
theorem change_callsS (w : World) (R : Nat → Prop) (b : Nat) (s : RS ByteArray) (h : RingS w R b s) (kf : Nat) (lb : Array Value) (eg : ∀ args w, (callFunc kf args).run Tryz.prog w = .ok (.enter kf args) w) (f : ByteArray → ByteArray)
  (hf : ∀ W x, Below w.heap.size w W → s.l[0]? = some x → Calls Tryz.prog kf (#[Value.string x] ++ lb) W fun e W' => e = .returned (Value.string (f x)) ∧ Below W.heap.size W W') :
  Calls Tryz.prog 137 #[.pointer (some ⟨b, 0, none⟩), .func (.func kf) #[] lb] w fun e w' => e = .returned (.bool (decide (0 < s.l.length))) ∧ RingToS w R w' b (s.change f) := by
 obtain ⟨A, c, hb, hown, hin, hrd, hlc, hcm, hA⟩ := h.open_
 have c1 := Bx3.c1 hb
 have hnil := fun W => func_nilS kf lb W
 cases hl : s.l with
 | nil =>
  have hn : s.l.length = 0 := by rw [hl]; rfl
  have hi0 : s.i = 0 := (h.ok.at_.resolve_left (by omega)).1
  have e1 : s.change f = s := by
   obtain ⟨lim, l, i⟩ := s
   simp only at hl hi0
   subst hl; subst hi0
   rfl
  rw [hn] at c1
  rw [e1]
  have HR := Lib.hid h.refl
  clear hb hown hin hrd hlc h e1 hi0 hl hf
  go_enter Tryz.func137, Tryz.ntmps137
  go_wp2
  go_ret
  exact ⟨rfl, HR.out⟩
 | cons x t =>
  have Hf := Lib.hid (fun W hW => hf W x hW (by rw [hl]; rfl))
  have hown' := hown
  rw [hl, List.map_cons] at hown'
  have hlen : s.l.length = t.length + 1 := by rw [hl]; rfl
  rw [show (x :: t).length = s.l.length by rw [hl]] at hown'
  obtain ⟨g, rfl, hfr, hc⟩ := own_head hown'
  have hg0 : R g := hin g rfl
  have hgw : g < w.heap.size := h.lt g hg0
  have hbw : b < w.heap.size := h.lt b h.ins
  have hgb : g ≠ b := own_apart ne_ringS hb hown g rfl
  have hok := h.ok.change f
  have hln := h.ok.len
  have hle := h.ok.le
  have e1 : s.change f = ⟨s.lim, f x :: t, 0⟩ := by unfold RS.change; rw [hl]; rfl
  rw [e1] at hok ⊢
  have Hlast : Hid (∀ W, Below w.heap.size w W → RingToS w R ((W.setCell ⟨g, 0, none⟩ (Value.string (f x))).setCell ⟨b, 2, none⟩ (.int .i64 0)) b ⟨s.lim, f x :: t, 0⟩) := Lib.hid (fun W hW => by
   have h2 := h.below hW
   have hb2 := (hW.block b hbw).trans hb
   have ho2 := own_only hown (Only.of_below (R := fun _ => False) hW) (fun _ _ h => h)
   refine RingTo.trans (s1 := s) ⟨R, h2, Only.of_below hW, fun _ h => .inl h⟩ (fun R1 hR1 => ?_)
   obtain ⟨v, q1, q2, q3⟩ := hR1.mem
   rw [hb2] at q1
   injection q1 with q1
   injection q1 with q1 _
   have q4 : v = .slice (some ⟨g, 0, none⟩) s.l.length c := by
    have := congrArg (fun a => a.toList) q1
    simp only [List.cons.injEq, true_and, and_true] at this
    exact this.symm
   subst q4
   exact ring_first ne_ringS hR1 hl hb2 q2 (q3 g rfl) (f x) hok)
  have hne0 : ((s.l.length : Int) == 0) = false := beq_eq_false_iff_ne.2 (by omega)
  have hpos : (0 : Int) < (s.l.length : Int) := by omega
  have Hd : Hid (decide (0 < s.l.length) = true) := Lib.hid (decide_eq_true (by omega))
  have c2 := Bx3.c2 hb
  have f2 := Bx3.f2 hb
  rw [← hl]
  clear hb hown hown' hin hrd h hl hlen hf hg0 hok e1
  generalize s.l.length = n at *
  go_enter Tryz.func137, Tryz.ntmps137
  go_wp2_with fail
  refine (Hf.out _ (Below.refl _ _)).mono ?_
  rintro e w1 ⟨rfl, hb1⟩
  have d1 := (hb1.cell (p := ⟨b, 1, none⟩) hbw).trans c1
  have d2 := (hb1.cell (p := ⟨b, 2, none⟩) hbw).trans c2
  have e2 := (hb1.frozen (p := ⟨b, 2, none⟩) hbw).trans f2
  have dg := (hb1.cell (p := ⟨g, 0, none⟩) hgw).trans hc
  have eg := (hb1.frozen (p := ⟨g, 0, none⟩) hgw).trans hfr
  have HL := Lib.hid (Hlast.out w1 hb1)
  clear hb1 c1 c2 f2 hc hfr Hlast
  go_wp2
  go_ret
  rw [Hd.out]
  exact ⟨rfl, HL.out⟩
end
end Go.Proofs.YtoaponaljkhlfaaGreatDoor
