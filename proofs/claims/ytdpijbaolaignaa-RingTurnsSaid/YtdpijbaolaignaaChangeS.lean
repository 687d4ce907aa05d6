/-
  Package ring at string: Change.
-/
import Derived.Test.YtdpijbaolaignaaRingS
namespace Go.Proofs.Ytdpijbaolaignaa
open Go Go.RowKit
set_option maxRecDepth 100000

theorem func_nilS (kf : Nat) (cap : Array Value) (W : World) : (binOp .eql 54 (.func (.func kf) #[] cap) .nilFunc).run Try.prog W = .ok (.bool false) W := by
  kernel_rfl

set_option maxHeartbeats 2000000 in
theorem change_callsS (w : World) (R : Nat → Prop) (b : Nat) (s : RS ByteArray) (h : RingS w R b s) (kf : Nat) (lb : Array Value) (eg : ∀ args w, (callFunc kf args).run Try.prog w = .ok (.enter kf args) w) (f : ByteArray → ByteArray)
    (hf : ∀ W x, Below w.heap.size w W → s.l[0]? = some x → Calls Try.prog kf (#[Value.string x] ++ lb) W fun e W' => e = .returned (Value.string (f x)) ∧ Below W.heap.size W W') :
    Calls Try.prog 25 #[.pointer (some ⟨b, 0, none⟩), .func (.func kf) #[] lb] w fun e w' => e = .returned (.bool (decide (0 < s.l.length))) ∧ RingToS w R w' b (s.change f) := by
  obtain ⟨A, c, hb, hown, hin, hrd, hlc, hcm, hA⟩ := h.open_
  have c1 := Bx3.c1 hb
  have hnil := fun W => func_nilS kf lb W
  cases hl : s.l with
  | nil =>
    have hn : s.l.length = 0 := by rw [hl]; rfl
    have hi0 : s.i = 0 := (h.ok.at_.resolve_left (by omega)).1
    have e1 : s.change f = s := by
      obtain ⟨lim, l, i⟩ := s
      simp only at hl hi0
      subst hl; subst hi0
      rfl
    rw [hn] at c1
    rw [e1]
    have HR := Lib.hid h.refl
    clear hb hown hin hrd hlc h e1 hi0 hl hf
    go_enter Try.func25, Try.ntmps25
    go_wp2
    go_ret
    exact ⟨rfl, HR.out⟩
  | cons x t =>
    have Hf := Lib.hid (fun W hW => hf W x hW (by rw [hl]; rfl))
    have hown' := hown
    rw [hl, List.map_cons] at hown'
    have hlen : s.l.length = t.length + 1 := by rw [hl]; rfl
    rw [show (x :: t).length = s.l.length by rw [hl]] at hown'
    obtain ⟨g, rfl, hfr, hc⟩ := own_head hown'
    have hg0 : R g := hin g rfl
    have hgw : g < w.heap.size := h.lt g hg0
    have hbw : b < w.heap.size := h.lt b h.ins
    have hgb : g ≠ b := own_apart ne_ringS hb hown g rfl
    have hok := h.ok.change f
    have hln := h.ok.len
    have hle := h.ok.le
    have e1 : s.change f = ⟨s.lim, f x :: t, 0⟩ := by unfold RS.change; rw [hl]; rfl
    rw [e1] at hok ⊢
    have Hlast : Hid (∀ W, Below w.heap.size w W → RingToS w R ((W.setCell ⟨g, 0, none⟩ (Value.string (f x))).setCell ⟨b, 2, none⟩ (.int .i64 0)) b ⟨s.lim, f x :: t, 0⟩) := Lib.hid (fun W hW => by
      have h2 := h.below hW
      have hb2 := (hW.block b hbw).trans hb
      have ho2 := own_only hown (Only.of_below (R := fun _ => False) hW) (fun _ _ h => h)
      refine RingTo.trans (s1 := s) ⟨R, h2, Only.of_below hW, fun _ h => .inl h⟩ (fun R1 hR1 => ?_)
      obtain ⟨v, q1, q2, q3⟩ := hR1.mem
      rw [hb2] at q1
      injection q1 with q1
      injection q1 with q1 _
      have q4 : v = .slice (some ⟨g, 0, none⟩) s.l.length c := by
        have := congrArg (fun a => a.toList) q1
        simp only [List.cons.injEq, true_and, and_true] at this
        exact this.symm
      subst q4
      exact ring_first ne_ringS hR1 hl hb2 q2 (q3 g rfl) (f x) hok)
    have hne0 : ((s.l.length : Int) == 0) = false := beq_eq_false_iff_ne.2 (by omega)
    have hpos : (0 : Int) < (s.l.length : Int) := by omega
    have Hd : Hid (decide (0 < s.l.length) = true) := Lib.hid (decide_eq_true (by omega))
    have c2 := Bx3.c2 hb
    have f2 := Bx3.f2 hb
    rw [← hl]
    clear hb hown hown' hin hrd h hl hlen hf hg0 hok e1
    generalize s.l.length = n at *
    go_enter Try.func25, Try.ntmps25
    go_wp2_with fail
    refine (Hf.out _ (Below.refl _ _)).mono ?_
    rintro e w1 ⟨rfl, hb1⟩
    have d1 := (hb1.cell (p := ⟨b, 1, none⟩) hbw).trans c1
    have d2 := (hb1.cell (p := ⟨b, 2, none⟩) hbw).trans c2
    have e2 := (hb1.frozen (p := ⟨b, 2, none⟩) hbw).trans f2
    have dg := (hb1.cell (p := ⟨g, 0, none⟩) hgw).trans hc
    have eg := (hb1.frozen (p := ⟨g, 0, none⟩) hgw).trans hfr
    have HL := Lib.hid (Hlast.out w1 hb1)
    clear hb1 c1 c2 f2 hc hfr Hlast
    go_wp2
    go_ret
    rw [Hd.out]
    exact ⟨rfl, HL.out⟩

end Go.Proofs.Ytdpijbaolaignaa
