/-
  Package ring at string: New, Top, Len, Home, Turn.
-/
import Derived.Test.YtdpijbaolaignaaRingAt
import Derived.WalkKit
import Derived.BigQuiet
import Derived.IntWalk
namespace Go.Proofs.Ytdpijbaolaignaa
open Go Go.RowKit
set_option maxRecDepth 100000

abbrev RingS (w : World) (R : Nat → Prop) (b : Nat) (s : RS ByteArray) : Prop := RingAt (Value.string) 9 62 w R b s
abbrev RingToS (w : World) (R : Nat → Prop) (w' : World) (b : Nat) (s : RS ByteArray) : Prop := RingTo (Value.string) 9 62 w R w' b s

set_option maxHeartbeats 1000000 in
theorem new_callsS (n : Int) (w : World) :
    Calls Try.prog 11 #[.int .i64 n] w fun e w' => e = .returned (.pointer (some ⟨w.heap.size, 0, none⟩)) ∧ w.alloc (.cells #[.int .i64 (limOf n : Int), .slice none 0 0, .int .i64 0] 62) = w' := by
  have hl : min (max n 1) 64 = (limOf n : Int) := by unfold limOf; omega
  go_enter Try.func11, Try.ntmps11
  go_wp2
  all_goals go_ret
  · exact ⟨rfl, by rw [show (limOf n : Int) = 1 by omega]⟩
  · exact ⟨rfl, by rw [show (limOf n : Int) = 64 by omega]⟩
  · exact ⟨rfl, by rw [show (limOf n : Int) = n by omega]⟩
theorem newRingS (n : Int) (w : World) : RingS (w.alloc (.cells #[.int .i64 (limOf n : Int), .slice none 0 0, .int .i64 0] 62)) (fun k => k = w.heap.size) w.heap.size (RS.new n) :=
  ⟨RS.Ok.new n, rfl, fun k hk => by subst hk; simp, .slice none 0 0, World.alloc_heap_new w _, World.ownsRow_nil _ _ _ _, fun g hg => by cases hg⟩

set_option maxHeartbeats 1000000 in
theorem len_callsS (w : World) (R : Nat → Prop) (b : Nat) (s : RS ByteArray) (h : RingS w R b s) :
    Calls Try.prog 17 #[.pointer (some ⟨b, 0, none⟩)] w fun e w' => e = .returned (.int .i64 (s.l.length : Int)) ∧ w = w' := by
  obtain ⟨A, c, hb, _⟩ := h.open_
  have c1 := Bx3.c1 hb
  clear hb
  generalize s.l.length = n at *
  go_enter Try.func17, Try.ntmps17
  go_wp2
  go_ret
  exact ⟨rfl, rfl⟩

theorem ne_ringS : (9 : TypeId) ≠ 62 := by decide
set_option maxHeartbeats 1000000 in
theorem home_callsS (w : World) (R : Nat → Prop) (b : Nat) (s : RS ByteArray) (h : RingS w R b s) :
    Calls Try.prog 33 #[.pointer (some ⟨b, 0, none⟩)] w fun e w' => e = .returned (.tuple #[]) ∧ RingToS w R w' b s.home := by
  obtain ⟨A, c, hb, hown, hin, hrd, hlc, hcm, hA⟩ := h.open_
  have c2 := Bx3.c2 hb
  have f2 := Bx3.f2 hb
  have Hs := Lib.hid (ring_stand ne_ringS h 0 h.ok.home)
  clear hb hrd hown h hin
  go_enter Try.func33, Try.ntmps33
  go_wp2
  go_end0
  exact ⟨rfl, Hs.out⟩

set_option maxHeartbeats 1000000 in
theorem top_callsS (w : World) (R : Nat → Prop) (b : Nat) (s : RS ByteArray) (h : RingS w R b s) :
    Calls Try.prog 16 #[.pointer (some ⟨b, 0, none⟩)] w fun e w' => e = .returned (.tuple #[Value.string (s.l.getD s.i ⟨#[]⟩), .bool (decide (0 < s.l.length))]) ∧ Below w.heap.size w w' := by
  obtain ⟨A, c, hb, hown, hin, hrd, hlc, hcm, hA⟩ := h.open_
  have c1 := Bx3.c1 hb
  have c2 := Bx3.c2 hb
  have hat := h.ok.at_
  have hle := h.ok.le
  have hln := h.ok.len
  clear hb hown hin h
  by_cases h0 : s.l.length = 0
  · have e0 : s.l = [] := List.eq_nil_of_length_eq_zero h0
    have He : Hid (Value.string (s.l.getD s.i ⟨#[]⟩) = .string ⟨#[]⟩ ∧ decide (0 < s.l.length) = false) := Lib.hid (by rw [e0]; exact ⟨rfl, rfl⟩)
    rw [h0] at c1
    clear e0 hat hle hln hlc hrd
    go_enter Try.func16, Try.ntmps16
    go_wp2
    go_ret2
    rw [He.out.1, He.out.2]
    exact ⟨rfl, Below.refl _ _⟩
  · obtain ⟨g, o, rfl, hg, hc⟩ := hrd.at_ (by omega)
    have hi : s.i < s.l.length := hat.resolve_right fun h1 => by rw [h1.2] at h0; exact h0 rfl
    have hx : s.l[s.i]? = some (s.l.getD s.i ⟨#[]⟩) := by rw [List.getD_eq_getElem?_getD, List.getElem?_eq_getElem hi]; rfl
    have ck := hc _ _ hx
    have Hd : Hid (decide (0 < s.l.length) = true) := Lib.hid (decide_eq_true (by omega))
    have hi' : (s.i : Int) < (s.l.length : Int) := by omega
    have h0' : ((s.l.length : Int) == 0) = false := beq_eq_false_iff_ne.2 (by omega)
    clear hc hx hat hlc
    generalize s.l.getD s.i ⟨#[]⟩ = x at *
    generalize s.l.length = n at *
    generalize s.i = i at *
    go_enter Try.func16, Try.ntmps16
    go_wp2
    go_quiet (fail)
    go_wp2
    go_ret2
    rw [Hd.out]
    exact ⟨rfl, bel_drewK (Below.refl _ _) _⟩

set_option maxHeartbeats 1000000 in
theorem turn_callsS (w : World) (R : Nat → Prop) (b : Nat) (s : RS ByteArray) (h : RingS w R b s) :
    Calls Try.prog 18 #[.pointer (some ⟨b, 0, none⟩)] w fun e w' => e = .returned (.tuple #[Value.string (s.l.getD s.turn.i ⟨#[]⟩), .bool (decide (0 < s.l.length))]) ∧ RingToS w R w' b s.turn := by
  obtain ⟨A, c, hb, hown, hin, hrd, hlc, hcm, hA⟩ := h.open_
  have c1 := Bx3.c1 hb
  have c2 := Bx3.c2 hb
  have f2 := Bx3.f2 hb
  have hle := h.ok.le
  have hln := h.ok.len
  by_cases h0 : s.l.length = 0
  · have e0 : s.l = [] := List.eq_nil_of_length_eq_zero h0
    have hi0 : s.i = 0 := (h.ok.at_.resolve_left (by omega)).1
    have e1 : s.turn = s := by
      obtain ⟨lim, l, i⟩ := s
      simp only at e0 hi0
      subst e0; subst hi0
      rfl
    have He : Hid (Value.string (s.l.getD s.i ⟨#[]⟩) = .string ⟨#[]⟩ ∧ decide (0 < s.l.length) = false) := Lib.hid (by rw [e0]; exact ⟨rfl, rfl⟩)
    have Ht := Lib.hid (top_callsS w R b s h)
    have HR := Lib.hid h
    rw [h0] at c1
    rw [e1]
    clear e0 hi0 e1 hb hown hin hrd hlc hle hln h
    have hd : decide ((0 : Int) < 0) = false := rfl
    go_enter Try.func18, Try.ntmps18
    go_wp2_with fail
    refine Ht.out.mono ?_
    rintro e w' ⟨rfl, hb⟩
    go_wp2
    go_ret2
    rw [He.out.1, He.out.2]
    exact ⟨rfl, R, HR.out.below hb, Only.of_below hb, fun _ h => .inl h⟩
  · have hm := RS.turn_mod h.ok (by omega)
    have hi : s.i < s.l.length := h.ok.at_.resolve_right fun h1 => by rw [h1.2] at h0; exact h0 rfl
    have Hs := Lib.hid (ring_stand ne_ringS h s.turn.i h.ok.turn)
    have hgt : decide ((0 : Int) < (s.l.length : Int)) = true := decide_eq_true (by omega)
    have hn0 : ((s.l.length : Int) == 0) = false := beq_eq_false_iff_ne.2 (by omega)
    have ha : IntKind.i64.wrap ((s.i : Int) + 1) = (s.i : Int) + 1 := IntWalk.i64_in _ (by omega)
    have hr : ((s.i : Int) + 1).tmod (s.l.length : Int) = (s.turn.i : Int) := by rw [hm]; rfl
    have Hz : Hid (decide (0 < s.l.length) = true) := Lib.hid (decide_eq_true (by omega))
    have hlt : s.turn.i < 64 := by rcases h.ok.turn.at_ with h1 | h1 <;> (simp only [RS.turn] at *; omega)
    have hww : IntKind.i64.wrap ((s.turn.i : Nat) : Int) = ((s.turn.i : Nat) : Int) := IntWalk.i64_in _ (by omega)
    clear hb hown hin hrd hlc h hm
    go_enter Try.func18, Try.ntmps18
    go_wp2_with fail
    go_region
    have Hs2 : Hid (RingToS w R (w.setCell ⟨b, 2, none⟩ (.int .i64 (s.turn.i : Int))).drew b s.turn) := Lib.hid Hs.out.drew
    obtain ⟨R', hr', _, _⟩ := Hs2.out
    have Ht := Lib.hid (top_callsS _ R' b _ hr')
    clear hr' Hs c1 c2 f2 hr ha hww
    go_wp2_with fail
    refine Ht.out.mono ?_
    rintro e w2 ⟨rfl, hb2⟩
    go_wp2
    go_ret2
    exact ⟨rfl, Hs2.out.below hb2⟩
end Go.Proofs.Ytdpijbaolaignaa
