/-
  Layer 7 and what it stands on, part 28 (TbX AAlive).
-/
import Derived.Test.YtlmbafnoopfilaaGreatDoorPg7
import Derived.Test.YtlmbafnoopfilaaGreatDoorPg23
import Derived.Test.YtlmbafnoopfilaaGreatDoorPg27
namespace Go.Proofs.YtlmbafnoopfilaaGreatDoor
section
open Go Go.RowKit
def TbX (w0 w : World) (X : Nat → Prop) (b : Nat) (l : List PR) : Prop := ∃ O, TabAt w O b l ∧ (∀ k, O k → w0.heap.size ≤ k) ∧ Below w0.heap.size w0 w ∧ ∀ k, X k → k < w.heap.size ∧ w0.heap.size ≤ k ∧ ¬ O k
section
variable {P : Program} {f : Nat} {args : Array Value} {w0 w w' : World} {X : Nat → Prop} {b : Nat} {l l' : List PR}
theorem TbX.bel (h : TbX w0 w X b l) : Below w0.heap.size w0 w := by
  obtain ⟨_, _, _, h, _⟩ := h
  exact h
theorem TbX.rising (h : TbX w0 w X b l) : Rising l := by
  obtain ⟨_, h, _⟩ := h
  exact h.rising
theorem TbX.len (h : TbX w0 w X b l) : l.length ≤ 16 := by
  obtain ⟨_, h, _⟩ := h
  exact h.len
theorem TbX.start (h : Below w0.heap.size w0 w) : TbX w0 (w.alloc (.cells #[.map none] 29)) (fun _ => False) w.heap.size [] :=
  ⟨_, TabAt.new w, fun k (hk : k = _) => by have := h.size; omega, h.alloc h.size _, fun _ h => h.elim⟩
theorem TbX.startX (h : Below w0.heap.size w0 w) (hX : ∀ k, X k → w0.heap.size ≤ k ∧ k < w.heap.size) : TbX w0 (w.alloc (.cells #[.map none] 29)) X w.heap.size [] :=
  ⟨_, TabAt.new w, fun k (hk : k = _) => by have := h.size; omega, h.alloc h.size _, fun k hk => ⟨by have := (hX k hk).2; rw [World.size_alloc]; omega, (hX k hk).1, fun (e : k = _) => by have := (hX k hk).2; omega⟩⟩
theorem TbX.below (h : TbX w0 w X b l) (hb : Below w.heap.size w w') : TbX w0 w' X b l := by
  obtain ⟨O, a1, a2, a3, a6⟩ := h
  exact ⟨O, a1.below hb, a2, a3.trans (hb.mono a3.size), fun k hk => ⟨Nat.lt_of_lt_of_le (a6 k hk).1 hb.size, (a6 k hk).2⟩⟩
theorem TbX.add {Y : Nat → Prop} (h : TbX w0 w X b l) (hb : Below w.heap.size w w') (hY : ∀ k, Y k → w.heap.size ≤ k ∧ k < w'.heap.size) : TbX w0 w' (fun k => X k ∨ Y k) b l := by
  obtain ⟨O, a1, a2, a3, a6⟩ := h
  refine ⟨O, a1.below hb, a2, a3.trans (hb.mono a3.size), fun k hk => ?_⟩
  rcases hk with hk | hk
  · exact ⟨Nat.lt_of_lt_of_le (a6 k hk).1 hb.size, (a6 k hk).2⟩
  · have h1 := hY k hk
    exact ⟨h1.2, Nat.le_trans a3.size h1.1, fun e => absurd (a1.lt k e) (by omega)⟩
theorem TbX.out {Y : Nat → Prop} (h : TbX w0 w X b l) (hY : ∀ k, Y k → X k) : TbX w0 w Y b l := by
  obtain ⟨O, a1, a2, a3, a6⟩ := h
  exact ⟨O, a1, a2, a3, fun k hk => a6 k (hY k hk)⟩
theorem TbX.rd {E : Ending → World → Prop} (h : TbX w0 w X b l) (hc : ∀ O, TabAt w O b l → Calls P f args w fun e w' => E e w' ∧ Below w.heap.size w w') : Calls P f args w fun e w' => E e w' ∧ TbX w0 w' X b l ∧ Below w.heap.size w w' := by
  obtain ⟨O, a1, a2⟩ := id h
  refine (hc O a1).mono ?_
  rintro e w' ⟨he, hb⟩
  exact ⟨he, h.below hb, hb⟩
theorem TbX.turn {E : Ending → Prop} (h : TbX w0 w X b l) (hc : ∀ O, TabAt w O b l → Calls P f args w fun e w' => E e ∧ TabTo w O w' b l') :
    Calls P f args w fun e w' => E e ∧ TbX w0 w' X b l' ∧ Only (fun k => ¬ X k) w w' := by
  obtain ⟨O, a1, a2, a3, a6⟩ := h
  refine (hc O a1).mono ?_
  rintro e w' ⟨he, O', b1, b2, b3⟩
  refine ⟨he, ⟨O', b1, fun k hk => (b3 k hk).elim (a2 k) (fun h => Nat.le_trans a3.size h), a3.trans (b2.below a3.size a2), fun k hk => ?_⟩, b2.mono fun k hk => .inl fun hx => (a6 k hx).2.2 hk⟩
  obtain ⟨x1, x2, x3⟩ := a6 k hk
  exact ⟨Nat.lt_of_lt_of_le x1 b2.size, x2, fun e => (b3 k e).elim x3 (fun h => by omega)⟩
end
end
section
open Go Go.RowKit
set_option maxRecDepth 100000
theorem aeqT (x : ByteArray) (n : Int) (W : World) : (binOp .eql 36 (.agg #[.string x, .int .i64 n]) (.agg #[.string x, .int .i64 n])).run Tryz.prog W = .ok (.bool true) W := by
  have h1 := Tryz.underlying36
  have h2 := Tryz.underlying9
  have h3 := Tryz.underlying3
  rw [run_eql_struct]
  go_simp
set_option maxHeartbeats 4000000 in
theorem aalive_calls (w0 : World) (hsp : Spans w0) : Calls Tryz.prog 5 #[] w0 fun e w' => e = .returned (.bool true) ∧ Below w0.heap.size w0 w' := by
  have HS := Lib.hid hsp
  have h1 := TbX.start (w0 := w0) (w := w0) (Below.refl _ _)
  have H1 := Lib.hid h1
  clear hsp h1
  go_enter Tryz.func5, Tryz.ntmps5
  obtain ⟨w1, hw1⟩ : ∃ w1, w0.alloc (.cells #[.map none] 29) = w1 := ⟨_, rfl⟩
  rw [hw1] at H1
  go_wp2_with fail
  clear hw1
  refine (H1.out.turn (l' := gcL) (E := fun e => e = .returned (.int .i64 0)) (fun O hO => (tset_calls w1 O _ [] hO (⟨#[103, 99]⟩ : ByteArray) (⟨#[103, 105, 116, 32, 99, 111, 109, 109, 105, 116]⟩ : ByteArray) (by decide) (by decide)).mono (fun e w' hh => by
    rw [show setR [] (⟨#[103, 99]⟩ : ByteArray) (⟨#[103, 105, 116, 32, 99, 111, 109, 109, 105, 116]⟩ : ByteArray) = (gcL, 0) from al_set] at hh
    exact hh))).mono ?_
  rintro e w2 ⟨rfl, hx, _⟩
  have H2 := Lib.hid hx
  clear hx H1
  go_wp2_with fail
  refine (H2.out.rd (E := fun e _ => e = .returned (.tuple #[.agg #[.string (⟨#[32, 103, 105, 116, 32, 99, 111, 109, 109, 105, 116, 32, 120]⟩ : ByteArray), .int .i64 11], .bool true])) (fun O hO => (tgrow_calls w2 O _ gcL hO (spans_below HS.out H2.out.bel) [32, 103, 99, 32, 120] 3 (by decide)).mono (fun e w' hh => by
    rw [al_make1.1, al_make1.2.1, al_grow1] at hh
    exact hh))).mono ?_
  rintro e w3 ⟨rfl, hx, _⟩
  have hx4 := hx.add (Y := fun k => k = w3.heap.size) ((Below.refl _ w3).alloc (Nat.le_refl _) (.cells #[.string (⟨#[32, 103, 105, 116, 32, 99, 111, 109, 109, 105, 116, 32, 120]⟩ : ByteArray), .int .i64 11] 36)) (fun k (hk : k = _) => ⟨by omega, by rw [World.size_alloc]; omega⟩)
  have hb4 := BxA.new w3 36 [.string (⟨#[32, 103, 105, 116, 32, 99, 111, 109, 109, 105, 116, 32, 120]⟩ : ByteArray), .int .i64 11]
  obtain ⟨w4, hw4⟩ : ∃ w4, w3.alloc (.cells #[.string (⟨#[32, 103, 105, 116, 32, 99, 111, 109, 109, 105, 116, 32, 120]⟩ : ByteArray), .int .i64 11] 36) = w4 := ⟨_, rfl⟩
  have hb4' : BxA w4 w3.heap.size 36 [.string (⟨#[32, 103, 105, 116, 32, 99, 111, 109, 109, 105, 116, 32, 120]⟩ : ByteArray), .int .i64 11] := by rw [← hw4]; exact hb4
  rw [hw4] at hx4
  have H4 := Lib.hid hx4
  have K4 := Lib.hid hb4'
  clear hx hx4 hb4 hb4' H2
  go_wp2_with fail
  clear hw4
  refine (H4.out.rd (E := fun e _ => ∃ u v, e = .returned (.tuple #[.agg #[.string u, .int .i64 v], .bool false])) (fun O hO => (tgrow_calls w4 O _ gcL hO (spans_below HS.out H4.out.bel) [103, 99, 120] 2 (by decide)).mono (fun e w' hh => by
    rw [al_make1.2.2.1, al_make1.2.2.2, al_grow2] at hh
    exact ⟨⟨_, _, hh.1⟩, hh.2⟩))).mono ?_
  rintro e w5 ⟨⟨u, v, rfl⟩, hx, hb⟩
  have hx6 := hx.below ((Below.refl _ w5).alloc (Nat.le_refl _) (.cells #[.string u, .int .i64 v] 36))
  have hk6 := (K4.out.below hb).alloc (.cells #[.string u, .int .i64 v] 36)
  obtain ⟨w6, hw6⟩ : ∃ w6, w5.alloc (.cells #[.string u, .int .i64 v] 36) = w6 := ⟨_, rfl⟩
  rw [hw6] at hx6 hk6
  have H6 := Lib.hid hx6
  have K6 := Lib.hid hk6
  clear hx hx6 hk6 hb H4 K4
  go_wp2_with fail
  clear hw6
  refine (H6.out.rd (E := fun e _ => e = .returned (.tuple #[.string (⟨#[103, 105, 116, 32, 99, 111, 109, 109, 105, 116]⟩ : ByteArray), .bool true])) (fun O hO => (tget_calls w6 O _ gcL hO (⟨#[103, 99]⟩ : ByteArray)).mono (fun e w' hh => by
    rw [show getP gcL (⟨#[103, 99]⟩ : ByteArray) = some (bs gcT) from al_get] at hh
    exact hh))).mono ?_
  rintro e w7 ⟨rfl, hx, hb⟩
  have H7 := Lib.hid hx
  have K7 := Lib.hid (K6.out.below hb)
  clear hx hb H6 K6
  go_wp2_with fail
  refine (H7.out.rd (E := fun e w' => ∃ A c, e = .returned (.slice A 1 c) ∧ RdV Value.string w' A [(⟨#[103, 99]⟩ : ByteArray)]) (fun O hO => (tnames_calls w7 O _ gcL hO).mono (fun e w' hh => by
    obtain ⟨A, c, e1, e2, e3⟩ := hh
    exact ⟨⟨A, c, e1, e2⟩, e3⟩))).mono ?_
  rintro e w8 ⟨⟨A, c, rfl, hr⟩, hx, hb⟩
  obtain ⟨g, og, rfl, hg, hc⟩ := hr (by decide)
  have c0 : w8.cell? ⟨g, og, none⟩ = some (.string (⟨#[103, 99]⟩ : ByteArray)) := hc 0 _ rfl
  have H8 := Lib.hid hx
  have hk8 := K7.out.below hb
  have k0 := hk8.c 0 rfl
  have k1 := hk8.c 1 rfl
  have q1 := aeqT (⟨#[32, 103, 105, 116, 32, 99, 111, 109, 109, 105, 116, 32, 120]⟩ : ByteArray) 11
  clear hx hb hr hc hg H7 K7 hk8
  go_wp2_with fail
  refine (H8.out.turn (l' := gcL) (E := fun e => e = .returned (.int .i64 80)) (fun O hO => (tset_calls w8 O _ gcL hO (⟨#[97, 32, 98]⟩ : ByteArray) (⟨#[120]⟩ : ByteArray) (by decide) (by decide)).mono (fun e w' hh => by
    rw [show setR gcL (⟨#[97, 32, 98]⟩ : ByteArray) (⟨#[120]⟩ : ByteArray) = (gcL, 80) from al_bad] at hh
    exact hh))).mono ?_
  rintro e w9 ⟨rfl, hx, _⟩
  have H9 := Lib.hid hx
  clear hx H8
  go_wp2_with fail
  refine (H9.out.turn (l' := []) (E := fun e => e = .returned (.bool true)) (fun O hO => (tdrop_calls w9 O _ gcL hO (⟨#[103, 99]⟩ : ByteArray)).mono (fun e w' hh => by
    rw [show dropR gcL (⟨#[103, 99]⟩ : ByteArray) = [] from al_drop.1, show getP gcL (⟨#[103, 99]⟩ : ByteArray) = some (bs gcT) from al_get] at hh
    exact hh))).mono ?_
  rintro e w10 ⟨rfl, hx, _⟩
  have H10 := Lib.hid hx
  clear hx H9
  go_wp2_with fail
  refine (H10.out.turn (l' := []) (E := fun e => e = .returned (.bool false)) (fun O hO => (tdrop_calls w10 O _ [] hO (⟨#[103, 99]⟩ : ByteArray)).mono (fun e w' hh => hh))).mono ?_
  rintro e w11 ⟨rfl, hx, _⟩
  have H11 := Lib.hid hx
  clear hx H10
  go_wp2_with fail
  go_ret
  exact ⟨rfl, H11.out.bel⟩
end
end Go.Proofs.YtlmbafnoopfilaaGreatDoor
