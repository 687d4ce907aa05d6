/-
  The statements' 'does' of layer 6.
-/
import Derived.Test.YtgcafmofpflidaaULogS
import Derived.Test.YtgcafmofpflidaaUOps
import Derived.Test.YtgcafmofpflidaaUDoc
import Derived.OwnWalk
namespace Go.Proofs.Ytgcafmofpflidaa
open Go Go.RowKit
set_option maxRecDepth 100000

/-- What 'does' hands back. -/
def DoesU (w : World) (R : Nat → Prop) (s' : LS ByteArray) (q : Bool) (e : Ending) (w' : World) : Prop := ∃ b', e = .returned (.tuple #[.pointer (some ⟨b', 0, none⟩), .string s'.now, .bool q]) ∧ ToUS w R w' b' s'
theorem ToL.from_ {T : Type} {L : World → (Nat → Prop) → Nat → T → Prop} {w W W' : World} {R : Nat → Prop} {b' : Nat} {s' : T} (h : ToL L W R W' b' s') (ho : Only R w W) : ToL L w R W' b' s' := by
  obtain ⟨R', b1, b2, b3⟩ := h
  exact ⟨R', b1, ho.trans b2 (fun _ h => .inl h), fun k hk => (b3 k hk).imp id (fun h => Nat.le_trans ho.size h)⟩

set_option maxHeartbeats 2000000 in
theorem doesU0 (w : World) (R : Nat → Prop) (b : Nat) (s : LS ByteArray) (h : LogS w R b s) (t : ByteArray) (g : Int) :
    Calls Try.prog 14 #[.pointer (some ⟨b, 0, none⟩), opV ⟨0, t, g⟩] w (DoesU w R (s.does t g) (decide (t ≠ s.now))) := by
  obtain ⟨W1, hW1⟩ : ∃ W1, w.alloc (.cells #[.int .i64 0, .string t, .int .i64 g] 32) = W1 := ⟨_, rfl⟩
  have hB1 : Below w.heap.size w W1 := by rw [← hW1]; exact (Below.refl _ w).alloc (Nat.le_refl _) _
  have x0 : Bx3 W1 w.heap.size 32 (.int .i64 0) (.string t) (.int .i64 g) := by rw [← hW1]; exact Bx3.new w _ _ _ _
  have c0 := x0.c0
  have c1 := x0.c1
  have c2 := x0.c2
  have h1 := objS.below h hB1
  have HO1 := Lib.hid (Only.of_below (R := R) hB1)
  have H1 := Lib.hid h1
  clear x0 h1
  have Hc := Lib.hid (do_callsUS W1 R b s H1.out t g)
  generalize decide (t ≠ s.now) = q at *
  unfold opV
  go_enter Try.func14, Try.ntmps14
  go_wp2_with fail
  refine Hc.out.mono ?_
  rintro e w2 ⟨rfl, ht⟩
  have Ht := Lib.hid ht
  clear ht Hc hW1 hB1
  obtain ⟨R2, hR2, ho2, hk2⟩ := Ht.out
  have Hnow := Lib.hid (now_callsUS _ R2 b _ hR2)
  have HT : Hid (ToUS w R w2 b (s.does t g)) := Lib.hid (ToL.from_ ⟨R2, hR2, ho2, hk2⟩ HO1.out)
  clear hR2 ho2 hk2
  go_wp2_with fail
  refine Hnow.out.mono ?_
  rintro e w5 ⟨rfl, hb5⟩
  have HT5 := Lib.hid (HT.out.below objS hb5)
  clear hb5 Hnow HT
  go_wp2
  go_ret3
  exact ⟨b, rfl, HT5.out⟩

set_option maxHeartbeats 2000000 in
theorem doesU1 (w : World) (R : Nat → Prop) (b : Nat) (s : LS ByteArray) (h : LogS w R b s) (t : ByteArray) (g : Int) :
    Calls Try.prog 14 #[.pointer (some ⟨b, 0, none⟩), opV ⟨1, t, g⟩] w (DoesU w R (s.move t) false) := by
  obtain ⟨W1, hW1⟩ : ∃ W1, w.alloc (.cells #[.int .i64 1, .string t, .int .i64 g] 32) = W1 := ⟨_, rfl⟩
  have hB1 : Below w.heap.size w W1 := by rw [← hW1]; exact (Below.refl _ w).alloc (Nat.le_refl _) _
  have x0 : Bx3 W1 w.heap.size 32 (.int .i64 1) (.string t) (.int .i64 g) := by rw [← hW1]; exact Bx3.new w _ _ _ _
  have c0 := x0.c0
  have c1 := x0.c1
  have c2 := x0.c2
  have h1 := objS.below h hB1
  have HO1 := Lib.hid (Only.of_below (R := R) hB1)
  have H1 := Lib.hid h1
  clear x0 h1
  have Hc := Lib.hid (move_callsUS W1 R b s H1.out t)
  unfold opV
  go_enter Try.func14, Try.ntmps14
  go_wp2_with fail
  refine Hc.out.mono ?_
  rintro e w2 ⟨rfl, ht⟩
  have Ht := Lib.hid ht
  clear ht Hc hW1 hB1
  obtain ⟨R2, hR2, ho2, hk2⟩ := Ht.out
  have Hnow := Lib.hid (now_callsUS _ R2 b _ hR2)
  have HT : Hid (ToUS w R w2 b (s.move t)) := Lib.hid (ToL.from_ ⟨R2, hR2, ho2, hk2⟩ HO1.out)
  clear hR2 ho2 hk2
  go_wp2_with fail
  refine Hnow.out.mono ?_
  rintro e w5 ⟨rfl, hb5⟩
  have HT5 := Lib.hid (HT.out.below objS hb5)
  clear hb5 Hnow HT
  go_wp2
  go_ret3
  exact ⟨b, rfl, HT5.out⟩

set_option maxHeartbeats 2000000 in
theorem doesU2 (w : World) (R : Nat → Prop) (b : Nat) (s : LS ByteArray) (h : LogS w R b s) (t : ByteArray) (g : Int) :
    Calls Try.prog 14 #[.pointer (some ⟨b, 0, none⟩), opV ⟨2, t, g⟩] w (DoesU w R s.brk false) := by
  obtain ⟨W1, hW1⟩ : ∃ W1, w.alloc (.cells #[.int .i64 2, .string t, .int .i64 g] 32) = W1 := ⟨_, rfl⟩
  have hB1 : Below w.heap.size w W1 := by rw [← hW1]; exact (Below.refl _ w).alloc (Nat.le_refl _) _
  have x0 : Bx3 W1 w.heap.size 32 (.int .i64 2) (.string t) (.int .i64 g) := by rw [← hW1]; exact Bx3.new w _ _ _ _
  have c0 := x0.c0
  have c1 := x0.c1
  have c2 := x0.c2
  have h1 := objS.below h hB1
  have HO1 := Lib.hid (Only.of_below (R := R) hB1)
  have H1 := Lib.hid h1
  clear x0 h1
  have Hc := Lib.hid (break_callsUS W1 R b s H1.out)
  unfold opV
  go_enter Try.func14, Try.ntmps14
  go_wp2_with fail
  refine Hc.out.mono ?_
  rintro e w2 ⟨rfl, ht⟩
  have Ht := Lib.hid ht
  clear ht Hc hW1 hB1
  obtain ⟨R2, hR2, ho2, hk2⟩ := Ht.out
  have Hnow := Lib.hid (now_callsUS _ R2 b _ hR2)
  have HT : Hid (ToUS w R w2 b s.brk) := Lib.hid (ToL.from_ ⟨R2, hR2, ho2, hk2⟩ HO1.out)
  clear hR2 ho2 hk2
  go_wp2_with fail
  refine Hnow.out.mono ?_
  rintro e w5 ⟨rfl, hb5⟩
  have HT5 := Lib.hid (HT.out.below objS hb5)
  clear hb5 Hnow HT
  go_wp2
  go_ret3
  exact ⟨b, rfl, HT5.out⟩

set_option maxHeartbeats 2000000 in
theorem doesU3 (w : World) (R : Nat → Prop) (b : Nat) (s : LS ByteArray) (h : LogS w R b s) (t : ByteArray) (g : Int) :
    Calls Try.prog 14 #[.pointer (some ⟨b, 0, none⟩), opV ⟨3, t, g⟩] w (DoesU w R s.undo (decide (s.back ≠ []))) := by
  obtain ⟨W1, hW1⟩ : ∃ W1, w.alloc (.cells #[.int .i64 3, .string t, .int .i64 g] 32) = W1 := ⟨_, rfl⟩
  have hB1 : Below w.heap.size w W1 := by rw [← hW1]; exact (Below.refl _ w).alloc (Nat.le_refl _) _
  have x0 : Bx3 W1 w.heap.size 32 (.int .i64 3) (.string t) (.int .i64 g) := by rw [← hW1]; exact Bx3.new w _ _ _ _
  have c0 := x0.c0
  have c1 := x0.c1
  have c2 := x0.c2
  have h1 := objS.below h hB1
  have HO1 := Lib.hid (Only.of_below (R := R) hB1)
  have H1 := Lib.hid h1
  clear x0 h1
  have Hc := Lib.hid (undo_callsUS W1 R b s H1.out)
  generalize decide (s.back ≠ []) = q at *
  unfold opV
  go_enter Try.func14, Try.ntmps14
  go_wp2_with fail
  refine Hc.out.mono ?_
  rintro e w2 ⟨rfl, ht⟩
  have HT : Hid (ToUS w R w2 b s.undo) := Lib.hid (ht.from_ HO1.out)
  clear ht Hc hW1 hB1
  go_wp2
  go_ret3
  exact ⟨b, rfl, HT.out⟩

set_option maxHeartbeats 2000000 in
theorem doesU4 (w : World) (R : Nat → Prop) (b : Nat) (s : LS ByteArray) (h : LogS w R b s) (t : ByteArray) (g : Int) :
    Calls Try.prog 14 #[.pointer (some ⟨b, 0, none⟩), opV ⟨4, t, g⟩] w (DoesU w R s.redo (decide (s.forth ≠ []))) := by
  obtain ⟨W1, hW1⟩ : ∃ W1, w.alloc (.cells #[.int .i64 4, .string t, .int .i64 g] 32) = W1 := ⟨_, rfl⟩
  have hB1 : Below w.heap.size w W1 := by rw [← hW1]; exact (Below.refl _ w).alloc (Nat.le_refl _) _
  have x0 : Bx3 W1 w.heap.size 32 (.int .i64 4) (.string t) (.int .i64 g) := by rw [← hW1]; exact Bx3.new w _ _ _ _
  have c0 := x0.c0
  have c1 := x0.c1
  have c2 := x0.c2
  have h1 := objS.below h hB1
  have HO1 := Lib.hid (Only.of_below (R := R) hB1)
  have H1 := Lib.hid h1
  clear x0 h1
  have Hc := Lib.hid (redo_callsUS W1 R b s H1.out)
  generalize decide (s.forth ≠ []) = q at *
  unfold opV
  go_enter Try.func14, Try.ntmps14
  go_wp2_with fail
  refine Hc.out.mono ?_
  rintro e w2 ⟨rfl, ht⟩
  have HT : Hid (ToUS w R w2 b s.redo) := Lib.hid (ht.from_ HO1.out)
  clear ht Hc hW1 hB1
  go_wp2
  go_ret3
  exact ⟨b, rfl, HT.out⟩

set_option maxHeartbeats 2000000 in
theorem doesU5 (w : World) (R : Nat → Prop) (b : Nat) (s : LS ByteArray) (h : LogS w R b s) (t : ByteArray) (g : Int) :
    Calls Try.prog 14 #[.pointer (some ⟨b, 0, none⟩), opV ⟨5, t, g⟩] w (DoesU w R s false) := by
  obtain ⟨W1, hW1⟩ : ∃ W1, w.alloc (.cells #[.int .i64 5, .string t, .int .i64 g] 32) = W1 := ⟨_, rfl⟩
  have hB1 : Below w.heap.size w W1 := by rw [← hW1]; exact (Below.refl _ w).alloc (Nat.le_refl _) _
  have x0 : Bx3 W1 w.heap.size 32 (.int .i64 5) (.string t) (.int .i64 g) := by rw [← hW1]; exact Bx3.new w _ _ _ _
  have c0 := x0.c0
  have c1 := x0.c1
  have c2 := x0.c2
  have h1 := objS.below h hB1
  have HO1 := Lib.hid (Only.of_below (R := R) hB1)
  have H1 := Lib.hid h1
  clear x0 h1
  have hlt := objS.lt H1.out
  have Hc := Lib.hid (copy_callsBS W1 R b s H1.out)
  have Hlt := Lib.hid hlt
  clear hlt
  unfold opV
  go_enter Try.func14, Try.ntmps14
  go_wp2_with fail
  refine Hc.out.mono ?_
  rintro e w2 ⟨b2, rfl, R2, hR2, hge2, hk2, hB2⟩
  have hbR := objS.ins H1.out
  have hbW : b < W1.heap.size := Hlt.out b hbR
  have hnb : ¬ R2 b := fun hr => by rcases hk2 b hr with h | h; exact h.2 rfl; omega
  have h2 := objS.below H1.out hB2
  have Hd := Lib.hid (do_callsBS w2 R b s h2 ⟨#[110, 111, 110, 101]⟩ 0)
  have HR2 := Lib.hid hR2
  have Hk2 := Lib.hid hk2
  have Hnb := Lib.hid hnb
  have HbR := Lib.hid hbR
  have HO2 : Hid (Only R w w2) := Lib.hid (HO1.out.trans (R' := fun _ => False) (Only.of_below hB2) (fun _ h => h.elim))
  have hz1 := hB1.size
  clear hR2 hge2 hk2 hB2 h2 Hc hW1 hB1 hnb hbR hbW
  go_wp2_with fail
  refine Hd.out.mono ?_
  rintro e w3 ⟨rfl, R3, hR3, ho3, hk3⟩
  have hc3 : LogS w3 R2 b2 s := objS.keep HR2.out ho3 (fun k hk hr => Hnb.out (by rw [← hr]; exact hk))
  have Hu := Lib.hid (undo_callsBS w3 R3 b _ hR3)
  have HR3 := Lib.hid hc3
  have HO3 : Hid (Only R w w3) := Lib.hid (HO2.out.trans ho3 (fun _ h => .inl (by rw [h]; exact HbR.out)))
  clear hR3 ho3 hk3 hc3 Hd HR2
  go_wp2_with fail
  refine Hu.out.mono ?_
  rintro e w4 ⟨rfl, R4, hR4, ho4, hk4⟩
  have hc4 : LogS w4 R2 b2 s := objS.keep HR3.out ho4 (fun k hk hr => Hnb.out (by rw [← hr]; exact hk))
  have HT : Hid (ToUS w R w4 b2 s) := Lib.hid ⟨R2, hc4, HO3.out.trans ho4 (fun i hi => .inl (by rw [hi]; exact HbR.out)), fun k hk => (Hk2.out k hk).imp (fun h => h.1) (fun h => Nat.le_trans hz1 h)⟩
  have Hn := Lib.hid (now_callsUS w4 R2 b2 s hc4)
  clear hR4 ho4 hk4 hc4 Hu HR3
  go_wp2_with fail
  refine Hn.out.mono ?_
  rintro e w5 ⟨rfl, hb5⟩
  have HT5 := Lib.hid (HT.out.below objS hb5)
  clear hb5 Hn HT
  go_wp2
  go_ret3
  exact ⟨b2, rfl, HT5.out⟩

set_option maxHeartbeats 2000000 in
theorem doesUk (w : World) (R : Nat → Prop) (b : Nat) (s : LS ByteArray) (h : LogS w R b s) (k : Int) (t : ByteArray) (g : Int) (h0 : k ≠ 0) (h1 : k ≠ 1) (h2 : k ≠ 2) (h3 : k ≠ 3) (h4 : k ≠ 4) (h5 : k ≠ 5) :
    Calls Try.prog 14 #[.pointer (some ⟨b, 0, none⟩), opV ⟨k, t, g⟩] w (DoesU w R s false) := by
  obtain ⟨W1, hW1⟩ : ∃ W1, w.alloc (.cells #[.int .i64 k, .string t, .int .i64 g] 32) = W1 := ⟨_, rfl⟩
  have hB1 : Below w.heap.size w W1 := by rw [← hW1]; exact (Below.refl _ w).alloc (Nat.le_refl _) _
  have x0 : Bx3 W1 w.heap.size 32 (.int .i64 k) (.string t) (.int .i64 g) := by rw [← hW1]; exact Bx3.new w _ _ _ _
  have c0 := x0.c0
  have c1 := x0.c1
  have c2 := x0.c2
  have h1 := objS.below h hB1
  have HO1 := Lib.hid (Only.of_below (R := R) hB1)
  have H1 := Lib.hid h1
  clear x0 h1
  have q0 : (k == 0) = false := beq_eq_false_iff_ne.2 h0
  have q1 : (k == 1) = false := beq_eq_false_iff_ne.2 h1
  have q2 : (k == 2) = false := beq_eq_false_iff_ne.2 h2
  have q3 : (k == 3) = false := beq_eq_false_iff_ne.2 h3
  have q4 : (k == 4) = false := beq_eq_false_iff_ne.2 h4
  have q5 : (k == 5) = false := beq_eq_false_iff_ne.2 h5
  clear h0 h1 h2 h3 h4 h5
  unfold opV
  go_enter Try.func14, Try.ntmps14
  obtain ⟨R2, hR2, ho2, hk2⟩ := (⟨R, H1.out, Only.refl _ _, fun _ h => .inl h⟩ : ToUS W1 R W1 b s)
  have Hnow := Lib.hid (now_callsUS _ R2 b _ hR2)
  have HT : Hid (ToUS w R W1 b s) := Lib.hid (ToL.from_ ⟨R2, hR2, ho2, hk2⟩ HO1.out)
  clear hR2 ho2 hk2
  go_wp2_with fail
  refine Hnow.out.mono ?_
  rintro e w5 ⟨rfl, hb5⟩
  have HT5 := Lib.hid (HT.out.below objS hb5)
  clear hb5 Hnow HT
  go_wp2
  go_ret3
  exact ⟨b, rfl, HT5.out⟩

theorem does_callsU (w : World) (R : Nat → Prop) (b : Nat) (s : LS ByteArray) (h : LogS w R b s) (o : OpU) :
    Calls Try.prog 14 #[.pointer (some ⟨b, 0, none⟩), opV o] w (DoesU w R (doU s o) (didU s o)) := by
  obtain ⟨k, t, g⟩ := o
  by_cases h0 : k = 0
  · subst h0; exact doesU0 w R b s h t g
  by_cases h1 : k = 1
  · subst h1; exact doesU1 w R b s h t g
  by_cases h2 : k = 2
  · subst h2; exact doesU2 w R b s h t g
  by_cases h3 : k = 3
  · subst h3; exact doesU3 w R b s h t g
  by_cases h4 : k = 4
  · subst h4; exact doesU4 w R b s h t g
  rw [show doU s ⟨k, t, g⟩ = s by unfold doU; simp only [if_neg h0, if_neg h1, if_neg h2, if_neg h3, if_neg h4], show didU s ⟨k, t, g⟩ = false by unfold didU; simp only [if_neg h0, if_neg h3, if_neg h4]]
  by_cases h5 : k = 5
  · subst h5; exact doesU5 w R b s h t g
  exact doesUk w R b s h k t g h0 h1 h2 h3 h4 h5
end Go.Proofs.Ytgcafmofpflidaa
