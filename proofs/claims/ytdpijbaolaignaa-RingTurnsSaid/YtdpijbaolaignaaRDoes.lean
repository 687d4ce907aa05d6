/-
  What a statement's call does to a ring.
-/
import Derived.Test.YtdpijbaolaignaaCopyS
import Derived.Test.YtdpijbaolaignaaChangeS
import Derived.Test.YtdpijbaolaignaaBx
namespace Go.Proofs.Ytdpijbaolaignaa
open Go Go.RowKit
set_option maxRecDepth 100000

set_option maxHeartbeats 1000000 in
theorem cat_calls (x t : ByteArray) (g : Nat) (w : World) (hc : w.cell? ⟨g, 1, none⟩ = some (.string t)) (hs : ¬ 9223372036854775807 < x.size + t.size) :
    Calls Try.prog 32 #[.string x, .pointer (some ⟨g, 0, none⟩)] w fun e w' => e = .returned (.string (x ++ t)) ∧ Below w.heap.size w w' := by
  go_enter Try.func32, Try.ntmps32
  go_wp2
  go_ret
  exact ⟨rfl, Below.refl _ _⟩

/-- A call's ring. -/
def Does (w : World) (R : Nat → Prop) (s' : RS ByteArray) (e : Ending) (w' : World) : Prop := ∃ b', e = .returned (.pointer (some ⟨b', 0, none⟩)) ∧ RingToS w R w' b' s'

set_option maxHeartbeats 4000000 in
theorem does_calls (w : World) (R : Nat → Prop) (b : Nat) (s : RS ByteArray) (h : RingS w R b s) (o : OpD) (hs : ∀ x ∈ s.l, ¬ 9223372036854775807 < x.size + o.t.size) :
    Calls Try.prog 13 #[.pointer (some ⟨b, 0, none⟩), .agg #[.int .i64 o.k, .string o.t]] w (Does w R (doR s o)) := by
  obtain ⟨k, t⟩ := o
  simp only at hs ⊢
  obtain ⟨W1, hW1⟩ : ∃ W1, w.alloc (.cells #[.int .i64 k, .string t] 32) = W1 := ⟨_, rfl⟩
  have h1 : RingS W1 R b s := by rw [← hW1]; exact h.alloc _
  have hO : Only R w W1 := by rw [← hW1]; exact (Only.refl R w).alloc _
  have hB1 : Below w.heap.size w W1 := by rw [← hW1]; exact (Below.refl _ w).alloc (Nat.le_refl _) _
  have bx : Bx W1 w.heap.size 32 (.int .i64 k) (.string t) := by rw [← hW1]; exact Bx.new w _ _ _
  have b0 := bx.c0
  have b1 := bx.c1
  have H1 := Lib.hid h1
  have HO := Lib.hid hO
  by_cases h0 : k = 0
  · subst h0
    have Hp := Lib.hid (push_callsS W1 R b s h1 t)
    clear h h1 hO hB1 bx hs
    go_enter Try.func13, Try.ntmps13
    go_wp2_with fail
    refine Hp.out.mono ?_
    rintro e w2 ⟨rfl, hto⟩
    have Hto := Lib.hid (hto.from_ HO.out)
    clear hto Hp hW1
    go_wp2
    go_ret
    exact ⟨b, rfl, Hto.out⟩
  have d0 : (k == 0) = false := beq_eq_false_iff_ne.2 h0
  by_cases hk1 : k = 1
  · subst hk1
    have Hc := Lib.hid (change_callsS W1 R b s h1 32 #[.pointer (some ⟨w.heap.size, 0, none⟩)] (enters_of Try.func32 (by kernel_rfl) rfl) (· ++ t)
      (fun W x hb hx => cat_calls x t w.heap.size W ((hb.cell (p := ⟨w.heap.size, 1, none⟩) bx.lt).trans b1) (hs x (List.mem_of_getElem? hx))))
    clear h h1 hO hB1 bx hs
    go_enter Try.func13, Try.ntmps13
    go_wp2_with fail
    refine Hc.out.mono ?_
    rintro e w2 ⟨rfl, hto⟩
    have Hto := Lib.hid (hto.from_ HO.out)
    clear hto Hc hW1
    go_wp2
    go_ret
    exact ⟨b, rfl, Hto.out⟩
  have d1 : (k == 1) = false := beq_eq_false_iff_ne.2 hk1
  by_cases hk2 : k = 2
  · subst hk2
    have Hc := Lib.hid (turn_callsS W1 R b s h1)
    clear h h1 hO hB1 bx hs
    go_enter Try.func13, Try.ntmps13
    go_wp2_with fail
    refine Hc.out.mono ?_
    rintro e w2 ⟨rfl, hto⟩
    have Hto := Lib.hid (hto.from_ HO.out)
    clear hto Hc hW1
    go_wp2
    go_ret
    exact ⟨b, rfl, Hto.out⟩
  have d2 : (k == 2) = false := beq_eq_false_iff_ne.2 hk2
  by_cases hk3 : k = 3
  · subst hk3
    have Hc := Lib.hid (home_callsS W1 R b s h1)
    clear h h1 hO hB1 bx hs
    go_enter Try.func13, Try.ntmps13
    go_wp2_with fail
    refine Hc.out.mono ?_
    rintro e w2 ⟨rfl, hto⟩
    have Hto := Lib.hid (hto.from_ HO.out)
    clear hto Hc hW1
    go_wp2
    go_ret
    exact ⟨b, rfl, Hto.out⟩
  have d3 : (k == 3) = false := beq_eq_false_iff_ne.2 hk3
  have er : doR s ⟨k, t⟩ = s := by unfold doR; rw [if_neg h0, if_neg hk1, if_neg hk2, if_neg hk3]
  rw [er]
  by_cases hk4 : k = 4
  · subst hk4
    have Hc := Lib.hid (copy_callsS W1 R b s h1)
    have Hlt : Hid (∀ i, R i → i < w.heap.size) := Lib.hid h.lt
    clear h h1 hO hB1 bx hs d0 d1 d2 d3 er h0 hk1 hk2 hk3
    go_enter Try.func13, Try.ntmps13
    go_wp2_with fail
    refine Hc.out.mono ?_
    rintro e w2 ⟨rfl, hb2, Rc, rc, hRc⟩
    have Hr2 := Lib.hid (H1.out.below hb2)
    have Hp := Lib.hid (push_callsS w2 R b s Hr2.out ⟨#[110, 111, 110, 101]⟩)
    have HO2 : Hid (Only R w w2) := Lib.hid (HO.out.trans (R' := fun _ => False) (Only.of_below hb2) (fun _ h => h.elim))
    have Hrc := Lib.hid rc
    have HRc := Lib.hid hRc
    clear hb2 rc hRc Hc
    go_wp2_with fail
    refine Hp.out.mono ?_
    rintro e w3 ⟨rfl, R3, r3, o3, f3⟩
    have Ht := Lib.hid (turn_callsS w3 R3 b _ r3)
    have HO3 : Hid (Only R w w3) := Lib.hid (HO2.out.trans o3 (fun _ h => .inl h))
    have Hrc3 : Hid (RingS w3 Rc W1.heap.size s) := Lib.hid (Hrc.out.keep o3 (fun i hi hr => by
      have q1 := HRc.out i hi
      have q2 := Hlt.out i hr
      have q3 := HO.out.size
      omega))
    have Hf3 := Lib.hid f3
    clear r3 o3 f3 Hp
    go_wp2_with fail
    refine Ht.out.mono ?_
    rintro e w4 ⟨rfl, R4, r4, o4, f4⟩
    have Hend : Hid (RingToS w R w4 W1.heap.size s) := Lib.hid ⟨Rc, Hrc3.out.keep o4 (fun i hi hr => by
        have q1 := HRc.out i hi
        have q3 := HO.out.size
        have q4 := Hrc.out.lt i hi
        rcases Hf3.out i hr with q | q
        · have q2 := Hlt.out i q
          omega
        · omega), HO3.out.trans o4 (fun i hi => (Hf3.out i hi).imp id (fun q => Nat.le_trans HO2.out.size q)), fun i hi => .inr (Nat.le_trans HO.out.size (HRc.out i hi))⟩
    clear r4 o4 f4 Ht
    go_wp2
    go_ret
    exact ⟨_, rfl, Hend.out⟩
  have d4 : (k == 4) = false := beq_eq_false_iff_ne.2 hk4
  have Hto : Hid (RingToS w R W1 b s) := Lib.hid (h1.refl.from_ hO)
  clear h h1 hO hB1 bx hs er h0 hk1 hk2 hk3 hk4
  go_enter Try.func13, Try.ntmps13
  go_wp2
  go_ret
  exact ⟨b, rfl, Hto.out⟩
end Go.Proofs.Ytdpijbaolaignaa
