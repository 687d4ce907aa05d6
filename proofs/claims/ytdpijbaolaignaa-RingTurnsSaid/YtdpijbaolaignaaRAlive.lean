/-
  'alive' of the statements of layer 5.
-/
import Derived.Test.YtdpijbaolaignaaCopyI
import Derived.Test.YtdpijbaolaignaaChangeI
import Derived.RangeFuncLeaves
namespace Go.Proofs.Ytdpijbaolaignaa
open Go Go.RowKit
set_option maxRecDepth 100000

abbrev InI (w W : World) (b : Nat) (s : RS Int) : Prop := RingIn (Value.int .i64) 3 67 w W b s
/-- Numbers pushed. -/
def pushed (lim : Nat) (l : List Int) : RS Int := ⟨lim, l.reverse.take lim, 0⟩
theorem pushed_push (lim : Nat) (hl : 1 ≤ lim) (l : List Int) (x : Int) : (pushed lim l).push x = pushed lim (l ++ [x]) := by
  have := RS.push_last lim hl l x 0
  unfold pushed
  rw [← this]; rfl
def ups (k : Nat) : List Int := (List.range k).map fun (j : Nat) => (j : Int)
theorem ups_succ (k : Nat) : ups (k + 1) = ups k ++ [(k : Int)] := by simp [ups, List.range_succ]
theorem ten_calls (x : Int) (w : World) : Calls Try.prog 31 #[.int .i64 x] w fun e w' => e = .returned (.int .i64 (wrap64 (10 * x))) ∧ Below w.heap.size w w' := by
  go_enter Try.func31, Try.ntmps31
  go_wp2
  go_ret
  exact ⟨rfl, Below.refl _ _⟩

set_option maxHeartbeats 4000000 in
theorem ralive_calls (w : World) :
    Calls Try.prog 10 #[] w fun e w' => e = .returned (.bool true) ∧ Below w.heap.size w w' := by
  go_enter Try.func10, Try.ntmps10
  go_wp2_with fail
  refine (new_callsI 2 w).mono ?_
  rintro e w1 ⟨rfl, hw1⟩
  have h1 : InI w w1 w.heap.size (pushed 2 []) := by
    subst hw1
    exact ⟨_, newRingI 2 w, fun k e => by rw [e]; exact Nat.le_refl _, (Below.refl _ w).alloc (Nat.le_refl _) _⟩
  have H1 := Lib.hid h1
  clear h1 hw1
  obtain ⟨R1, r1, _⟩ := H1.out
  have ht := top_callsI _ _ _ _ r1
  rw [show (pushed 2 []).l.getD (pushed 2 []).i 0 = 0 from rfl, show decide (0 < (pushed 2 []).l.length) = false from rfl] at ht
  have Ht := Lib.hid ht
  clear ht r1
  go_wp2_with fail
  refine Ht.out.mono ?_
  rintro e w2 ⟨rfl, hb2⟩
  have H2 := Lib.hid (H1.out.below hb2)
  clear hb2 Ht H1
  go_wp2_with fail
  go_loopw [20] (fun v20 wr => ∃ k : Nat, k ≤ 3 ∧ v20 = .int .i64 (k : Int) ∧ Hid (InI w wr w.heap.size (pushed 2 (ups k)))) (fun v20 _ => 3 - (intOf v20).toNat)
  case atStart => exact ⟨0, by omega, rfl, H2⟩
  case round =>
    obtain ⟨k, hk, rfl, hr⟩ := hrel
    clear H2
    by_cases hlt : k < 3
    · obtain ⟨R, r, hge, hB⟩ := hr.out
      have Hp := Lib.hid (push_callsI wr R _ _ r (k : Int))
      have HB := Lib.hid hB
      clear r hB hr
      go_wp2_with fail
      refine Hp.out.mono ?_
      rintro e w3 ⟨rfl, hto⟩
      have Hn : Hid (InI w w3 w.heap.size (pushed 2 (ups (k + 1)))) := Lib.hid (by
        rw [ups_succ, ← pushed_push 2 (by omega)]
        exact hto.inn hge HB.out)
      clear hto Hp HB hge
      go_wp2_with fail
      go_roundw
      case rel => exact ⟨k + 1, by omega, by go_num, Hn⟩
      case measure => simp [intOf]; omega
    · obtain rfl : k = 3 := by omega
      have H3 : Hid (InI w wr w.heap.size ⟨2, [2, 1], 0⟩) := hr
      clear hr hlt hk
      obtain ⟨R, r, hge, hB⟩ := H3.out
      have HB := Lib.hid hB
      have Hge := Lib.hid hge
      have ht : Calls Try.prog 28 #[.pointer (some ⟨w.heap.size, 0, none⟩)] wr fun e w' => e = .returned (.tuple #[.int .i64 1, .bool true]) ∧ RingToI wr R w' w.heap.size ⟨2, [2, 1], 1⟩ := turn_callsI _ _ _ _ r
      have Ht := Lib.hid ht
      clear r hB hge ht H3
      go_wp2_with fail
      refine Ht.out.mono ?_
      rintro e w3 ⟨rfl, hto⟩
      have H4 : Hid (InI w w3 w.heap.size ⟨2, [2, 1], 1⟩) := Lib.hid (hto.inn Hge.out HB.out)
      clear hto Ht HB Hge
      obtain ⟨R4, r4, hge4, hB4⟩ := H4.out
      have Hlt := Lib.hid (fun k (hk : R4 k) => r4.lt k hk)
      have Hr4 := Lib.hid r4
      have Hge4 := Lib.hid hge4
      have HB4 := Lib.hid hB4
      have Hc := Lib.hid (copy_callsI _ _ _ _ r4)
      clear r4 hge4 hB4 H4
      go_wp2_with fail
      refine Hc.out.mono ?_
      rintro e w5 ⟨rfl, hb5, Rc, rc, hRc⟩
      have HB5 := Lib.hid (HB4.out.trans (hb5.mono HB4.out.size))
      have r5 := Hr4.out.below hb5
      have hrc2 : ∀ w6, Only R4 w5 w6 → RingI w6 Rc w3.heap.size ⟨2, [2, 1], 1⟩ := fun w6 ho => rc.keep ho (fun k hk h4 => by
        have h1 := hRc k hk
        have h2 := Hlt.out k h4
        omega)
      have Hrc2 := Lib.hid hrc2
      have ht5 : Calls Try.prog 28 #[.pointer (some ⟨w.heap.size, 0, none⟩)] w5 fun e w' => e = .returned (.tuple #[.int .i64 2, .bool true]) ∧ RingToI w5 R4 w' w.heap.size ⟨2, [2, 1], 0⟩ := turn_callsI _ _ _ _ r5
      have Ht5 := Lib.hid ht5
      clear hb5 rc hRc hrc2 r5 ht5 Hc Hr4 HB4 Hlt
      go_wp2_with fail
      refine Ht5.out.mono ?_
      rintro e w6 ⟨rfl, hto6⟩
      have H6 : Hid (InI w w6 w.heap.size ⟨2, [2, 1], 0⟩) := Lib.hid (hto6.inn Hge4.out HB5.out)
      have htop : Calls Try.prog 27 #[.pointer (some ⟨w3.heap.size, 0, none⟩)] w6 fun e w' => e = .returned (.tuple #[.int .i64 1, .bool true]) ∧ Below w6.heap.size w6 w' := by
        obtain ⟨_, _, ho, _⟩ := hto6
        exact top_callsI _ _ _ _ (Hrc2.out w6 ho)
      have Htop := Lib.hid htop
      clear hto6 Ht5 Hge4 HB5 Hrc2 htop
      go_wp2_with fail
      refine Htop.out.mono ?_
      rintro e w7 ⟨rfl, hb7⟩
      have H7 := Lib.hid (H6.out.below hb7)
      clear hb7 H6 Htop
      obtain ⟨R7, r7, hge7, hB7⟩ := H7.out
      have Hl : Hid (Calls Try.prog 23 #[.pointer (some ⟨w.heap.size, 0, none⟩)] w7 fun e w' => e = .returned (.int .i64 2) ∧ w7 = w') := Lib.hid (len_callsI _ _ _ _ r7)
      have Hn := Lib.hid (change_nilI _ _ _ _ r7)
      have Hch : Hid (Calls Try.prog 30 #[.pointer (some ⟨w.heap.size, 0, none⟩), .func (.func 31) #[] #[]] w7 fun e w' => e = .returned (.bool true) ∧ RingToI w7 R7 w' w.heap.size ((⟨2, [2, 1], 0⟩ : RS Int).change fun x => wrap64 (10 * x))) :=
        Lib.hid (change_callsI _ _ _ _ r7 31 #[] (enters_of Try.func31 (by kernel_rfl) rfl) (fun x => wrap64 (10 * x)) (fun W x _ _ => ten_calls x W))
      have HB7 := Lib.hid hB7
      have Hge7 := Lib.hid hge7
      clear r7 hge7 hB7 H7
      go_wp2_with fail
      refine Hl.out.mono ?_
      rintro e w8 ⟨rfl, rfl⟩
      go_wp2_with fail
      refine Hn.out.mono ?_
      rintro e w9 ⟨rfl, rfl⟩
      go_wp2_with fail
      refine Hch.out.mono ?_
      rintro e w10 ⟨rfl, hto10⟩
      have HB10 := Lib.hid (hto10.inn Hge7.out HB7.out).bel
      clear hto10 Hch Hn Hl
      go_wp2
      go_ret
      exact ⟨rfl, HB10.out⟩
end Go.Proofs.Ytdpijbaolaignaa
