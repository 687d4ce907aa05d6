/-
  The document's own Runes and Clean; 'same' of the statements.
-/
import Derived.Test.YtbkejjpkijjfaaaDoorRowB
import Derived.Test.YtbkejjpkijjfaaaDoorRowI
import Derived.Test.YtbkejjpkijjfaaaDoorRefNext
namespace Go.Proofs.YtbkejjpkijjfaaaDoor
open Go Go.RowKit

/-- What stands at a round's head: l is left, acc was told. -/
def RunesL (w : World) (l0 : List UInt8) (v0 v3 : Value) (wr : World) (A : Option Addr) (c : Nat) (l : List UInt8) (acc : List Nat) : Prop :=
  v0 = .slice A l.length c ∧ l.length ≤ c ∧ c ≤ maxLen ∧ Byt w A l ∧ wr.ownsRow w.heap.size 3 1 v3 acc.length (cells64 acc) ∧ Below w.heap.size w wr ∧ acc.length + l.length ≤ l0.length ∧ acc ++ runes l = runes l0

set_option maxHeartbeats 4000000 in
theorem rrunes_calls (A : Option Addr) (c : Nat) (l0 : List UInt8) (w : World) (hb : Byt w A l0) (hlc : l0.length ≤ c) (hcm : c ≤ maxLen) (hl1 : l0.length ≤ 1099511627776) :
    Calls Tryd.prog 25 #[.slice A l0.length c] w fun e w' => ∃ v, e = .returned v ∧ w'.ownsRow w.heap.size 3 1 v (runes l0).length (cells64 (runes l0)) ∧ Below w.heap.size w w' := by
  obtain ⟨i1, hi1, hy0, hy1, hy2⟩ := info_parts info64
  go_enter Tryd.func25, Tryd.ntmps25
  go_wp2_with fail
  go_loopw [0, 3] (fun v0 v3 wr => ∃ A c l acc, RunesL w l0 v0 v3 wr A c l acc) (fun v0 _ _ => match v0 with | .slice _ n _ => n | _ => 0)
  case atStart => exact ⟨A, c, l0, [], rfl, hlc, hcm, hb, World.ownsRow_nil _ _ _ _, Below.refl _ _, by simp, by simp⟩
  case round =>
    clear hb hlc hcm
    obtain ⟨A, c, l, acc, rfl, hlc, hcm, hB, hown, hbel, hlen, hru⟩ := hrel
    have Hru := Lib.hid hru
    clear hru
    have hcm' : c ≤ 9223372036854775807 := by unfold maxLen at hcm; omega
    by_cases hp : 0 < l.length
    · have hne : l ≠ [] := List.length_pos_iff.1 hp
      have hwd := Lib.decodeL_width l
      have hle := Lib.decodeL_le l hne
      have hnx : nextL l = Lib.decodeL l := by simp [nextL, hne]
      have Hst := Lib.hid (runes_step l hne)
      have hcon := rnext_calls A c l wr (hB.below hbel) (by omega)
      unfold ToldNext at hcon
      rw [hnx] at hcon
      have Hcon := Lib.hid hcon
      have Hown := Lib.hid hown
      clear hcon hnx hne hown
      have hpos : decide ((0 : Int) < (l.length : Int)) = true := decide_eq_true (by omega)
      go_wp2_with fail
      refine Hcon.out.mono ?_
      rintro e w3 ⟨rfl, hb3⟩
      have hbel3 : Below w.heap.size w w3 := hbel.trans (hb3.mono hbel.size)
      have hown3 : w3.ownsRow w.heap.size 3 1 u3 acc.length (cells64 acc) := own_below (w := wr) Hown.out hb3
      have hw3 : w.heap.size ≤ w3.heap.size := hbel3.size
      have hsl := run_cut A c l (Lib.decodeL l).2 hle
      have Hown3 := Lib.hid hown3
      clear hown3 hb3 hbel Hown Hcon
      go_wp2_with (at_builtin; refine wpList_append_own _ rfl _ _ 41 rfl w.heap.size 3 i1 (.int .i64 0) 1 8 Tryd.underlying41 hi1 hy0 hy1 hy2 rfl (by decide) _ _ _ rfl (Hown3.out.alloc _) ⟨w3.heap.size, 0, none⟩ 1 1 [.int .i64 ((Lib.decodeL l).1 : Int)] rfl rfl ?c1 ?c2 ?c3 ?c4 ?c5 ?_)
      case c1 =>
        intro j u hj
        match j, hj with
        | 0, hj => simp at hj; subst hj; simp [Addr.add]
      case c2 => intro u hu; simp at hu; subst hu; rfl
      case c3 => unfold maxLen; omega
      case c4 => omega
      case c5 => simp; omega
      intro v' w5 hown5 hgrow _
      have Hown5 := Lib.hid hown5
      have hb5 : Below w.heap.size w w5 := (hbel3.alloc hw3 _).grown hgrow (by simp; omega) (fun k hk => (Hown3.out.lt k hk).1)
      clear hown5 hgrow
      go_wp2_with fail
      refine ⟨⟨dropA A c (Lib.decodeL l).2, c - (Lib.decodeL l).2, l.drop (Lib.decodeL l).2, acc ++ [(Lib.decodeL l).1], ?_, ?_, ?_, hB.drop c _ hlc, ?_, hb5, ?_, ?_⟩, ?_⟩
      · simp
      · simp; omega
      · unfold maxLen at hcm ⊢; omega
      · rw [cells64_snoc]; simpa using Hown5.out
      · simp; omega
      · rw [← Hru.out, Hst.out]; simp
      · show l.length - (Lib.decodeL l).2 < l.length
        omega
    · obtain rfl : l = [] := List.eq_nil_of_length_eq_zero (by omega)
      have hr : acc = runes l0 := by have := Hru.out; rwa [runes_nil, List.append_nil] at this
      subst hr
      have Hown := Lib.hid hown
      clear hown
      go_wp2
      go_ret
      exact ⟨_, rfl, Hown.out, hbel⟩
end Go.Proofs.YtbkejjpkijjfaaaDoor
