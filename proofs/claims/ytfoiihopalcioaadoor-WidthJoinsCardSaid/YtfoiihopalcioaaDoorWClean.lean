/-
  Clean texts: the document's own Clean of a text's bytes, and sums.
-/
import Derived.Test.YtfoiihopalcioaaDoorWRd
namespace Go.Proofs.YtfoiihopalcioaaDoor
open Go Go.RowKit

theorem rclean_str (l : List UInt8) (hm : l.length ≤ 1099511627776) (W : World) :
    Calls Tryd.prog 27 #[.slice (some ⟨W.heap.size, 0, none⟩) l.length (grownCap W l.length 0 5)] (Lib.bytesWorld W 5 (bs l)) fun e w' => ∃ A c, e = .returned (.slice A (cleanL l).length c) ∧ Byt w' A (cleanL l) ∧ Below W.heap.size W w' := by
  have kW := below_bytes W 5 (bs l)
  refine (rclean_calls _ (grownCap W l.length 0 5) l _ (byt_bytes W l) (grownCap_ge W l.length 0 5) (grownCap_le_maxLen W l.length 0 5 (by unfold maxLen; omega)) hm).mono ?_
  rintro e w' ⟨v, rfl, hown, hb⟩
  obtain ⟨A, c, rfl⟩ := own_form hown
  exact ⟨A, c, rfl, (byt_of_own hown).1, kW.trans (hb.mono kW.size)⟩
theorem conv_bs (l : List UInt8) (W : World) : (convert 9 38 (.string (bs l))).run Tryd.prog W = .ok (.slice (some ⟨W.heap.size, 0, none⟩) (bs l).size (grownCap W (bs l).size 0 5)) (Lib.bytesWorld W 5 (bs l)) :=
  Lib.run_convert_string_bytes (P := Tryd.prog) W 9 38 5 (bs l) Tryd.underlying9 Tryd.underlying38 Tryd.underlying5
theorem conv_str {w : World} {A : Option Addr} {l : List UInt8} (h : Byt w A l) (c : Nat) : (convert 38 9 (.slice A l.length c)).run Tryd.prog w = .ok (.string (bs l)) w :=
  h.convert (P := Tryd.prog) c 38 5 9 Tryd.underlying38 Tryd.underlying5 Tryd.underlying9 l.length rfl

theorem dot_dec (t : List UInt8) : Lib.decodeL (46 :: t) = (46, 1) := by
  have h := dec_enc 46 (by unfold Valid; omega) t
  rw [show Lib.encodeRune ((46 : Nat) : Int) = [46] by decide +kernel] at h
  exact h
theorem sum_dot (a t : List UInt8) : sumL (cleanL a ++ 46 :: t) = sumL (cleanL a) + sumL (46 :: t) := by
  unfold sumL
  rw [cut_join_wide a (46 :: t) (.inr (by rw [dot_dec]; rw [show ((46 : Nat) : Int) = 46 from rfl, ofL_dot]; decide)), wides_append]
theorem sumL_le (l : List UInt8) : sumL l ≤ 2 * l.length := by
  have h1 := wides_le (cutL l)
  have h2 := cutL_length l
  unfold sumL; omega
end Go.Proofs.YtfoiihopalcioaaDoor
