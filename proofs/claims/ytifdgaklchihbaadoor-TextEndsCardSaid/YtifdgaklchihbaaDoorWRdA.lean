/-
  Cut and Bounds, and the document's own, as rows that read.
-/
import Derived.Test.YtifdgaklchihbaaDoorCuts
import Derived.Test.YtifdgaklchihbaaDoorRefBnd
namespace Go.Proofs.YtifdgaklchihbaaDoor
open Go Go.RowKit

theorem cut_rd (l : List UInt8) (hl : l.length ≤ 1099511627776) (w : World) (hsp : Spans w) :
    Calls Tryd.prog 46 #[.string (bs l)] w fun e w' => ∃ A c, e = .returned (.slice A (cutL l).length c) ∧ RdS w' A ((cutL l).map bs) ∧ Below w.heap.size w w' := by
  refine (cut_calls (bs l) (by rw [bs_size]; exact hl) w hsp).mono ?_
  rintro e w' ⟨v, rfl, hown, hb⟩
  rw [show cutB (bs l) = (cutL l).map bs from rfl] at hown
  obtain ⟨A, c, rfl⟩ := own_form hown
  obtain ⟨hR, _, _, _⟩ := rdS_of_own hown
  exact ⟨A, c, by rw [List.length_map], hR, hb⟩
theorem rcut_rd (l : List UInt8) (hl : l.length ≤ 1099511627776) (w : World) :
    Calls Tryd.prog 24 #[.string (bs l)] w fun e w' => ∃ A c, e = .returned (.slice A (cutL l).length c) ∧ RdS w' A ((cutL l).map bs) ∧ Below w.heap.size w w' := by
  refine (rcut_calls l w hl).mono ?_
  rintro e w' ⟨v, rfl, hown, hb⟩
  rw [← List.length_map (f := bs)] at hown
  obtain ⟨A, c, rfl⟩ := own_form hown
  obtain ⟨hR, _, _, _⟩ := rdS_of_own hown
  exact ⟨A, c, by rw [List.length_map], hR, hb⟩
theorem bounds_rd (l : List UInt8) (hl : l.length ≤ 1099511627776) (w : World) (hsp : Spans w) :
    Calls Tryd.prog 33 #[.string (bs l)] w fun e w' => ∃ A c, e = .returned (.slice A (boundsL l).length c) ∧ Rd64 w' A (boundsL l) ∧ Below w.heap.size w w' := by
  refine (bounds_calls (bs l) (by rw [bs_size]; exact hl) w hsp).mono ?_
  rintro e w' ⟨v, rfl, hown, hb⟩
  rw [show (bs l).data.toList = l from rfl] at hown
  obtain ⟨A, c, rfl⟩ := own_form hown
  obtain ⟨hR, _, _, _⟩ := rd64_of_own hown
  exact ⟨A, c, rfl, hR, hb⟩
theorem rbounds_rd (l : List UInt8) (hl : l.length ≤ 1099511627776) (w : World) :
    Calls Tryd.prog 50 #[.string (bs l)] w fun e w' => ∃ A c, e = .returned (.slice A (boundsL l).length c) ∧ Rd64 w' A (boundsL l) ∧ Below w.heap.size w w' := by
  refine (rbounds_calls l w hl).mono ?_
  rintro e w' ⟨v, rfl, hown, hb⟩
  obtain ⟨A, c, rfl⟩ := own_form hown
  obtain ⟨hR, _, _, _⟩ := rd64_of_own hown
  exact ⟨A, c, rfl, hR, hb⟩
theorem rdS_at {w : World} {A : Option Addr} {cs : List (List UInt8)} (h : RdS w A (cs.map bs)) (hn : 0 < cs.length) :
    ∃ g o, A = some ⟨g, o, none⟩ ∧ g < w.heap.size ∧ ∀ i, i < cs.length → w.cell? ⟨g, o + i, none⟩ = some (.string (bs (cs.getD i []))) := by
  obtain ⟨g, o, e, h1, h2⟩ := h (by rw [List.length_map]; exact hn)
  exact ⟨g, o, e, h1, fun i hi => by rw [h2 i (by rw [List.length_map]; exact hi), getD_bs]⟩
theorem bs_of (s : ByteArray) : bs s.data.toList = s := rfl
end Go.Proofs.YtifdgaklchihbaaDoor
