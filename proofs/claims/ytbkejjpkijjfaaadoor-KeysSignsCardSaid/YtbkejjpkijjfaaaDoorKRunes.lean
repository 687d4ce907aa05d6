/-
  A text as signs: Go's own conversion.
-/
import Derived.Test.YtbkejjpkijjfaaaDoorBs
import Derived.Test.YtbkejjpkijjfaaaDoorRowB
import Derived.Test.YtbkejjpkijjfaaaDoorRowR
import Derived.Laws.IdiomStrings
namespace Go.Proofs.YtbkejjpkijjfaaaDoor
open Go Go.RowKit

theorem runesFrom_eq (s : ByteArray) : ∀ (bound i : Nat) (acc : Array Value), s.size ≤ i + bound → (Conv.runesFrom s bound i acc).toList = acc.toList ++ cells32 (runes (s.data.toList.drop i))
  | 0, i, acc, h => by
    rw [List.drop_eq_nil_of_le (by rw [← Lib.size_eq]; omega)]
    simp [Conv.runesFrom, runes_nil, cells32]
  | bound + 1, i, acc, h => by
    unfold Conv.runesFrom
    by_cases hi : i < s.size
    · have hw := Lib.width_pos s i
      rw [if_pos hi, runes_drop s i hi]
      simp only
      rw [runesFrom_eq s bound _ _ (by omega)]
      simp [cells32]
    · rw [if_neg hi, List.drop_eq_nil_of_le (by rw [← Lib.size_eq]; omega)]
      simp [runes_nil, cells32]
theorem conv_runes (l : List UInt8) (hl : (runes l).length ≤ 70368744177664) (W : World) :
    ∃ c W', (convert 9 46 (.string (bs l))).run Tryd.prog W = .ok (.slice (some ⟨W.heap.size, 0, none⟩) (runes l).length c) W' ∧ W'.ownsRow W.heap.size 21 1 (.slice (some ⟨W.heap.size, 0, none⟩) (runes l).length c) (runes l).length (cells32 (runes l)) ∧ Below W.heap.size W W' := by
  have he := runesFrom_eq (bs l) (bs l).size 0 #[] (by omega)
  have hd : (bs l).data.toList.drop 0 = l := rfl
  rw [hd] at he
  have hsz : (Conv.runesFrom (bs l) (bs l).size 0 #[]).size = (runes l).length := by
    rw [← Array.length_toList, he]; simp [cells32]
  have h := run_runes_of_string (P := Tryd.prog) W 9 46 21 (bs l) Tryd.underlying9 Tryd.underlying46 Tryd.underlying21 (by rw [hsz]; omega)
  rw [hsz] at h
  have hge := grownCap_ge W (runes l).length 0 21
  refine ⟨_, _, h, ⟨by rw [cells32_length, Nat.mul_one], .inr ⟨W.heap.size, _, _, rfl, Nat.le_refl _, heap_alloc_new W.drew _, hge, grownCap_le_maxLen W (runes l).length 0 21 (by unfold maxLen; omega), ?_, ?_⟩⟩, ((Below.refl _ W).drew).alloc (Nat.le_refl _) _⟩
  · rw [Array.size_append, hsz, Array.size_replicate]; omega
  · rw [Nat.mul_one, Array.toList_append, he]
    simp [cells32]
end Go.Proofs.YtbkejjpkijjfaaaDoor
