/-
  keys.sequenceKind: what the call comes to, in any memory.
-/
import Derived.Test.YtbkejjpkijjfaaaDoorKLeaf
import Derived.Test.YtbkejjpkijjfaaaDoorRowB
namespace Go.Proofs.YtbkejjpkijjfaaaDoor
open Go Go.RowKit
set_option maxRecDepth 100000

set_option maxHeartbeats 4000000 in
theorem seqKind_calls (s : List UInt8) (x : UInt8) (w : World) (hs : s.length ≤ 1099511627776) :
    Calls Tryd.prog 70 #[.string (bs s), .int .u8 (x.toNat : Int)] w fun e w' => e = .returned (.int .i64 (seqL s x.toNat : Int)) ∧ Below w.heap.size w w' := by
  have hcv : (convert 27 9 (.slice (some ⟨w.heap.size, 0, none⟩) 1 1)).run Tryd.prog (w.alloc (.cells #[.int .u8 (x.toNat : Int)] 5)) = .ok (.string (bs [x])) (w.alloc (.cells #[.int .u8 (x.toNat : Int)] 5)) :=
    (byt_lit w [x]).convert (P := Tryd.prog) 1 27 5 9 Tryd.underlying27 Tryd.underlying5 Tryd.underlying9 1 rfl
  have hadd := add_bs Tryd.prog s [x] (by simp; omega)
  have hbel : Hid (Below w.heap.size w (w.alloc (.cells #[.int .u8 (x.toNat : Int)] 5))) := Lib.hid ((Below.refl _ w).alloc (Nat.le_refl _) _)
  have hx := x.toNat_lt
  have Hs := Lib.hid hs
  clear hs
  by_cases h0 : s ++ [x] = [49, 59, 51] ++ [67]
  · have E : seqL s x.toNat = 10 := by
      obtain ⟨rfl, hx2⟩ := List.append_inj' h0 rfl
      obtain rfl : x = 67 := by simpa using hx2
      decide
    have ek : (s ++ [x] == [49, 59, 51, 67]) = true := beq_iff_eq.2 h0
    rw [E]
    clear E h0
    generalize s ++ [x] = v at *
    generalize x.toNat = y at *
    go_enter Tryd.func70, Tryd.ntmps70
    go_wp2
    go_ret
    exact ⟨rfl, hbel.out⟩
  have e0 : (s ++ [x] == [49, 59, 51, 67]) = false := beq_eq_false_iff_ne.2 h0
  by_cases h1' : s ++ [x] = [49, 59, 53] ++ [67]
  · have E : seqL s x.toNat = 10 := by
      obtain ⟨rfl, hx2⟩ := List.append_inj' h1' rfl
      obtain rfl : x = 67 := by simpa using hx2
      decide
    have ek : (s ++ [x] == [49, 59, 53, 67]) = true := beq_iff_eq.2 h1'
    rw [E]
    clear E h1'
    generalize s ++ [x] = v at *
    generalize x.toNat = y at *
    go_enter Tryd.func70, Tryd.ntmps70
    go_wp2
    go_ret
    exact ⟨rfl, hbel.out⟩
  have e1 : (s ++ [x] == [49, 59, 53, 67]) = false := beq_eq_false_iff_ne.2 h1'
  by_cases h2 : s ++ [x] = [49, 59, 51] ++ [68]
  · have E : seqL s x.toNat = 9 := by
      obtain ⟨rfl, hx2⟩ := List.append_inj' h2 rfl
      obtain rfl : x = 68 := by simpa using hx2
      decide
    have ek : (s ++ [x] == [49, 59, 51, 68]) = true := beq_iff_eq.2 h2
    rw [E]
    clear E h2
    generalize s ++ [x] = v at *
    generalize x.toNat = y at *
    go_enter Tryd.func70, Tryd.ntmps70
    go_wp2
    go_ret
    exact ⟨rfl, hbel.out⟩
  have e2 : (s ++ [x] == [49, 59, 51, 68]) = false := beq_eq_false_iff_ne.2 h2
  by_cases h3 : s ++ [x] = [49, 59, 53] ++ [68]
  · have E : seqL s x.toNat = 9 := by
      obtain ⟨rfl, hx2⟩ := List.append_inj' h3 rfl
      obtain rfl : x = 68 := by simpa using hx2
      decide
    have ek : (s ++ [x] == [49, 59, 53, 68]) = true := beq_iff_eq.2 h3
    rw [E]
    clear E h3
    generalize s ++ [x] = v at *
    generalize x.toNat = y at *
    go_enter Tryd.func70, Tryd.ntmps70
    go_wp2
    go_ret
    exact ⟨rfl, hbel.out⟩
  have e3 : (s ++ [x] == [49, 59, 53, 68]) = false := beq_eq_false_iff_ne.2 h3
  by_cases h4 : s ++ [x] = [49] ++ [126]
  · have E : seqL s x.toNat = 7 := by
      obtain ⟨rfl, hx2⟩ := List.append_inj' h4 rfl
      obtain rfl : x = 126 := by simpa using hx2
      decide
    have ek : (s ++ [x] == [49, 126]) = true := beq_iff_eq.2 h4
    rw [E]
    clear E h4
    generalize s ++ [x] = v at *
    generalize x.toNat = y at *
    go_enter Tryd.func70, Tryd.ntmps70
    go_wp2
    go_ret
    exact ⟨rfl, hbel.out⟩
  have e4 : (s ++ [x] == [49, 126]) = false := beq_eq_false_iff_ne.2 h4
  by_cases h5 : s ++ [x] = [55] ++ [126]
  · have E : seqL s x.toNat = 7 := by
      obtain ⟨rfl, hx2⟩ := List.append_inj' h5 rfl
      obtain rfl : x = 126 := by simpa using hx2
      decide
    have ek : (s ++ [x] == [55, 126]) = true := beq_iff_eq.2 h5
    rw [E]
    clear E h5
    generalize s ++ [x] = v at *
    generalize x.toNat = y at *
    go_enter Tryd.func70, Tryd.ntmps70
    go_wp2
    go_ret
    exact ⟨rfl, hbel.out⟩
  have e5 : (s ++ [x] == [55, 126]) = false := beq_eq_false_iff_ne.2 h5
  by_cases h6 : s ++ [x] = [52] ++ [126]
  · have E : seqL s x.toNat = 8 := by
      obtain ⟨rfl, hx2⟩ := List.append_inj' h6 rfl
      obtain rfl : x = 126 := by simpa using hx2
      decide
    have ek : (s ++ [x] == [52, 126]) = true := beq_iff_eq.2 h6
    rw [E]
    clear E h6
    generalize s ++ [x] = v at *
    generalize x.toNat = y at *
    go_enter Tryd.func70, Tryd.ntmps70
    go_wp2
    go_ret
    exact ⟨rfl, hbel.out⟩
  have e6 : (s ++ [x] == [52, 126]) = false := beq_eq_false_iff_ne.2 h6
  by_cases h7 : s ++ [x] = [56] ++ [126]
  · have E : seqL s x.toNat = 8 := by
      obtain ⟨rfl, hx2⟩ := List.append_inj' h7 rfl
      obtain rfl : x = 126 := by simpa using hx2
      decide
    have ek : (s ++ [x] == [56, 126]) = true := beq_iff_eq.2 h7
    rw [E]
    clear E h7
    generalize s ++ [x] = v at *
    generalize x.toNat = y at *
    go_enter Tryd.func70, Tryd.ntmps70
    go_wp2
    go_ret
    exact ⟨rfl, hbel.out⟩
  have e7 : (s ++ [x] == [56, 126]) = false := beq_eq_false_iff_ne.2 h7
  by_cases h8 : s ++ [x] = [51] ++ [126]
  · have E : seqL s x.toNat = 4 := by
      obtain ⟨rfl, hx2⟩ := List.append_inj' h8 rfl
      obtain rfl : x = 126 := by simpa using hx2
      decide
    have ek : (s ++ [x] == [51, 126]) = true := beq_iff_eq.2 h8
    rw [E]
    clear E h8
    generalize s ++ [x] = v at *
    generalize x.toNat = y at *
    go_enter Tryd.func70, Tryd.ntmps70
    go_wp2
    go_ret
    exact ⟨rfl, hbel.out⟩
  have e8 : (s ++ [x] == [51, 126]) = false := beq_eq_false_iff_ne.2 h8
  have E : seqL s x.toNat = if s = [] then arrowL x.toNat else 0 := by
    have key : ∀ (t : List UInt8) (y : Nat), y < 256 → s = t → x.toNat = y → s ++ [x] = t ++ [UInt8.ofNat y] := fun t y hy h1 h2 => by
      rw [h1, ← h2]; simp
    unfold seqL
    by_cases hn : s = []
    · rw [if_pos hn, if_pos hn]
    rw [if_neg hn, if_neg hn]
    rw [if_neg (fun h => h.1.elim (fun h1 => h0 (key [49, 59, 51] 67 (by decide) h1 h.2)) (fun h1 => h1' (key [49, 59, 53] 67 (by decide) h1 h.2)))]
    rw [if_neg (fun h => h.1.elim (fun h1 => h2 (key [49, 59, 51] 68 (by decide) h1 h.2)) (fun h1 => h3 (key [49, 59, 53] 68 (by decide) h1 h.2)))]
    by_cases h126 : x.toNat = 126
    · rw [if_neg (by simp [h126])]
      rw [if_neg (fun h => h.elim (fun h1 => h4 (key [49] 126 (by decide) h1 h126)) (fun h1 => h5 (key [55] 126 (by decide) h1 h126)))]
      rw [if_neg (fun h => h.elim (fun h1 => h6 (key [52] 126 (by decide) h1 h126)) (fun h1 => h7 (key [56] 126 (by decide) h1 h126)))]
      rw [if_neg (fun h1 => h8 (key [51] 126 (by decide) h1 h126))]
    · rw [if_pos h126]
  rw [E]
  clear E h0 h1' h2 h3 h4 h5 h6 h7 h8
  by_cases hn : s = []
  · subst hn
    rw [if_pos rfl]
    generalize ([] : List UInt8) ++ [x] = v at *
    have HL := Lib.hid (letter_calls x.toNat (w.alloc (.cells #[.int .u8 (x.toNat : Int)] 5)))
    generalize x.toNat = y at *
    go_enter Tryd.func70, Tryd.ntmps70
    go_wp2_with fail
    refine HL.out.mono ?_
    rintro e w' ⟨rfl, rfl⟩
    go_wp2
    go_ret
    exact ⟨rfl, hbel.out⟩
  · have en : (s == []) = false := beq_eq_false_iff_ne.2 hn
    rw [if_neg hn]
    clear hn
    generalize s ++ [x] = v at *
    go_enter Tryd.func70, Tryd.ntmps70
    go_wp2
    go_ret
    exact ⟨rfl, hbel.out⟩
end Go.Proofs.YtbkejjpkijjfaaaDoor
