/-
  'few' of the statements of layer 3: are there so few bytes?
-/
import Derived.Test.YtifdgaklchihbaaDoorRowS
namespace Go.Proofs.YtifdgaklchihbaaDoor
open Go Go.RowKit

/-- How many bytes some texts have. -/
def tot (ls : List ByteArray) : Nat := (ls.map (·.size)).sum
theorem tot_take (ls : List ByteArray) (k : Nat) (hk : k < ls.length) : tot (ls.take (k + 1)) = tot (ls.take k) + (ls.getD k ⟨#[]⟩).size := by
  unfold tot
  rw [List.take_succ_eq_append_getElem hk, List.map_append, List.sum_append]
  simp [List.getD, hk]
theorem tot_le (ls : List ByteArray) (k : Nat) : tot (ls.take k) ≤ tot ls := by
  have e : tot ls = tot (ls.take k) + tot (ls.drop k) := by
    unfold tot
    rw [← List.sum_append, ← List.map_append, List.take_append_drop]
  omega
set_option maxHeartbeats 2000000 in
theorem few_calls (A : Option Addr) (c : Nat) (ls : List ByteArray) (w : World) (hR : RdS w A ls) (hs : tot ls ≤ 9223372036854775807) (hl : ls.length ≤ 1000) :
    Calls Tryd.prog 10 #[.slice A ls.length c] w fun e w' => e = .returned (.bool (decide (tot ls ≤ 1500))) ∧ w' = w := by
  have HR := Lib.hid hR
  have hb : Hid (decide (tot ls ≤ 1500) = decide ((tot ls : Int) ≤ 1500)) := Lib.hid (by
    rw [decide_eq_decide]
    omega)
  rw [hb.out]
  clear hR hb
  go_enter Tryd.func10, Tryd.ntmps10
  go_wp2_with fail
  go_loopw [3, 8] (fun v3 v8 wr => ∃ k : Nat, k ≤ ls.length ∧ v8 = .int .i64 (k : Int) ∧ v3 = .int .i64 (tot (ls.take k) : Int) ∧ wr = w) (fun _ v8 _ => ls.length - (intOf v8).toNat)
  case atStart => exact ⟨0, Nat.zero_le _, rfl, rfl, rfl⟩
  case round =>
    obtain ⟨k, hk, rfl, rfl, rfl⟩ := hrel
    by_cases hlt : k < ls.length
    · obtain ⟨g, o, rfl, hg, hc⟩ := HR.out (by omega)
      have ck := hc k hlt
      have hst := Lib.hid (tot_take ls k hlt)
      have hle := tot_le ls (k + 1)
      rw [hst.out] at hle
      have hkl : (k : Int) < (ls.length : Int) := by omega
      clear hc
      generalize ls.getD k ⟨#[]⟩ = s at *
      generalize hp : tot (ls.take k) = p at *
      have hw1 : IntKind.i64.wrap ((p : Int) + (s.size : Int)) = (p : Int) + (s.size : Int) := IntWalk.i64_in _ (by omega)
      have hw2 : IntKind.i64.wrap ((k : Int) + 1) = (k : Int) + 1 := IntWalk.i64_in _ (by omega)
      clear hp
      go_wp2
      go_roundw
      case rel => exact ⟨k + 1, by omega, by go_num, by rw [hst.out]; go_num, trivial⟩
      case measure => simp [intOf]; omega
    · have hd : decide ((k : Int) < (ls.length : Int)) = false := decide_eq_false (by omega)
      have e : ls.take k = ls := List.take_of_length_le (by omega)
      rw [e]
      clear e
      go_wp2
      go_ret
      exact ⟨rfl, rfl⟩
/-- One text, two texts: the row that the call is handed. -/
theorem few_one (s : ByteArray) (w : World) (hs : s.size ≤ 9223372036854775807) :
    Calls Tryd.prog 10 #[.slice (some ⟨w.heap.size, 0, none⟩) 1 1] (w.alloc (.cells #[.string s] 9)) fun e w' => e = .returned (.bool (decide (s.size ≤ 1500))) ∧ w' = w.alloc (.cells #[.string s] 9) := by
  have h := few_calls (some ⟨w.heap.size, 0, none⟩) 1 [s] (w.alloc (.cells #[.string s] 9)) (fun _ => ⟨w.heap.size, 0, rfl, by simp, fun i hi => by
    obtain rfl : i = 0 := by simpa using hi
    simp [World.cell?, World.alloc, -World.alloc_eq]⟩) (by simpa [tot] using hs) (by simp)
  simpa [tot] using h
theorem few_two (s t : ByteArray) (w : World) (hs : s.size + t.size ≤ 9223372036854775807) :
    Calls Tryd.prog 10 #[.slice (some ⟨w.heap.size, 0, none⟩) 2 2] (w.alloc (.cells #[.string s, .string t] 9)) fun e w' => e = .returned (.bool (decide (s.size + t.size ≤ 1500))) ∧ w' = w.alloc (.cells #[.string s, .string t] 9) := by
  have h := few_calls (some ⟨w.heap.size, 0, none⟩) 2 [s, t] (w.alloc (.cells #[.string s, .string t] 9)) (fun _ => ⟨w.heap.size, 0, rfl, by simp, fun i hi => by
    match i, hi with
    | 0, _ => simp [World.cell?, World.alloc, -World.alloc_eq]
    | 1, _ => simp [World.cell?, World.alloc, -World.alloc_eq]⟩) (by simpa [tot] using hs) (by simp)
  simpa [tot] using h
end Go.Proofs.YtifdgaklchihbaaDoor
