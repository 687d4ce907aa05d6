/-
  width.Of and width.Control: what the calls come to, in any memory in which the table lies.
-/
import Derived.Test.YtifdgaklchihbaaDoorRow
import Derived.Test.YtifdgaklchihbaaDoorCutMath
import Derived.Laws.Rows
namespace Go.Proofs.YtifdgaklchihbaaDoor
open Go Go.RowKit

def spanCells : Array Value := (spansL.flatMap fun x => [Value.int .i32 x.1, Value.int .i32 x.2.1, Value.int .i64 (x.2.2 : Int)]).toArray
/-- The table lies where the program's text lays it. -/
def Spans (w : World) : Prop := ∃ t fr, w.heap[0]? = some (.cells spanCells t fr)
theorem spans_below {w w' : World} (h : Spans w) (hb : Below w.heap.size w w') : Spans w' := by
  obtain ⟨t, fr, h⟩ := h
  exact ⟨t, fr, (hb.block _ (Array.getElem?_eq_some_iff.1 h).1).trans h⟩
def spanAt (k : Nat) : Int × Int × Nat := spansL.getD k (0, 0, 0)
theorem span_index (k : Nat) (hk : k < 17) : ∀ W : World, (Instr.index 94 (.agg spanCells) (.int .i64 (k : Int))).run Tryd.prog W = .ok (.agg #[.int .i32 (spanAt k).1, .int .i32 (spanAt k).2.1, .int .i64 ((spanAt k).2.2 : Int)]) W := by
  have h : k = 0 ∨ k = 1 ∨ k = 2 ∨ k = 3 ∨ k = 4 ∨ k = 5 ∨ k = 6 ∨ k = 7 ∨ k = 8 ∨ k = 9 ∨ k = 10 ∨ k = 11 ∨ k = 12 ∨ k = 13 ∨ k = 14 ∨ k = 15 ∨ k = 16 := by omega
  rcases h with rfl | rfl | rfl | rfl | rfl | rfl | rfl | rfl | rfl | rfl | rfl | rfl | rfl | rfl | rfl | rfl | rfl <;> exact fun W => by kernel_rfl
theorem span_bounds (k : Nat) (hk : k < 17) : 0 ≤ (spanAt k).1 ∧ (spanAt k).1 ≤ 2147483647 ∧ 0 ≤ (spanAt k).2.1 ∧ (spanAt k).2.1 ≤ 2147483647 ∧ (spanAt k).2.2 ≤ 2 := by
  have h : k = 0 ∨ k = 1 ∨ k = 2 ∨ k = 3 ∨ k = 4 ∨ k = 5 ∨ k = 6 ∨ k = 7 ∨ k = 8 ∨ k = 9 ∨ k = 10 ∨ k = 11 ∨ k = 12 ∨ k = 13 ∨ k = 14 ∨ k = 15 ∨ k = 16 := by omega
  rcases h with rfl | rfl | rfl | rfl | rfl | rfl | rfl | rfl | rfl | rfl | rfl | rfl | rfl | rfl | rfl | rfl | rfl <;> decide
theorem of_drop (k : Nat) (hk : k < 17) (r : Int) : ofF (spansL.drop k) r = if (spanAt k).1 ≤ r ∧ r ≤ (spanAt k).2.1 then (spanAt k).2.2 else ofF (spansL.drop (k + 1)) r := by
  have hl : spansL.length = 17 := rfl
  have hk' : k < spansL.length := by rw [hl]; exact hk
  rw [List.drop_eq_getElem_cons hk']
  have e : spanAt k = spansL[k] := by simp [spanAt, List.getD, hk']
  rw [e]; rfl

set_option maxHeartbeats 2000000 in
theorem of_calls (r : Int) (w : World) (hs : Spans w) :
    Calls Tryd.prog 60 #[.int .i32 r] w fun e w' => e = .returned (.int .i64 (ofL r : Int)) ∧ Below w.heap.size w w' := by
  obtain ⟨t, fr, hh⟩ := hs
  go_enter Tryd.func60, Tryd.ntmps60
  go_wp2_with (refine wpList_load_row rfl _ _ rfl 0 rfl t spanCells fr _ hh Tryd.underlying94 rfl (by kernel_rfl) ?_)
  go_loopw [6] (fun i wr => ∃ k : Nat, k ≤ 17 ∧ i = .int .i64 (k : Int) ∧ Below w.heap.size w wr ∧ Hid (ofF (spansL.drop k) r = ofL r)) (fun i _ => 17 - (intOf i).toNat)
  case atStart => exact ⟨0, by omega, rfl, Below.refl _ _, Lib.hid rfl⟩
  case round =>
    obtain ⟨k, hk, rfl, hb, hof⟩ := hrel
    by_cases hlt : k < 17
    · have hix := span_index k hlt
      have hbo := span_bounds k hlt
      have hd := of_drop k hlt r
      have Hd := Lib.hid hd
      clear hd
      generalize spanAt k = x at *
      obtain ⟨lo, hi, c⟩ := x
      simp only at hix hbo
      by_cases h1 : lo ≤ r
      · by_cases h2 : r ≤ hi
        · go_wp2
          go_ret
          refine ⟨?_, hb.alloc hb.size _⟩
          have e := Hd.out
          rw [if_pos ⟨h1, h2⟩, hof.out] at e
          rw [e]; rfl
        · go_wp2
          go_roundw
          case rel =>
            refine ⟨k + 1, by omega, by go_num, hb.alloc hb.size _, Lib.hid ?_⟩
            have e := Hd.out
            rw [if_neg (fun h => h2 h.2), hof.out] at e
            exact e.symm
          case measure => simp [intOf]; omega
      · go_wp2
        go_roundw
        case rel =>
          refine ⟨k + 1, by omega, by go_num, hb.alloc hb.size _, Lib.hid ?_⟩
          have e := Hd.out
          rw [if_neg (fun h => h1 h.1), hof.out] at e
          exact e.symm
        case measure => simp [intOf]; omega
    · obtain rfl : k = 17 := by omega
      go_wp2
      go_ret
      have e := hof.out
      refine ⟨?_, hb⟩
      rw [← e]; rfl

set_option maxHeartbeats 1000000 in
theorem ctl_calls (r : Int) (w : World) (hr0 : -2147483648 ≤ r) (hr1 : r ≤ 2147483647) :
    Calls Tryd.prog 36 #[.int .i32 r] w fun e w' => e = .returned (.bool (ctlL r)) ∧ w = w' := by
  by_cases h1 : r < 32
  · have e : ctlL r = true := decide_eq_true (.inl h1)
    rw [e]
    go_enter Tryd.func36, Tryd.ntmps36
    go_wp2
    go_ret
    exact ⟨rfl, rfl⟩
  by_cases h2 : 127 ≤ r
  · by_cases h3 : r ≤ 159
    · have e : ctlL r = true := decide_eq_true (.inr ⟨h2, h3⟩)
      rw [e]
      go_enter Tryd.func36, Tryd.ntmps36
      go_wp2
      go_ret
      exact ⟨rfl, rfl⟩
    · have e : ctlL r = false := decide_eq_false (by omega)
      rw [e]
      go_enter Tryd.func36, Tryd.ntmps36
      go_wp2
      go_ret
      exact ⟨rfl, rfl⟩
  · have e : ctlL r = false := decide_eq_false (by omega)
    rw [e]
    go_enter Tryd.func36, Tryd.ntmps36
    go_wp2
    go_ret
    exact ⟨rfl, rfl⟩
end Go.Proofs.YtifdgaklchihbaaDoor
