/-
  A decoder in memory; its Waits, Pasting and keepPasted.
-/
import Derived.Test.YtbkejjpkijjfaaaDoorKeyMath
import Derived.Test.YtbkejjpkijjfaaaDoorBs
import Derived.BigRegion
import Derived.IntWalk
namespace Go.Proofs.YtbkejjpkijjfaaaDoor
open Go Go.RowKit
set_option maxRecDepth 100000

/-- A decoder at block g. -/
def DecAt (w : World) (g : Nat) (d : Dec) : Prop := w.heap[g]? = some (.cells #[.string (bs d.w), .string (bs d.p), .int .i64 (d.e : Int), .bool d.t] 26 (0, 0))
section
variable {w w' : World} {g : Nat} {d : Dec}
theorem DecAt.lt (h : DecAt w g d) : g < w.heap.size := (Array.getElem?_eq_some_iff.1 h).1
theorem DecAt.c0 (h : DecAt w g d) : w.cell? ⟨g, 0, none⟩ = some (.string (bs d.w)) := by simp [World.cell?, show w.heap[g]? = _ from h]
theorem DecAt.c1 (h : DecAt w g d) : w.cell? ⟨g, 1, none⟩ = some (.string (bs d.p)) := by simp [World.cell?, show w.heap[g]? = _ from h]
theorem DecAt.c2 (h : DecAt w g d) : w.cell? ⟨g, 2, none⟩ = some (.int .i64 (d.e : Int)) := by simp [World.cell?, show w.heap[g]? = _ from h]
theorem DecAt.c3 (h : DecAt w g d) : w.cell? ⟨g, 3, none⟩ = some (.bool d.t) := by simp [World.cell?, show w.heap[g]? = _ from h]
theorem DecAt.free (h : DecAt w g d) (i : Nat) : w.frozen? ⟨g, i, none⟩ = false := by simp [World.frozen?, show w.heap[g]? = _ from h]
theorem DecAt.keep (h : DecAt w g d) (hk : w'.heap[g]? = w.heap[g]?) : DecAt w' g d := hk.trans h
theorem DecAt.below {B : Nat} (h : DecAt w g d) (hb : Below B w w') (hg : g < B) : DecAt w' g d := h.keep (hb.block g hg)
theorem DecAt.set_ (h : DecAt w g d) (i : Nat) (v : Value) {d' : Dec} (he : (#[Value.string (bs d.w), .string (bs d.p), .int .i64 (d.e : Int), .bool d.t].setIfInBounds i v) = #[.string (bs d'.w), .string (bs d'.p), .int .i64 (d'.e : Int), .bool d'.t]) : DecAt (w.setCell ⟨g, i, none⟩ v) g d' := by
  obtain ⟨hlt, hk⟩ := Array.getElem?_eq_some_iff.1 h
  show (w.heap.modify g _)[g]? = _
  rw [Array.getElem?_eq_getElem (by rw [Array.size_modify]; exact hlt), Array.getElem_modify_self, hk]
  simp only [← he]
  rfl
end

set_option maxHeartbeats 1000000 in
theorem waits_calls4 (g : Nat) (d : Dec) (w : World) (h : DecAt w g d) :
    Calls Tryd.prog 18 #[.pointer (some ⟨g, 0, none⟩)] w fun e w' => e = .returned (.bool (decide (d.w ≠ []))) ∧ w = w' := by
  have hc := h.c0
  clear h
  generalize d.w = l at *
  by_cases hl : l = []
  · rw [decide_eq_false (by simp [hl])]
    subst hl
    go_enter Tryd.func18, Tryd.ntmps18
    go_wp2
    go_ret
    exact ⟨rfl, rfl⟩
  · rw [decide_eq_true hl]
    have hn : (l == []) = false := beq_eq_false_iff_ne.2 hl
    have hn2 : (l != []) = true := by simp [hl]
    clear hl
    go_enter Tryd.func18, Tryd.ntmps18
    go_wp2
    go_ret
    exact ⟨rfl, rfl⟩
set_option maxHeartbeats 1000000 in
theorem pasting_calls (g : Nat) (d : Dec) (w : World) (h : DecAt w g d) :
    Calls Tryd.prog 19 #[.pointer (some ⟨g, 0, none⟩)] w fun e w' => e = .returned (.bool (decide (d.w = pasteB))) ∧ w = w' := by
  have hc := h.c0
  clear h
  generalize d.w = l at *
  have hn : (l == [27, 91, 50, 48, 48, 126]) = decide (l = pasteB) := by rw [Bool.eq_iff_iff, beq_iff_eq, decide_eq_true_iff]; rfl
  generalize decide (l = pasteB) = r at *
  go_enter Tryd.func19, Tryd.ntmps19
  go_wp2
  go_ret
  exact ⟨rfl, rfl⟩

set_option maxHeartbeats 4000000 in
theorem keep_calls (g : Nat) (d : Dec) (s : List UInt8) (w : World) (h : DecAt w g d) (hp : d.p.length ≤ 1200) (hs : s.length ≤ 1000) :
    Calls Tryd.prog 42 #[.pointer (some ⟨g, 0, none⟩), .string (bs s)] w fun e w' => e = .returned (.tuple #[]) ∧ DecAt w' g ⟨d.w, keepL d.p s, d.e, d.t⟩ ∧ w.grownBy w' (some g) := by
  have hc := h.c1
  have hf := h.free 1
  have hz1 := bs_size s
  have hz2 := bs_size d.p
  go_enter Tryd.func42, Tryd.ntmps42
  go_wp2
  go_region
  go_end0
  have e : bs d.p ++ (bs s).extract 0 (min (s.length : Int) (1200 - (d.p.length : Int))).toNat = bs (keepL d.p s) := by
    rw [bs_take, bs_append, show (min (s.length : Int) (1200 - (d.p.length : Int))).toNat = min s.length (1200 - d.p.length) by omega]
    congr 1
    unfold keepL
    congr 1
    rw [← List.take_take]
    exact List.take_of_length_le (by rw [List.length_take]; omega)
  rw [e]
  refine ⟨rfl, (h.set_ 1 (.string (bs (keepL d.p s))) (d' := ⟨d.w, keepL d.p s, d.e, d.t⟩) rfl : DecAt _ g _), ?_⟩
  exact ⟨rfl, rfl, rfl, by simp [World.setCell], fun k hk hne => Below.heap_setCell w ⟨g, 1, none⟩ _ k (by rintro rfl; exact hne rfl)⟩
end Go.Proofs.YtbkejjpkijjfaaaDoor
