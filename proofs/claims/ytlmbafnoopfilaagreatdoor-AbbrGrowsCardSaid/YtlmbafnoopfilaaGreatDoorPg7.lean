/-
  Layer 7 and what it stands on, part 7 (WLaid0 ALaid).
-/
import Derived.Test.YtlmbafnoopfilaaGreatDoorPg6
import Derived.Test.YtlmbafnoopfilaaGreatDoorCards
import Derived.Test.YtlmbafnoopfilaaGreatDoorTie
import Derived.ProofKit
import Derived.OpenShut
import Derived.ChangeMaps5
import Derived.Deep.DeepHandedRow
import Derived.Lib.LaidU8
import Derived.PinnedBridge
namespace Go.Proofs.YtlmbafnoopfilaaGreatDoor
section
open Go Go.RowKit Go.ChangeShapes Go.WideShapes Go.ChangeAt
set_option maxRecDepth 100000
theorem own : ownKnob Tryz.prog.godebug = none := by kernel_rfl
theorem laidOut : laidOutB Tryz.prog = true := by kernel_rfl
theorem cellsI32 : Tryz.prog.cellsOf 21 = 1 := by kernel_rfl
theorem cellsEnds : Tryz.prog.cellsOf 125 = 2 := by kernel_rfl
theorem cellsInt : Tryz.prog.cellsOf 3 = 1 := by kernel_rfl
theorem cellsSpan : Tryz.prog.cellsOf 127 = 3 := by kernel_rfl
theorem cellsSpans : Tryz.prog.cellsOf 128 = 51 := by kernel_rfl
theorem nSpans : Tryz.prog.globalNamed "souffleur/width.spans" = some 0 := by kernel_rfl
theorem ySpans : (Tryz.prog.globals[0]?).map (·.type) = some 128 := by kernel_rfl
def spanData (x : Int × Int × Nat) : DataW Unit := .agg [.agg [.lit (.int .i32 x.1), .lit (.int .i32 x.2.1)], .lit (.int .i64 (x.2.2 : Int))]
theorem spans_eq : (Rows.laid_souffleur_width_spans : DataW Unit) = .agg (spansL.map spanData) := by kernel_rfl
def spanVals (x : Int × Int × Nat) : List Value := [Value.int .i32 x.1, Value.int .i32 x.2.1, Value.int .i64 (x.2.2 : Int)]
theorem span_cells {W : World} {fuel : Nat} {cs : List Value} {x : Int × Int × Nat} {p : List MemPlace} (h : DataW.trod (fun _ => ()) Tryz.prog W 0 (fun _ => true) false fuel 127 cs = some (spanData x, p)) : cs = spanVals x := by
  obtain ⟨xs, n, rfl, hx, hl, hxl, hall⟩ := DataW.trod_struct Tryz.underlying127 h
  rw [cellsSpan] at hl
  have h0 := hall 0 _ rfl
  have h1 := hall 1 _ rfl
  change DataW.trod _ _ _ _ _ _ _ 125 ((cs.drop 0).take (Tryz.prog.cellsOf 125)) = xs[0]? at h0
  change DataW.trod _ _ _ _ _ _ _ 3 ((cs.drop 2).take (Tryz.prog.cellsOf 3)) = xs[1]? at h1
  rw [cellsEnds] at h0
  rw [cellsInt] at h1
  obtain ⟨x0, x1, rfl⟩ : ∃ x0 x1, xs = [x0, x1] := by
    match xs, hxl with
    | [x0, x1], _ => exact ⟨x0, x1, rfl⟩
  simp only [spanData, List.map_cons, List.map_nil, Prod.mk.injEq, DataW.agg.injEq, List.cons.injEq, and_true] at hx
  obtain ⟨⟨e0, e1⟩, _⟩ := hx
  obtain ⟨z, hz, hz2, _⟩ := DataW.trod_int Tryz.underlying3 (by simpa using h1)
  have hz3 : z = (x.2.2 : Int) := by
    rw [hz2] at e1
    simpa using e1.symm
  obtain ⟨y0, q0⟩ := x0
  simp only at e0
  have ht := Lib.cells_of_tab (k := .i32) (zs := [x.1, x.2.1]) Tryz.underlying125 Tryz.underlying21 cellsI32 cellsEnds (p := q0) (by
    have h0' := h0
    simp only [List.getElem?_cons_zero] at h0'
    rw [← e0] at h0'
    exact h0')
  obtain ⟨a, b, c, rfl⟩ : ∃ a b c, cs = [a, b, c] := by
    match cs, hl with
    | [a, b, c], _ => exact ⟨a, b, c, rfl⟩
  simp at ht hz
  obtain ⟨rfl, rfl⟩ := ht
  subst hz
  rw [hz3]
  rfl
theorem span_take (k : Nat) (hk : k < 17) : (spanCells.toList.drop (k * 3)).take 3 = spanVals (spanAt k) := by
  have h : k = 0 ∨ k = 1 ∨ k = 2 ∨ k = 3 ∨ k = 4 ∨ k = 5 ∨ k = 6 ∨ k = 7 ∨ k = 8 ∨ k = 9 ∨ k = 10 ∨ k = 11 ∨ k = 12 ∨ k = 13 ∨ k = 14 ∨ k = 15 ∨ k = 16 := by omega
  rcases h with rfl | rfl | rfl | rfl | rfl | rfl | rfl | rfl | rfl | rfl | rfl | rfl | rfl | rfl | rfl | rfl | rfl <;> rfl
theorem spans_of_list {L : List (String × DataW Unit)} {W : World} (hm : ("souffleur/width.spans", Rows.laid_souffleur_width_spans) ∈ L) (h' : laidMet Tryz.prog L W) : Spans W := by
  have r := Lib.laidMet.reads h' (n := "souffleur/width.spans") (d := Rows.laid_souffleur_width_spans) hm
  rw [spans_eq] at r
  obtain ⟨g, t, cs, fuel, p, hg, hty, hvar, hd⟩ := r
  obtain rfl := Option.some.inj (nSpans.symm.trans hg)
  obtain rfl := Option.some.inj (ySpans.symm.trans hty)
  have hlen : cs.toList.length = 51 := by
    cases fuel with
    | zero => simp [DataW.trod] at hd
    | succ fuel =>
      simp only [DataW.trod, Tryz.underlying128] at hd
      split at hd
      · rename_i hl
        simpa [cellsSpans] using hl
      · cases hd
  have hel : ∀ i, i < 17 → (cs.toList.drop (i * 3)).take 3 = spanVals (spanAt i) := fun i hi => by
    obtain ⟨fuel', d, q, hdi, he⟩ := Lib.array_elem Tryz.underlying128 hd i hi
    rw [cellsSpan] at he
    have hl : spansL.length = 17 := rfl
    have e : d = spanData (spanAt i) := by
      rw [List.getElem?_map, List.getElem?_eq_getElem (by omega), Option.map_some, Option.some.injEq] at hdi
      rw [← hdi]
      congr 1
      simp [spanAt, List.getD, hl, hi]
    subst e
    exact span_cells he
  have hcs : cs = spanCells := by
    apply Array.ext'
    apply List.ext_getElem?
    intro j
    by_cases hj : j < 51
    · have h1 := congrArg (·[j % 3]?) (hel (j / 3) (by omega))
      have hm : j % 3 < 3 := Nat.mod_lt _ (by decide)
      have hjj : j / 3 * 3 + j % 3 = j := by omega
      simp only [List.getElem?_take, List.getElem?_drop, hm, if_true, hjj] at h1
      rw [h1]
      have h2 := congrArg (·[j % 3]?) (span_take (j / 3) (by omega))
      simp only [List.getElem?_take, List.getElem?_drop, hm, if_true, hjj] at h2
      rw [h2]
    · have hsl : spanCells.toList.length = 51 := by decide +kernel
      rw [List.getElem?_eq_none (by omega), List.getElem?_eq_none (by omega)]
  simp only [World.var?, nSpans, Option.bind_some] at hvar
  split at hvar
  · rename_i cs' t' fr' hh
    obtain rfl : cs' = cs := by simpa using hvar
    exact ⟨t', fr', by rw [hh, hcs]⟩
  · cases hvar
def layCells (cs : Array Value) : Obj → Obj
  | .cells _ t frozen => .cells cs t frozen
  | o => o
end
section
open Go Go.RowKit Go.ChangeShapes Go.WideShapes Go.ChangeAt
set_option maxRecDepth 100000
abbrev laidList : List (String × DataW Unit) := [("unicode/utf8.acceptRanges", Rows.laid_unicode_utf8_acceptRanges), ("souffleur/width.spans", Rows.laid_souffleur_width_spans), ("unicode/utf8.first", Rows.laid_unicode_utf8_first)]
theorem spans_of_laid {W : World} (h : laidMetH Tryz.prog laidList W) : Spans W := by
  have h' : laidMet Tryz.prog laidList W := h
  exact spans_of_list (by simp) h'
/-- A world for the witnesses: the settled one, with the tables as their initialisers lay them. -/
def firstCells : Array Value := ((List.range 256).map fun c => Value.int .u8 (Lib.firstT c : Int)).toArray
def acceptCells : Array Value := ((List.range 16).flatMap fun i => [Value.int .u8 (Lib.accLo i : Int), Value.int .u8 (Lib.accHi i : Int)]).toArray
noncomputable def laidWorld (os : Os) : World :=
  { World.holding Tryz.prog os ⟨#[], #[], []⟩ with heap := (((World.holding Tryz.prog os ⟨#[], #[], []⟩).heap.modify 1 (layCells firstCells)).modify 2 (layCells acceptCells)).modify 0 (layCells spanCells) }
end
end Go.Proofs.YtlmbafnoopfilaaGreatDoor
