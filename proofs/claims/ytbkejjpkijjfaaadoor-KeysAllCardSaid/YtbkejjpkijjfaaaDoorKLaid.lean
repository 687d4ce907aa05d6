/-
  What the rows list of the tables of unicode/utf8 and of package keys, as the walks want it; and a world in which they lie.
-/
import Derived.Test.YtbkejjpkijjfaaaDoorCards
import Derived.Test.YtbkejjpkijjfaaaDoorTie
import Derived.Test.YtbkejjpkijjfaaaDoorKFirst
import Derived.ProofKit
import Derived.OpenShut
import Derived.Deep.DeepHandedRow
import Derived.Lib.LaidU8
import Derived.Lib.SlBytesRowKit
import Derived.PinnedBridge
namespace Go.Proofs.YtbkejjpkijjfaaaDoor
open Go Go.RowKit Go.ChangeShapes Go.WideShapes Go.ChangeAt

theorem own : ownKnob Tryd.prog.godebug = none := by kernel_rfl
theorem laidOut : laidOutB Tryd.prog = true := by kernel_rfl
theorem cellsU8 : Tryd.prog.cellsOf 5 = 1 := by kernel_rfl
theorem cellsInt : Tryd.prog.cellsOf 3 = 1 := by kernel_rfl
theorem cellsFirst : Tryd.prog.cellsOf 92 = 256 := by kernel_rfl
theorem cellsCtl : Tryd.prog.cellsOf 69 = 32 := by kernel_rfl
theorem cellsRange : Tryd.prog.cellsOf 94 = 2 := by kernel_rfl
theorem nFirst : Tryd.prog.globalNamed "unicode/utf8.first" = some 2 := by kernel_rfl
theorem nAccept : Tryd.prog.globalNamed "unicode/utf8.acceptRanges" = some 3 := by kernel_rfl
theorem nCtl : Tryd.prog.globalNamed "souffleur/keys.controls" = some 0 := by kernel_rfl
theorem yFirst : (Tryd.prog.globals[2]?).map (·.type) = some 92 := by kernel_rfl
theorem yAccept : (Tryd.prog.globals[3]?).map (·.type) = some 95 := by kernel_rfl
theorem yCtl : (Tryd.prog.globals[0]?).map (·.type) = some 69 := by kernel_rfl

abbrev laidList : List (String × DataW Unit) := [("unicode/utf8.acceptRanges", Rows.laid_unicode_utf8_acceptRanges), ("souffleur/keys.controls", Rows.laid_souffleur_keys_controls), ("unicode/utf8.first", Rows.laid_unicode_utf8_first)]
theorem accept_eq : (Rows.laid_unicode_utf8_acceptRanges : DataW Unit) = Lib.acceptData := by kernel_rfl
theorem first_eq : Rows.laid_unicode_utf8_first = Lib.firstData := Pinned.utf8First_eq
theorem ctl_eq : (Rows.laid_souffleur_keys_controls : DataW Unit) = .agg ((ctlsL.map fun (n : Nat) => (n : Int)).map fun z => .lit (.int .i64 z)) := by kernel_rfl

theorem tabs_of_laid {W : World} (h : laidMetH Tryd.prog laidList W) : Lays W := by
  have h' : laidMet Tryd.prog laidList W := h
  have r3 := Lib.laidMet.reads h' (n := "unicode/utf8.first") (d := Rows.laid_unicode_utf8_first) (by simp)
  have r4 := Lib.laidMet.reads h' (n := "unicode/utf8.acceptRanges") (d := Rows.laid_unicode_utf8_acceptRanges) (by simp)
  have r5 := Lib.laidMet.reads h' (n := "souffleur/keys.controls") (d := Rows.laid_souffleur_keys_controls) (by simp)
  rw [first_eq] at r3
  rw [accept_eq] at r4
  rw [ctl_eq] at r5
  refine ⟨⟨fun c hc => ?_, fun i hi => ?_⟩, fun x hx => ?_⟩
  · obtain ⟨g, t, cs, fuel, p, hg, hty, hvar, hd⟩ := r3
    obtain rfl := Option.some.inj (nFirst.symm.trans hg)
    obtain rfl := Option.some.inj (yFirst.symm.trans hty)
    have hcs := Lib.cells_of_tab Tryd.underlying92 Tryd.underlying5 cellsU8 cellsFirst hd
    rw [World.var?_cell hg hvar c, ← Array.getElem?_toList, hcs]
    simp [Lib.firstTab, hc]
  · obtain ⟨g, t, cs, fuel, p, hg, hty, hvar, hd⟩ := r4
    obtain rfl := Option.some.inj (nAccept.symm.trans hg)
    obtain rfl := Option.some.inj (yAccept.symm.trans hty)
    obtain ⟨fuel', d, q, hdi, he⟩ := Lib.array_elem Tryd.underlying95 hd i hi
    simp only [List.getElem?_map, List.getElem?_range hi, Option.map_some, Option.some.injEq] at hdi
    subst hdi
    rw [cellsRange] at he
    have hcs := Lib.ints_of_struct Tryd.underlying94 (fun j f hj => by
      match j, hj with
      | 0, hj => simp at hj; subst hj; exact ⟨Tryd.underlying5, rfl, cellsU8⟩
      | 1, hj => simp at hj; subst hj; exact ⟨Tryd.underlying5, rfl, cellsU8⟩
      | j + 2, hj => simp at hj) (by rw [cellsRange]; rfl) he
    have e0 := congrArg (·[0]?) hcs
    have e1 := congrArg (·[1]?) hcs
    simp only [List.getElem?_take, List.getElem?_drop] at e0 e1
    constructor
    · rw [World.var?_cell hg hvar (2 * i), ← Array.getElem?_toList]
      simpa [Nat.mul_comm] using e0
    · rw [World.var?_cell hg hvar (2 * i + 1), ← Array.getElem?_toList]
      simpa [Nat.mul_comm] using e1
  · obtain ⟨g, t, cs, fuel, p, hg, hty, hvar, hd⟩ := r5
    obtain rfl := Option.some.inj (nCtl.symm.trans hg)
    obtain rfl := Option.some.inj (yCtl.symm.trans hty)
    have hcs := Lib.cells_of_tab (k := .i64) (zs := ctlsL.map fun (n : Nat) => (n : Int)) Tryd.underlying69 Tryd.underlying3 cellsInt cellsCtl hd
    have hl : ctlsL.length = 32 := rfl
    rw [World.var?_cell hg hvar x, ← Array.getElem?_toList, hcs]
    simp [List.getD, hl, hx]

theorem toNat_nums {xs : List Int} (h : ∀ x ∈ xs, 0 ≤ x ∧ x < 256) : nums (xs.map fun x => UInt8.ofNat x.toNat) = xs := by
  simp only [nums, List.map_map]
  conv => rhs; rw [← List.map_id xs]
  apply List.map_congr_left
  intro x hx
  have := h x hx
  simp [Function.comp]
  omega
/-- An argument of type []byte, opened: the bytes that it reads as. -/
theorem opened_byt {H : Type} {enc : TypeId × Value → H} {W : World} {a0 : Option Addr} {len cap : Nat} {d0 : DataW H} {p : List MemPlace}
    (h0 : DataW.Trod enc Tryd.prog W 0 (fun _ => true) true 27 (.slice a0 len cap) d0 p) :
    ∃ l : List UInt8, l.length = len ∧ len ≤ cap ∧ cap ≤ maxLen ∧ Byt W a0 l ∧ (a0 = none → cap = 0) := by
  have hmax : cap ≤ maxLen := by
    obtain ⟨fuel, hf⟩ := h0
    rcases open_ints Tryd.underlying27 Tryd.underlying5 cellsU8 hf with ⟨hcs, _⟩ | ⟨a, len', cap', zs, hcs, _, hl, hm, _⟩
    · simp [Value.cells] at hcs
      obtain ⟨_, _, rfl⟩ := hcs
      unfold maxLen; omega
    · simp [Value.cells] at hcs
      obtain ⟨_, _, rfl⟩ := hcs
      exact hm
  obtain ⟨xs, hx, hlc, hB, _, hby, hnil⟩ := opened_bytes Tryd.underlying27 Tryd.underlying5 cellsU8 h0
  refine ⟨xs.map fun x => UInt8.ofNat x.toNat, by simp [hx], hlc, hmax, ?_, hnil⟩
  unfold Byt
  rw [toNat_nums hby]
  simpa [hx] using hB

theorem i64_bounds {x : Int} (h : (Lit.int .i64 x).wf = true) : -9223372036854775808 ≤ x ∧ x ≤ 9223372036854775807 := by
  have h1 : IntKind.i64.min = -9223372036854775808 := rfl
  have h2 : IntKind.i64.max = 9223372036854775807 := rfl
  simp only [Lit.wf, Bool.and_eq_true, decide_eq_true_eq] at h
  omega
theorem u8_bounds {x : Int} (h : (Lit.int .u8 x).wf = true) : 0 ≤ x ∧ x ≤ 255 := by
  have h1 : IntKind.u8.min = 0 := rfl
  have h2 : IntKind.u8.max = 255 := rfl
  simp only [Lit.wf, Bool.and_eq_true, decide_eq_true_eq] at h
  omega

/-- A world for the witnesses: the settled one, with the tables as their initialisers lay them. -/
def firstCells : Array Value := ((List.range 256).map fun c => Value.int .u8 (Lib.firstT c : Int)).toArray
def acceptCells : Array Value := ((List.range 16).flatMap fun i => [Value.int .u8 (Lib.accLo i : Int), Value.int .u8 (Lib.accHi i : Int)]).toArray
def ctlCells : Array Value := (ctlsL.map fun (n : Nat) => Value.int .i64 (n : Int)).toArray
def layCells (cs : Array Value) : Obj → Obj
  | .cells _ t frozen => .cells cs t frozen
  | o => o
noncomputable def laidWorld (os : Os) : World :=
  { World.holding Tryd.prog os ⟨#[], #[], []⟩ with heap := (((World.holding Tryd.prog os ⟨#[], #[], []⟩).heap.modify 2 (layCells firstCells)).modify 3 (layCells acceptCells)).modify 0 (layCells ctlCells) }
end Go.Proofs.YtbkejjpkijjfaaaDoor
