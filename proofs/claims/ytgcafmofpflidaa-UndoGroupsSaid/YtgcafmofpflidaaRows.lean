/-
  No cell of these rows narrows 'for every input' (looked for: loops, veiled, ifaces, maps, wideKeys, modest, calm, conditions, laid).
  DERIVED. THE GIVEN ROWS OF THIS SEAT. 6 by the template 'for every input the law returns true; each argument reads behind the call as it read before'; 0 by the template 'total and deterministic' (their statements: YtgcafmofpflidaaTotals.lean).
  GIVEN WITH THE SEED: the statements are not yours to turn. If you find one false, say at which input.
  Laid BY PROGRAM, IN A SANDBOX (cutbox-rows.mjs): the forced cells as the released guide's own fill.sh prints them over the translation a36b6e56e13945ac… (all of the seat's roots in one cut). By AI agents, Wed Nov 11 2026. No macro, syntax, notation, axiom, sorry.
-/
import Derived.Test.YtgcafmofpflidaaChecked
import GoSem.Claim
import GoSem.ClaimJoined
import GoSem.ClaimMapViews
import Derived.JoinedTies
import Derived.KernelRfl
namespace Go.Proofs.Ytgcafmofpflidaa
/- THE CELL 'sum', in the pinned program and in every row, IS THE sha256 OF THE DUMP (.gsa) THAT YtgcafmofpflidaaProg.lean LOADS. Nothing in Lean hashes anything: it is a label: what it is worth is what the hold of that sum in a sandbox is worth. -/
noncomputable def Try.pinned : Pinned := { name := "ytgcafmofpflidaa", sum := "a36b6e56e13945ac703a5606576600db73eb564f17c1308ab2118479f61a4f45", checked := Try.checked }
namespace Rows
def none {H : Type} : Left H := { results := [], args := [] }

/-- 'souffleurlaw06.UndoAll': WHATEVER THE INPUT: true; the input reads as it did. -/
def undoAllSpec : ChangeSpec := { name := "undoAll", fn := fun _ => fun
  | [d1, d2] => { results := [.lit (.bool true)], args := [d1, d2] }
  | _ => none }
def undoAllRow : OpenClaim := { program := "ytgcafmofpflidaa", sum := "a36b6e56e13945ac703a5606576600db73eb564f17c1308ab2118479f61a4f45", func := "souffleur/souffleurlaw06.UndoAll", spec := "undoAll", apart := false }
def UndoAllSaid : Prop := undoAllRow.holds Try.pinned (OpenSpec.ofChange undoAllSpec)

/-- ITS FALSE NEIGHBOUR: 'it returns false'. Refute it at one input. -/
def undoAllWrong : ChangeSpec := { name := "undoAll", fn := fun _ => fun
  | [d1, d2] => { results := [.lit (.bool false)], args := [d1, d2] }
  | _ => none }
def UndoAllWrongFalsely : Prop := undoAllRow.holds Try.pinned (OpenSpec.ofChange undoAllWrong)

/-- 'souffleurlaw06.UndoRows': WHATEVER THE INPUT: true; the input reads as it did. -/
def undoRowsSpec : ChangeSpec := { name := "undoRows", fn := fun _ => fun
  | [d1, d2] => { results := [.lit (.bool true)], args := [d1, d2] }
  | _ => none }
def undoRowsRow : OpenClaim := { program := "ytgcafmofpflidaa", sum := "a36b6e56e13945ac703a5606576600db73eb564f17c1308ab2118479f61a4f45", func := "souffleur/souffleurlaw06.UndoRows", spec := "undoRows", apart := false }
def UndoRowsSaid : Prop := undoRowsRow.holds Try.pinned (OpenSpec.ofChange undoRowsSpec)

/-- ITS FALSE NEIGHBOUR: 'it returns false'. Refute it at one input. -/
def undoRowsWrong : ChangeSpec := { name := "undoRows", fn := fun _ => fun
  | [d1, d2] => { results := [.lit (.bool false)], args := [d1, d2] }
  | _ => none }
def UndoRowsWrongFalsely : Prop := undoRowsRow.holds Try.pinned (OpenSpec.ofChange undoRowsWrong)

/-- 'souffleurlaw06.UndoBack': WHATEVER THE INPUT: true; the input reads as it did. -/
def undoBackSpec : ChangeSpec := { name := "undoBack", fn := fun _ => fun
  | [d1, d2] => { results := [.lit (.bool true)], args := [d1, d2] }
  | _ => none }
def undoBackRow : OpenClaim := { program := "ytgcafmofpflidaa", sum := "a36b6e56e13945ac703a5606576600db73eb564f17c1308ab2118479f61a4f45", func := "souffleur/souffleurlaw06.UndoBack", spec := "undoBack", apart := false }
def UndoBackSaid : Prop := undoBackRow.holds Try.pinned (OpenSpec.ofChange undoBackSpec)

/-- ITS FALSE NEIGHBOUR: 'it returns false'. Refute it at one input. -/
def undoBackWrong : ChangeSpec := { name := "undoBack", fn := fun _ => fun
  | [d1, d2] => { results := [.lit (.bool false)], args := [d1, d2] }
  | _ => none }
def UndoBackWrongFalsely : Prop := undoBackRow.holds Try.pinned (OpenSpec.ofChange undoBackWrong)

/-- 'souffleurlaw06.UndoGroups': WHATEVER THE INPUT: true; the input reads as it did. -/
def undoGroupsSpec : ChangeSpec := { name := "undoGroups", fn := fun _ => fun
  | [d1, d2, d3] => { results := [.lit (.bool true)], args := [d1, d2, d3] }
  | _ => none }
def undoGroupsRow : OpenClaim := { program := "ytgcafmofpflidaa", sum := "a36b6e56e13945ac703a5606576600db73eb564f17c1308ab2118479f61a4f45", func := "souffleur/souffleurlaw06.UndoGroups", spec := "undoGroups", apart := false }
def UndoGroupsSaid : Prop := undoGroupsRow.holds Try.pinned (OpenSpec.ofChange undoGroupsSpec)

/-- ITS FALSE NEIGHBOUR: 'it returns false'. Refute it at one input. -/
def undoGroupsWrong : ChangeSpec := { name := "undoGroups", fn := fun _ => fun
  | [d1, d2, d3] => { results := [.lit (.bool false)], args := [d1, d2, d3] }
  | _ => none }
def UndoGroupsWrongFalsely : Prop := undoGroupsRow.holds Try.pinned (OpenSpec.ofChange undoGroupsWrong)

/-- 'souffleurlaw06.UndoLimit': WHATEVER THE INPUT: true; the input reads as it did. -/
def undoLimitSpec : ChangeSpec := { name := "undoLimit", fn := fun _ => fun
  | [d1, d2] => { results := [.lit (.bool true)], args := [d1, d2] }
  | _ => none }
def undoLimitRow : OpenClaim := { program := "ytgcafmofpflidaa", sum := "a36b6e56e13945ac703a5606576600db73eb564f17c1308ab2118479f61a4f45", func := "souffleur/souffleurlaw06.UndoLimit", spec := "undoLimit", apart := false }
def UndoLimitSaid : Prop := undoLimitRow.holds Try.pinned (OpenSpec.ofChange undoLimitSpec)

/-- ITS FALSE NEIGHBOUR: 'it returns false'. Refute it at one input. -/
def undoLimitWrong : ChangeSpec := { name := "undoLimit", fn := fun _ => fun
  | [d1, d2] => { results := [.lit (.bool false)], args := [d1, d2] }
  | _ => none }
def UndoLimitWrongFalsely : Prop := undoLimitRow.holds Try.pinned (OpenSpec.ofChange undoLimitWrong)

/-- 'souffleurlaw06.UndoMoves': WHATEVER THE INPUT: true; the input reads as it did. -/
def undoMovesSpec : ChangeSpec := { name := "undoMoves", fn := fun _ => fun
  | [d1, d2, d3] => { results := [.lit (.bool true)], args := [d1, d2, d3] }
  | _ => none }
def undoMovesRow : OpenClaim := { program := "ytgcafmofpflidaa", sum := "a36b6e56e13945ac703a5606576600db73eb564f17c1308ab2118479f61a4f45", func := "souffleur/souffleurlaw06.UndoMoves", spec := "undoMoves", apart := false }
def UndoMovesSaid : Prop := undoMovesRow.holds Try.pinned (OpenSpec.ofChange undoMovesSpec)

/-- ITS FALSE NEIGHBOUR: 'it returns false'. Refute it at one input. -/
def undoMovesWrong : ChangeSpec := { name := "undoMoves", fn := fun _ => fun
  | [d1, d2, d3] => { results := [.lit (.bool false)], args := [d1, d2, d3] }
  | _ => none }
def UndoMovesWrongFalsely : Prop := undoMovesRow.holds Try.pinned (OpenSpec.ofChange undoMovesWrong)

/- THE SECOND FORM. 'bulk': how many values and letters a reading holds, each counted each time it is reached (what is shared counts as often as it is met; a slice's spare places count too). A statement '..UptoSaid' is the law's where the arguments, and the package variables that the reading takes, are together of bulk at most 1048576: NARROWER than '..Said'. Prove '..Said' where nothing that the law and all that it calls make is longer than what came in: it says more and counts as full. Else prove '..UptoSaid'. A law counts once. -/
mutual
def uptoBulk {H : Type} : DataW H → Nat
  | .lit (.string bytes) => bytes.length + 1
  | .lit _ => 1
  | .nil => 1
  | .ptr d => uptoBulk d + 1
  | .slice elems spare => uptoBulkAll elems + uptoBulkAll spare + 1
  | .agg parts => uptoBulkAll parts + 1
  | .iface _ d => uptoBulk d + 1
  | .map entries => uptoBulkEntries entries + 1
  | .held _ => 1
def uptoBulkAll {H : Type} : List (DataW H) → Nat
  | [] => 0
  | d :: r => uptoBulk d + uptoBulkAll r
def uptoBulkEntries {H : Type} : List (Lit × DataW H) → Nat
  | [] => 0
  | x :: r => uptoBulkEntry x + uptoBulkEntries r
def uptoBulkEntry {H : Type} : Lit × DataW H → Nat
  | (.string bytes, d) => bytes.length + uptoBulk d + 1
  | (_, d) => uptoBulk d + 1
 end
def uptoSmall : (H : Type) → List (DataW H) → Bool := fun _ ds => decide (uptoBulkAll ds ≤ 1048576)
def OpenSpec.upto (s : _root_.Go.ChangeSpec) : _root_.Go.OpenSpec := { _root_.Go.OpenSpec.ofChange s with cond := some uptoSmall }

/-- 'souffleurlaw06.UndoAll', WHERE WHAT IT READS IS OF BULK AT MOST 1048576: true; the input reads as it did. -/
def undoAllUptoRow : OpenClaim := { program := "ytgcafmofpflidaa", sum := "a36b6e56e13945ac703a5606576600db73eb564f17c1308ab2118479f61a4f45", func := "souffleur/souffleurlaw06.UndoAll", spec := "undoAll", apart := false, narrowed := true }
def UndoAllUptoSaid : Prop := undoAllUptoRow.holds Try.pinned (OpenSpec.upto undoAllSpec)

/-- 'souffleurlaw06.UndoRows', WHERE WHAT IT READS IS OF BULK AT MOST 1048576: true; the input reads as it did. -/
def undoRowsUptoRow : OpenClaim := { program := "ytgcafmofpflidaa", sum := "a36b6e56e13945ac703a5606576600db73eb564f17c1308ab2118479f61a4f45", func := "souffleur/souffleurlaw06.UndoRows", spec := "undoRows", apart := false, narrowed := true }
def UndoRowsUptoSaid : Prop := undoRowsUptoRow.holds Try.pinned (OpenSpec.upto undoRowsSpec)

/-- 'souffleurlaw06.UndoBack', WHERE WHAT IT READS IS OF BULK AT MOST 1048576: true; the input reads as it did. -/
def undoBackUptoRow : OpenClaim := { program := "ytgcafmofpflidaa", sum := "a36b6e56e13945ac703a5606576600db73eb564f17c1308ab2118479f61a4f45", func := "souffleur/souffleurlaw06.UndoBack", spec := "undoBack", apart := false, narrowed := true }
def UndoBackUptoSaid : Prop := undoBackUptoRow.holds Try.pinned (OpenSpec.upto undoBackSpec)

/-- 'souffleurlaw06.UndoGroups', WHERE WHAT IT READS IS OF BULK AT MOST 1048576: true; the input reads as it did. -/
def undoGroupsUptoRow : OpenClaim := { program := "ytgcafmofpflidaa", sum := "a36b6e56e13945ac703a5606576600db73eb564f17c1308ab2118479f61a4f45", func := "souffleur/souffleurlaw06.UndoGroups", spec := "undoGroups", apart := false, narrowed := true }
def UndoGroupsUptoSaid : Prop := undoGroupsUptoRow.holds Try.pinned (OpenSpec.upto undoGroupsSpec)

/-- 'souffleurlaw06.UndoLimit', WHERE WHAT IT READS IS OF BULK AT MOST 1048576: true; the input reads as it did. -/
def undoLimitUptoRow : OpenClaim := { program := "ytgcafmofpflidaa", sum := "a36b6e56e13945ac703a5606576600db73eb564f17c1308ab2118479f61a4f45", func := "souffleur/souffleurlaw06.UndoLimit", spec := "undoLimit", apart := false, narrowed := true }
def UndoLimitUptoSaid : Prop := undoLimitUptoRow.holds Try.pinned (OpenSpec.upto undoLimitSpec)

/-- 'souffleurlaw06.UndoMoves', WHERE WHAT IT READS IS OF BULK AT MOST 1048576: true; the input reads as it did. -/
def undoMovesUptoRow : OpenClaim := { program := "ytgcafmofpflidaa", sum := "a36b6e56e13945ac703a5606576600db73eb564f17c1308ab2118479f61a4f45", func := "souffleur/souffleurlaw06.UndoMoves", spec := "undoMoves", apart := false, narrowed := true }
def UndoMovesUptoSaid : Prop := undoMovesUptoRow.holds Try.pinned (OpenSpec.upto undoMovesSpec)

end Rows
end Go.Proofs.Ytgcafmofpflidaa
