/-
  NARROWER THAN 'FOR EVERY INPUT', by the rows' own cells (each row's printed sentence says how): SumOf: laid · SumParts: laid · SumJoins: laid · SumShifts: laid · SumLinear: laid · SumBytes: laid · SumTold: laid.
  DERIVED. THE GIVEN ROWS OF THIS SEAT. 7 by the template 'for every input the law returns true; each argument reads behind the call as it read before'; 0 by the template 'total and deterministic' (their statements: YtonjlkakbboplaaDoorTotals.lean).
  GIVEN WITH THE SEED: the statements are not yours to turn. If you find one false, say at which input.
  Laid BY PROGRAM, IN A SANDBOX (cutbox-rows.mjs): the forced cells as the released guide's own fill.sh prints them over the translation 6056d678b40dbcce… (all of the seat's roots in one cut). By AI agents, Wed Nov 11 2026. No macro, syntax, notation, axiom, sorry.
-/
import Derived.Test.YtonjlkakbboplaaDoorChecked
import GoSem.Claim
import GoSem.ClaimJoined
import GoSem.ClaimMapViews
import Derived.JoinedTies
import Derived.KernelRfl
namespace Go.Proofs.YtonjlkakbboplaaDoor
/- THE CELL 'sum', in the pinned program and in every row, IS THE sha256 OF THE DUMP (.gsa) THAT YtonjlkakbboplaaDoorProg.lean LOADS. Nothing in Lean hashes anything: it is a label: what it is worth is what the hold of that sum in a sandbox is worth. -/
noncomputable def Tryd.pinned : Pinned := { name := "ytonjlkakbboplaadoor", sum := "6056d678b40dbcce2f6df17b3c70a3a15d0b38d11d928711b42b70c865625883", checked := Tryd.checked }
namespace Rows
def none {H : Type} : Left H := { results := [], args := [] }

/- WHAT THE LISTED PACKAGE-LEVEL VARIABLES READ AS WHEN THE CALL BEGINS. Each datum BY PROGRAM (the guide's laid-datum.mjs) off the statement by which the dump's own 'gosem.cut.vars' lays the variable. In a bare row this is a premise. The card (YtonjlkakbboplaaDoorCards.lean) ties it to the program's text. -/
def laid_souffleur_sum_rests {H : Type} : DataW H := .agg [.lit (.int .u32 0), .lit (.int .u32 498536548), .lit (.int .u32 997073096), .lit (.int .u32 651767980), .lit (.int .u32 1994146192), .lit (.int .u32 1802195444), .lit (.int .u32 1303535960), .lit (.int .u32 1342533948), .lit (.int .u32 3988292384), .lit (.int .u32 4027552580), .lit (.int .u32 3604390888), .lit (.int .u32 3412177804), .lit (.int .u32 2607071920), .lit (.int .u32 2262029012), .lit (.int .u32 2685067896), .lit (.int .u32 3183342108)]
def laid_souffleur_sum_powers {H : Type} : DataW H := .agg [.lit (.int .u32 8388608), .lit (.int .u32 32768), .lit (.int .u32 3988292384), .lit (.int .u32 2984685714), .lit (.int .u32 2691310871), .lit (.int .u32 3982654894), .lit (.int .u32 2295415911), .lit (.int .u32 3619421802), .lit (.int .u32 3963911953), .lit (.int .u32 2390663536), .lit (.int .u32 1680310286), .lit (.int .u32 1296546528), .lit (.int .u32 167662735), .lit (.int .u32 2206543119), .lit (.int .u32 808857370), .lit (.int .u32 2069535939), .lit (.int .u32 838779241), .lit (.int .u32 2683044394), .lit (.int .u32 1821240772), .lit (.int .u32 366380877), .lit (.int .u32 1608415822)]

/-- 'souffleurlaw09.SumOf': WHATEVER THE INPUT: true; the input reads as it did. -/
def sumOfSpec : ChangeSpec := { name := "sumOf", fn := fun _ => fun
  | [d] => { results := [.lit (.bool true)], args := [d] }
  | _ => none }
def sumOfRow : OpenClaim := { program := "ytonjlkakbboplaadoor", sum := "6056d678b40dbcce2f6df17b3c70a3a15d0b38d11d928711b42b70c865625883", func := "souffleur/souffleurlaw09.SumOf", spec := "sumOf", named := ["souffleur/sum.rests", "souffleur/sum.powers"], apart := false, laid := [("souffleur/sum.rests", laid_souffleur_sum_rests), ("souffleur/sum.powers", laid_souffleur_sum_powers)] }
def SumOfSaid : Prop := sumOfRow.holds Tryd.pinned (OpenSpec.ofChange sumOfSpec)

/-- ITS FALSE NEIGHBOUR: 'it returns false'. Refute it at one input. -/
def sumOfWrong : ChangeSpec := { name := "sumOf", fn := fun _ => fun
  | [d] => { results := [.lit (.bool false)], args := [d] }
  | _ => none }
def SumOfWrongFalsely : Prop := sumOfRow.holds Tryd.pinned (OpenSpec.ofChange sumOfWrong)

/-- 'souffleurlaw09.SumParts': WHATEVER THE INPUT: true; the input reads as it did. -/
def sumPartsSpec : ChangeSpec := { name := "sumParts", fn := fun _ => fun
  | [d] => { results := [.lit (.bool true)], args := [d] }
  | _ => none }
def sumPartsRow : OpenClaim := { program := "ytonjlkakbboplaadoor", sum := "6056d678b40dbcce2f6df17b3c70a3a15d0b38d11d928711b42b70c865625883", func := "souffleur/souffleurlaw09.SumParts", spec := "sumParts", named := ["souffleur/sum.rests", "souffleur/sum.powers"], apart := false, laid := [("souffleur/sum.rests", laid_souffleur_sum_rests), ("souffleur/sum.powers", laid_souffleur_sum_powers)] }
def SumPartsSaid : Prop := sumPartsRow.holds Tryd.pinned (OpenSpec.ofChange sumPartsSpec)

/-- ITS FALSE NEIGHBOUR: 'it returns false'. Refute it at one input. -/
def sumPartsWrong : ChangeSpec := { name := "sumParts", fn := fun _ => fun
  | [d] => { results := [.lit (.bool false)], args := [d] }
  | _ => none }
def SumPartsWrongFalsely : Prop := sumPartsRow.holds Tryd.pinned (OpenSpec.ofChange sumPartsWrong)

/-- 'souffleurlaw09.SumJoins': WHATEVER THE INPUT: true; the input reads as it did. -/
def sumJoinsSpec : ChangeSpec := { name := "sumJoins", fn := fun _ => fun
  | [d1, d2] => { results := [.lit (.bool true)], args := [d1, d2] }
  | _ => none }
def sumJoinsRow : OpenClaim := { program := "ytonjlkakbboplaadoor", sum := "6056d678b40dbcce2f6df17b3c70a3a15d0b38d11d928711b42b70c865625883", func := "souffleur/souffleurlaw09.SumJoins", spec := "sumJoins", named := ["souffleur/sum.rests", "souffleur/sum.powers"], apart := false, laid := [("souffleur/sum.rests", laid_souffleur_sum_rests), ("souffleur/sum.powers", laid_souffleur_sum_powers)] }
def SumJoinsSaid : Prop := sumJoinsRow.holds Tryd.pinned (OpenSpec.ofChange sumJoinsSpec)

/-- ITS FALSE NEIGHBOUR: 'it returns false'. Refute it at one input. -/
def sumJoinsWrong : ChangeSpec := { name := "sumJoins", fn := fun _ => fun
  | [d1, d2] => { results := [.lit (.bool false)], args := [d1, d2] }
  | _ => none }
def SumJoinsWrongFalsely : Prop := sumJoinsRow.holds Tryd.pinned (OpenSpec.ofChange sumJoinsWrong)

/-- 'souffleurlaw09.SumShifts': WHATEVER THE INPUT: true; the input reads as it did. -/
def sumShiftsSpec : ChangeSpec := { name := "sumShifts", fn := fun _ => fun
  | [d1, d2] => { results := [.lit (.bool true)], args := [d1, d2] }
  | _ => none }
def sumShiftsRow : OpenClaim := { program := "ytonjlkakbboplaadoor", sum := "6056d678b40dbcce2f6df17b3c70a3a15d0b38d11d928711b42b70c865625883", func := "souffleur/souffleurlaw09.SumShifts", spec := "sumShifts", named := ["souffleur/sum.rests", "souffleur/sum.powers"], apart := false, laid := [("souffleur/sum.rests", laid_souffleur_sum_rests), ("souffleur/sum.powers", laid_souffleur_sum_powers)] }
def SumShiftsSaid : Prop := sumShiftsRow.holds Tryd.pinned (OpenSpec.ofChange sumShiftsSpec)

/-- ITS FALSE NEIGHBOUR: 'it returns false'. Refute it at one input. -/
def sumShiftsWrong : ChangeSpec := { name := "sumShifts", fn := fun _ => fun
  | [d1, d2] => { results := [.lit (.bool false)], args := [d1, d2] }
  | _ => none }
def SumShiftsWrongFalsely : Prop := sumShiftsRow.holds Tryd.pinned (OpenSpec.ofChange sumShiftsWrong)

/-- 'souffleurlaw09.SumLinear': WHATEVER THE INPUT: true; the input reads as it did. -/
def sumLinearSpec : ChangeSpec := { name := "sumLinear", fn := fun _ => fun
  | [d1, d2, d3] => { results := [.lit (.bool true)], args := [d1, d2, d3] }
  | _ => none }
def sumLinearRow : OpenClaim := { program := "ytonjlkakbboplaadoor", sum := "6056d678b40dbcce2f6df17b3c70a3a15d0b38d11d928711b42b70c865625883", func := "souffleur/souffleurlaw09.SumLinear", spec := "sumLinear", named := ["souffleur/sum.rests", "souffleur/sum.powers"], apart := false, laid := [("souffleur/sum.rests", laid_souffleur_sum_rests), ("souffleur/sum.powers", laid_souffleur_sum_powers)] }
def SumLinearSaid : Prop := sumLinearRow.holds Tryd.pinned (OpenSpec.ofChange sumLinearSpec)

/-- ITS FALSE NEIGHBOUR: 'it returns false'. Refute it at one input. -/
def sumLinearWrong : ChangeSpec := { name := "sumLinear", fn := fun _ => fun
  | [d1, d2, d3] => { results := [.lit (.bool false)], args := [d1, d2, d3] }
  | _ => none }
def SumLinearWrongFalsely : Prop := sumLinearRow.holds Tryd.pinned (OpenSpec.ofChange sumLinearWrong)

/-- 'souffleurlaw09.SumBytes': WHATEVER THE INPUT: true; the input reads as it did. -/
def sumBytesSpec : ChangeSpec := { name := "sumBytes", fn := fun _ => fun
  | [d1, d2] => { results := [.lit (.bool true)], args := [d1, d2] }
  | _ => none }
def sumBytesRow : OpenClaim := { program := "ytonjlkakbboplaadoor", sum := "6056d678b40dbcce2f6df17b3c70a3a15d0b38d11d928711b42b70c865625883", func := "souffleur/souffleurlaw09.SumBytes", spec := "sumBytes", named := ["souffleur/sum.rests", "souffleur/sum.powers"], apart := false, laid := [("souffleur/sum.rests", laid_souffleur_sum_rests), ("souffleur/sum.powers", laid_souffleur_sum_powers)] }
def SumBytesSaid : Prop := sumBytesRow.holds Tryd.pinned (OpenSpec.ofChange sumBytesSpec)

/-- ITS FALSE NEIGHBOUR: 'it returns false'. Refute it at one input. -/
def sumBytesWrong : ChangeSpec := { name := "sumBytes", fn := fun _ => fun
  | [d1, d2] => { results := [.lit (.bool false)], args := [d1, d2] }
  | _ => none }
def SumBytesWrongFalsely : Prop := sumBytesRow.holds Tryd.pinned (OpenSpec.ofChange sumBytesWrong)

/-- 'souffleurlaw09.SumTold': WHATEVER THE INPUT: true; the input reads as it did. -/
def sumToldSpec : ChangeSpec := { name := "sumTold", fn := fun _ => fun
  | [d1, d2, d3] => { results := [.lit (.bool true)], args := [d1, d2, d3] }
  | _ => none }
def sumToldRow : OpenClaim := { program := "ytonjlkakbboplaadoor", sum := "6056d678b40dbcce2f6df17b3c70a3a15d0b38d11d928711b42b70c865625883", func := "souffleur/souffleurlaw09.SumTold", spec := "sumTold", named := ["souffleur/sum.rests", "souffleur/sum.powers"], apart := false, laid := [("souffleur/sum.rests", laid_souffleur_sum_rests), ("souffleur/sum.powers", laid_souffleur_sum_powers)] }
def SumToldSaid : Prop := sumToldRow.holds Tryd.pinned (OpenSpec.ofChange sumToldSpec)

/-- ITS FALSE NEIGHBOUR: 'it returns false'. Refute it at one input. -/
def sumToldWrong : ChangeSpec := { name := "sumTold", fn := fun _ => fun
  | [d1, d2, d3] => { results := [.lit (.bool false)], args := [d1, d2, d3] }
  | _ => none }
def SumToldWrongFalsely : Prop := sumToldRow.holds Tryd.pinned (OpenSpec.ofChange sumToldWrong)

/- THE SECOND FORM. 'bulk': how many values and letters a reading holds, each counted each time it is reached (what is shared counts as often as it is met; a slice's spare places count too). A statement '..UptoSaid' is the law's where the arguments, and the package variables that the reading takes, are together of bulk at most 1048576: NARROWER than '..Said'. Prove '..Said' where nothing that the law and all that it calls make is longer than what came in: it says more and counts as full. Else prove '..UptoSaid'. A law counts once. -/
mutual
def uptoBulk {H : Type} : DataW H → Nat
  | .lit (.string bytes) => bytes.length + 1
  | .lit _ => 1
  | .nil => 1
  | .ptr d => uptoBulk d + 1
  | .slice elems spare => uptoBulkAll elems + uptoBulkAll spare + 1
  | .agg parts => uptoBulkAll parts + 1
  | .iface _ d => uptoBulk d + 1
  | .map entries => uptoBulkEntries entries + 1
  | .held _ => 1
def uptoBulkAll {H : Type} : List (DataW H) → Nat
  | [] => 0
  | d :: r => uptoBulk d + uptoBulkAll r
def uptoBulkEntries {H : Type} : List (Lit × DataW H) → Nat
  | [] => 0
  | x :: r => uptoBulkEntry x + uptoBulkEntries r
def uptoBulkEntry {H : Type} : Lit × DataW H → Nat
  | (.string bytes, d) => bytes.length + uptoBulk d + 1
  | (_, d) => uptoBulk d + 1
 end
def uptoSmall : (H : Type) → List (DataW H) → Bool := fun _ ds => decide (uptoBulkAll ds ≤ 1048576)
def OpenSpec.upto (s : _root_.Go.ChangeSpec) : _root_.Go.OpenSpec := { _root_.Go.OpenSpec.ofChange s with cond := some uptoSmall }

/-- 'souffleurlaw09.SumOf', WHERE WHAT IT READS IS OF BULK AT MOST 1048576: true; the input reads as it did. -/
def sumOfUptoRow : OpenClaim := { program := "ytonjlkakbboplaadoor", sum := "6056d678b40dbcce2f6df17b3c70a3a15d0b38d11d928711b42b70c865625883", func := "souffleur/souffleurlaw09.SumOf", spec := "sumOf", named := ["souffleur/sum.rests", "souffleur/sum.powers"], apart := false, laid := [("souffleur/sum.rests", laid_souffleur_sum_rests), ("souffleur/sum.powers", laid_souffleur_sum_powers)], narrowed := true }
def SumOfUptoSaid : Prop := sumOfUptoRow.holds Tryd.pinned (OpenSpec.upto sumOfSpec)

/-- 'souffleurlaw09.SumParts', WHERE WHAT IT READS IS OF BULK AT MOST 1048576: true; the input reads as it did. -/
def sumPartsUptoRow : OpenClaim := { program := "ytonjlkakbboplaadoor", sum := "6056d678b40dbcce2f6df17b3c70a3a15d0b38d11d928711b42b70c865625883", func := "souffleur/souffleurlaw09.SumParts", spec := "sumParts", named := ["souffleur/sum.rests", "souffleur/sum.powers"], apart := false, laid := [("souffleur/sum.rests", laid_souffleur_sum_rests), ("souffleur/sum.powers", laid_souffleur_sum_powers)], narrowed := true }
def SumPartsUptoSaid : Prop := sumPartsUptoRow.holds Tryd.pinned (OpenSpec.upto sumPartsSpec)

/-- 'souffleurlaw09.SumJoins', WHERE WHAT IT READS IS OF BULK AT MOST 1048576: true; the input reads as it did. -/
def sumJoinsUptoRow : OpenClaim := { program := "ytonjlkakbboplaadoor", sum := "6056d678b40dbcce2f6df17b3c70a3a15d0b38d11d928711b42b70c865625883", func := "souffleur/souffleurlaw09.SumJoins", spec := "sumJoins", named := ["souffleur/sum.rests", "souffleur/sum.powers"], apart := false, laid := [("souffleur/sum.rests", laid_souffleur_sum_rests), ("souffleur/sum.powers", laid_souffleur_sum_powers)], narrowed := true }
def SumJoinsUptoSaid : Prop := sumJoinsUptoRow.holds Tryd.pinned (OpenSpec.upto sumJoinsSpec)

/-- 'souffleurlaw09.SumShifts', WHERE WHAT IT READS IS OF BULK AT MOST 1048576: true; the input reads as it did. -/
def sumShiftsUptoRow : OpenClaim := { program := "ytonjlkakbboplaadoor", sum := "6056d678b40dbcce2f6df17b3c70a3a15d0b38d11d928711b42b70c865625883", func := "souffleur/souffleurlaw09.SumShifts", spec := "sumShifts", named := ["souffleur/sum.rests", "souffleur/sum.powers"], apart := false, laid := [("souffleur/sum.rests", laid_souffleur_sum_rests), ("souffleur/sum.powers", laid_souffleur_sum_powers)], narrowed := true }
def SumShiftsUptoSaid : Prop := sumShiftsUptoRow.holds Tryd.pinned (OpenSpec.upto sumShiftsSpec)

/-- 'souffleurlaw09.SumLinear', WHERE WHAT IT READS IS OF BULK AT MOST 1048576: true; the input reads as it did. -/
def sumLinearUptoRow : OpenClaim := { program := "ytonjlkakbboplaadoor", sum := "6056d678b40dbcce2f6df17b3c70a3a15d0b38d11d928711b42b70c865625883", func := "souffleur/souffleurlaw09.SumLinear", spec := "sumLinear", named := ["souffleur/sum.rests", "souffleur/sum.powers"], apart := false, laid := [("souffleur/sum.rests", laid_souffleur_sum_rests), ("souffleur/sum.powers", laid_souffleur_sum_powers)], narrowed := true }
def SumLinearUptoSaid : Prop := sumLinearUptoRow.holds Tryd.pinned (OpenSpec.upto sumLinearSpec)

/-- 'souffleurlaw09.SumBytes', WHERE WHAT IT READS IS OF BULK AT MOST 1048576: true; the input reads as it did. -/
def sumBytesUptoRow : OpenClaim := { program := "ytonjlkakbboplaadoor", sum := "6056d678b40dbcce2f6df17b3c70a3a15d0b38d11d928711b42b70c865625883", func := "souffleur/souffleurlaw09.SumBytes", spec := "sumBytes", named := ["souffleur/sum.rests", "souffleur/sum.powers"], apart := false, laid := [("souffleur/sum.rests", laid_souffleur_sum_rests), ("souffleur/sum.powers", laid_souffleur_sum_powers)], narrowed := true }
def SumBytesUptoSaid : Prop := sumBytesUptoRow.holds Tryd.pinned (OpenSpec.upto sumBytesSpec)

/-- 'souffleurlaw09.SumTold', WHERE WHAT IT READS IS OF BULK AT MOST 1048576: true; the input reads as it did. -/
def sumToldUptoRow : OpenClaim := { program := "ytonjlkakbboplaadoor", sum := "6056d678b40dbcce2f6df17b3c70a3a15d0b38d11d928711b42b70c865625883", func := "souffleur/souffleurlaw09.SumTold", spec := "sumTold", named := ["souffleur/sum.rests", "souffleur/sum.powers"], apart := false, laid := [("souffleur/sum.rests", laid_souffleur_sum_rests), ("souffleur/sum.powers", laid_souffleur_sum_powers)], narrowed := true }
def SumToldUptoSaid : Prop := sumToldUptoRow.holds Tryd.pinned (OpenSpec.upto sumToldSpec)

end Rows
end Go.Proofs.YtonjlkakbboplaaDoor
