/-
  NARROWER THAN 'FOR EVERY INPUT', by the rows' own cells (each row's printed sentence says how): JournalAll: laid · JournalNames: laid · JournalKeeps: laid · JournalAgain: laid · JournalFaults: laid.
  DERIVED. THE GIVEN ROWS OF THIS SEAT. 5 by the template 'for every input the law returns true; each argument reads behind the call as it read before'; 0 by the template 'total and deterministic' (their statements: YteafcaambnfdoaaGreatDoorTotals.lean).
  GIVEN WITH THE SEED: the statements are not yours to turn. If you find one false, say at which input.
  Laid BY PROGRAM, IN A SANDBOX (cutbox-rows.mjs): the forced cells as the released guide's own fill.sh prints them over the translation 11996ca8889af230… (all of the seat's roots in one cut). By AI agents, Wed Nov 11 2026. No macro, syntax, notation, axiom, sorry.
-/
import Derived.Test.YteafcaambnfdoaaGreatDoorChecked
import GoSem.Claim
import GoSem.ClaimJoined
import GoSem.ClaimMapViews
import Derived.JoinedTies
import Derived.KernelRfl
namespace Go.Proofs.YteafcaambnfdoaaGreatDoor
/- THE CELL 'sum', in the pinned program and in every row, IS THE sha256 OF THE DUMP (.gsa) THAT YteafcaambnfdoaaGreatDoorProg.lean LOADS. Nothing in Lean hashes anything: it is a label: what it is worth is what the hold of that sum in a sandbox is worth. -/
noncomputable def Tryz.pinned : Pinned := { name := "yteafcaambnfdoaagreatdoor", sum := "11996ca8889af2302e7143b6b1487a781f96494d029797e8ff933cd178386739", checked := Tryz.checked }
namespace Rows
def none {H : Type} : Left H := { results := [], args := [] }

/- WHAT THE LISTED PACKAGE-LEVEL VARIABLES READ AS WHEN THE CALL BEGINS. Each datum BY PROGRAM (the guide's laid-datum.mjs) off the statement by which the dump's own 'gosem.cut.vars' lays the variable. In a bare row this is a premise. The card (YteafcaambnfdoaaGreatDoorCards.lean) ties it to the program's text. -/
def laid_souffleur_sum_rests {H : Type} : DataW H := .agg [.lit (.int .u32 0), .lit (.int .u32 498536548), .lit (.int .u32 997073096), .lit (.int .u32 651767980), .lit (.int .u32 1994146192), .lit (.int .u32 1802195444), .lit (.int .u32 1303535960), .lit (.int .u32 1342533948), .lit (.int .u32 3988292384), .lit (.int .u32 4027552580), .lit (.int .u32 3604390888), .lit (.int .u32 3412177804), .lit (.int .u32 2607071920), .lit (.int .u32 2262029012), .lit (.int .u32 2685067896), .lit (.int .u32 3183342108)]

/-- 'souffleurlaw12.JournalAll': WHATEVER THE INPUT: true; the input reads as it did. -/
def journalAllSpec : ChangeSpec := { name := "journalAll", fn := fun _ => fun
  | [d] => { results := [.lit (.bool true)], args := [d] }
  | _ => none }
def journalAllRow : OpenClaim := { program := "yteafcaambnfdoaagreatdoor", sum := "11996ca8889af2302e7143b6b1487a781f96494d029797e8ff933cd178386739", func := "souffleur/souffleurlaw12.JournalAll", spec := "journalAll", inPlace := ["internal/abi.NoEscape"], unfollowed := true, recurses := true, named := ["souffleur/sum.rests"], apart := false, laid := [("souffleur/sum.rests", laid_souffleur_sum_rests)] }
def JournalAllSaid : Prop := journalAllRow.holds Tryz.pinned (OpenSpec.ofChange journalAllSpec)

/-- ITS FALSE NEIGHBOUR: 'it returns false'. Refute it at one input. -/
def journalAllWrong : ChangeSpec := { name := "journalAll", fn := fun _ => fun
  | [d] => { results := [.lit (.bool false)], args := [d] }
  | _ => none }
def JournalAllWrongFalsely : Prop := journalAllRow.holds Tryz.pinned (OpenSpec.ofChange journalAllWrong)

/-- 'souffleurlaw12.JournalNames': WHATEVER THE INPUT: true; the input reads as it did. -/
def journalNamesSpec : ChangeSpec := { name := "journalNames", fn := fun _ => fun
  | [d] => { results := [.lit (.bool true)], args := [d] }
  | _ => none }
def journalNamesRow : OpenClaim := { program := "yteafcaambnfdoaagreatdoor", sum := "11996ca8889af2302e7143b6b1487a781f96494d029797e8ff933cd178386739", func := "souffleur/souffleurlaw12.JournalNames", spec := "journalNames", inPlace := ["internal/abi.NoEscape"], unfollowed := true, recurses := true, named := ["souffleur/sum.rests"], apart := false, laid := [("souffleur/sum.rests", laid_souffleur_sum_rests)] }
def JournalNamesSaid : Prop := journalNamesRow.holds Tryz.pinned (OpenSpec.ofChange journalNamesSpec)

/-- ITS FALSE NEIGHBOUR: 'it returns false'. Refute it at one input. -/
def journalNamesWrong : ChangeSpec := { name := "journalNames", fn := fun _ => fun
  | [d] => { results := [.lit (.bool false)], args := [d] }
  | _ => none }
def JournalNamesWrongFalsely : Prop := journalNamesRow.holds Tryz.pinned (OpenSpec.ofChange journalNamesWrong)

/-- 'souffleurlaw12.JournalKeeps': WHATEVER THE INPUT: true; the input reads as it did. -/
def journalKeepsSpec : ChangeSpec := { name := "journalKeeps", fn := fun _ => fun
  | [d1, d2] => { results := [.lit (.bool true)], args := [d1, d2] }
  | _ => none }
def journalKeepsRow : OpenClaim := { program := "yteafcaambnfdoaagreatdoor", sum := "11996ca8889af2302e7143b6b1487a781f96494d029797e8ff933cd178386739", func := "souffleur/souffleurlaw12.JournalKeeps", spec := "journalKeeps", inPlace := ["internal/abi.NoEscape"], unfollowed := true, recurses := true, named := ["souffleur/sum.rests"], apart := false, laid := [("souffleur/sum.rests", laid_souffleur_sum_rests)] }
def JournalKeepsSaid : Prop := journalKeepsRow.holds Tryz.pinned (OpenSpec.ofChange journalKeepsSpec)

/-- ITS FALSE NEIGHBOUR: 'it returns false'. Refute it at one input. -/
def journalKeepsWrong : ChangeSpec := { name := "journalKeeps", fn := fun _ => fun
  | [d1, d2] => { results := [.lit (.bool false)], args := [d1, d2] }
  | _ => none }
def JournalKeepsWrongFalsely : Prop := journalKeepsRow.holds Tryz.pinned (OpenSpec.ofChange journalKeepsWrong)

/-- 'souffleurlaw12.JournalAgain': WHATEVER THE INPUT: true; the input reads as it did. -/
def journalAgainSpec : ChangeSpec := { name := "journalAgain", fn := fun _ => fun
  | [d1, d2] => { results := [.lit (.bool true)], args := [d1, d2] }
  | _ => none }
def journalAgainRow : OpenClaim := { program := "yteafcaambnfdoaagreatdoor", sum := "11996ca8889af2302e7143b6b1487a781f96494d029797e8ff933cd178386739", func := "souffleur/souffleurlaw12.JournalAgain", spec := "journalAgain", inPlace := ["internal/abi.NoEscape"], unfollowed := true, recurses := true, named := ["souffleur/sum.rests"], apart := false, laid := [("souffleur/sum.rests", laid_souffleur_sum_rests)] }
def JournalAgainSaid : Prop := journalAgainRow.holds Tryz.pinned (OpenSpec.ofChange journalAgainSpec)

/-- ITS FALSE NEIGHBOUR: 'it returns false'. Refute it at one input. -/
def journalAgainWrong : ChangeSpec := { name := "journalAgain", fn := fun _ => fun
  | [d1, d2] => { results := [.lit (.bool false)], args := [d1, d2] }
  | _ => none }
def JournalAgainWrongFalsely : Prop := journalAgainRow.holds Tryz.pinned (OpenSpec.ofChange journalAgainWrong)

/-- 'souffleurlaw12.JournalFaults': WHATEVER THE INPUT: true; the input reads as it did. -/
def journalFaultsSpec : ChangeSpec := { name := "journalFaults", fn := fun _ => fun
  | [d1, d2, d3] => { results := [.lit (.bool true)], args := [d1, d2, d3] }
  | _ => none }
def journalFaultsRow : OpenClaim := { program := "yteafcaambnfdoaagreatdoor", sum := "11996ca8889af2302e7143b6b1487a781f96494d029797e8ff933cd178386739", func := "souffleur/souffleurlaw12.JournalFaults", spec := "journalFaults", inPlace := ["internal/abi.NoEscape"], unfollowed := true, recurses := true, named := ["souffleur/sum.rests"], apart := false, laid := [("souffleur/sum.rests", laid_souffleur_sum_rests)] }
def JournalFaultsSaid : Prop := journalFaultsRow.holds Tryz.pinned (OpenSpec.ofChange journalFaultsSpec)

/-- ITS FALSE NEIGHBOUR: 'it returns false'. Refute it at one input. -/
def journalFaultsWrong : ChangeSpec := { name := "journalFaults", fn := fun _ => fun
  | [d1, d2, d3] => { results := [.lit (.bool false)], args := [d1, d2, d3] }
  | _ => none }
def JournalFaultsWrongFalsely : Prop := journalFaultsRow.holds Tryz.pinned (OpenSpec.ofChange journalFaultsWrong)

/- THE SECOND FORM. 'bulk': how many values and letters a reading holds, each counted each time it is reached (what is shared counts as often as it is met; a slice's spare places count too). A statement '..UptoSaid' is the law's where the arguments, and the package variables that the reading takes, are together of bulk at most 1048576: NARROWER than '..Said'. Prove '..Said' where nothing that the law and all that it calls make is longer than what came in: it says more and counts as full. Else prove '..UptoSaid'. A law counts once. -/
mutual
def uptoBulk {H : Type} : DataW H → Nat
  | .lit (.string bytes) => bytes.length + 1
  | .lit _ => 1
  | .nil => 1
  | .ptr d => uptoBulk d + 1
  | .slice elems spare => uptoBulkAll elems + uptoBulkAll spare + 1
  | .agg parts => uptoBulkAll parts + 1
  | .iface _ d => uptoBulk d + 1
  | .map entries => uptoBulkEntries entries + 1
  | .held _ => 1
def uptoBulkAll {H : Type} : List (DataW H) → Nat
  | [] => 0
  | d :: r => uptoBulk d + uptoBulkAll r
def uptoBulkEntries {H : Type} : List (Lit × DataW H) → Nat
  | [] => 0
  | x :: r => uptoBulkEntry x + uptoBulkEntries r
def uptoBulkEntry {H : Type} : Lit × DataW H → Nat
  | (.string bytes, d) => bytes.length + uptoBulk d + 1
  | (_, d) => uptoBulk d + 1
 end
def uptoSmall : (H : Type) → List (DataW H) → Bool := fun _ ds => decide (uptoBulkAll ds ≤ 1048576)
def OpenSpec.upto (s : _root_.Go.ChangeSpec) : _root_.Go.OpenSpec := { _root_.Go.OpenSpec.ofChange s with cond := some uptoSmall }

/-- 'souffleurlaw12.JournalAll', WHERE WHAT IT READS IS OF BULK AT MOST 1048576: true; the input reads as it did. -/
def journalAllUptoRow : OpenClaim := { program := "yteafcaambnfdoaagreatdoor", sum := "11996ca8889af2302e7143b6b1487a781f96494d029797e8ff933cd178386739", func := "souffleur/souffleurlaw12.JournalAll", spec := "journalAll", inPlace := ["internal/abi.NoEscape"], unfollowed := true, recurses := true, named := ["souffleur/sum.rests"], apart := false, laid := [("souffleur/sum.rests", laid_souffleur_sum_rests)], narrowed := true }
def JournalAllUptoSaid : Prop := journalAllUptoRow.holds Tryz.pinned (OpenSpec.upto journalAllSpec)

/-- 'souffleurlaw12.JournalNames', WHERE WHAT IT READS IS OF BULK AT MOST 1048576: true; the input reads as it did. -/
def journalNamesUptoRow : OpenClaim := { program := "yteafcaambnfdoaagreatdoor", sum := "11996ca8889af2302e7143b6b1487a781f96494d029797e8ff933cd178386739", func := "souffleur/souffleurlaw12.JournalNames", spec := "journalNames", inPlace := ["internal/abi.NoEscape"], unfollowed := true, recurses := true, named := ["souffleur/sum.rests"], apart := false, laid := [("souffleur/sum.rests", laid_souffleur_sum_rests)], narrowed := true }
def JournalNamesUptoSaid : Prop := journalNamesUptoRow.holds Tryz.pinned (OpenSpec.upto journalNamesSpec)

/-- 'souffleurlaw12.JournalKeeps', WHERE WHAT IT READS IS OF BULK AT MOST 1048576: true; the input reads as it did. -/
def journalKeepsUptoRow : OpenClaim := { program := "yteafcaambnfdoaagreatdoor", sum := "11996ca8889af2302e7143b6b1487a781f96494d029797e8ff933cd178386739", func := "souffleur/souffleurlaw12.JournalKeeps", spec := "journalKeeps", inPlace := ["internal/abi.NoEscape"], unfollowed := true, recurses := true, named := ["souffleur/sum.rests"], apart := false, laid := [("souffleur/sum.rests", laid_souffleur_sum_rests)], narrowed := true }
def JournalKeepsUptoSaid : Prop := journalKeepsUptoRow.holds Tryz.pinned (OpenSpec.upto journalKeepsSpec)

/-- 'souffleurlaw12.JournalAgain', WHERE WHAT IT READS IS OF BULK AT MOST 1048576: true; the input reads as it did. -/
def journalAgainUptoRow : OpenClaim := { program := "yteafcaambnfdoaagreatdoor", sum := "11996ca8889af2302e7143b6b1487a781f96494d029797e8ff933cd178386739", func := "souffleur/souffleurlaw12.JournalAgain", spec := "journalAgain", inPlace := ["internal/abi.NoEscape"], unfollowed := true, recurses := true, named := ["souffleur/sum.rests"], apart := false, laid := [("souffleur/sum.rests", laid_souffleur_sum_rests)], narrowed := true }
def JournalAgainUptoSaid : Prop := journalAgainUptoRow.holds Tryz.pinned (OpenSpec.upto journalAgainSpec)

/-- 'souffleurlaw12.JournalFaults', WHERE WHAT IT READS IS OF BULK AT MOST 1048576: true; the input reads as it did. -/
def journalFaultsUptoRow : OpenClaim := { program := "yteafcaambnfdoaagreatdoor", sum := "11996ca8889af2302e7143b6b1487a781f96494d029797e8ff933cd178386739", func := "souffleur/souffleurlaw12.JournalFaults", spec := "journalFaults", inPlace := ["internal/abi.NoEscape"], unfollowed := true, recurses := true, named := ["souffleur/sum.rests"], apart := false, laid := [("souffleur/sum.rests", laid_souffleur_sum_rests)], narrowed := true }
def JournalFaultsUptoSaid : Prop := journalFaultsUptoRow.holds Tryz.pinned (OpenSpec.upto journalFaultsSpec)

end Rows
end Go.Proofs.YteafcaambnfdoaaGreatDoor
