/-
  NARROWER THAN 'FOR EVERY INPUT', by the rows' own cells (each row's printed sentence says how): JournalPacks: laid · JournalUnpacks: laid · JournalOrder: laid.
  DERIVED. THE GIVEN ROWS OF THIS SEAT. 3 by the template 'for every input the law returns true; each argument reads behind the call as it read before'; 0 by the template 'total and deterministic' (their statements: YteafcaambnfdoaaDoorTotals.lean).
  GIVEN WITH THE SEED: the statements are not yours to turn. If you find one false, say at which input.
  Laid BY PROGRAM, IN A SANDBOX (cutbox-rows.mjs): the forced cells as the released guide's own fill.sh prints them over the translation 21a6f0ad7cdefb60… (all of the seat's roots in one cut). By AI agents, Wed Nov 11 2026. No macro, syntax, notation, axiom, sorry.
-/
import Derived.Test.YteafcaambnfdoaaDoorChecked
import GoSem.Claim
import GoSem.ClaimJoined
import GoSem.ClaimMapViews
import Derived.JoinedTies
import Derived.KernelRfl
namespace Go.Proofs.YteafcaambnfdoaaDoor
/- THE CELL 'sum', in the pinned program and in every row, IS THE sha256 OF THE DUMP (.gsa) THAT YteafcaambnfdoaaDoorProg.lean LOADS. Nothing in Lean hashes anything: it is a label: what it is worth is what the hold of that sum in a sandbox is worth. -/
noncomputable def Tryd.pinned : Pinned := { name := "yteafcaambnfdoaadoor", sum := "21a6f0ad7cdefb606fbe4b9a5a7921f4d9446e0a9e8186f953a2eaf0441d3420", checked := Tryd.checked }
namespace Rows
def none {H : Type} : Left H := { results := [], args := [] }

/- WHAT THE LISTED PACKAGE-LEVEL VARIABLES READ AS WHEN THE CALL BEGINS. Each datum BY PROGRAM (the guide's laid-datum.mjs) off the statement by which the dump's own 'gosem.cut.vars' lays the variable. In a bare row this is a premise. The card (YteafcaambnfdoaaDoorCards.lean) ties it to the program's text. -/
def laid_souffleur_sum_rests {H : Type} : DataW H := .agg [.lit (.int .u32 0), .lit (.int .u32 498536548), .lit (.int .u32 997073096), .lit (.int .u32 651767980), .lit (.int .u32 1994146192), .lit (.int .u32 1802195444), .lit (.int .u32 1303535960), .lit (.int .u32 1342533948), .lit (.int .u32 3988292384), .lit (.int .u32 4027552580), .lit (.int .u32 3604390888), .lit (.int .u32 3412177804), .lit (.int .u32 2607071920), .lit (.int .u32 2262029012), .lit (.int .u32 2685067896), .lit (.int .u32 3183342108)]

/-- 'souffleurlaw12.JournalPacks': WHATEVER THE INPUT: true; the input reads as it did. -/
def journalPacksSpec : ChangeSpec := { name := "journalPacks", fn := fun _ => fun
  | [d] => { results := [.lit (.bool true)], args := [d] }
  | _ => none }
def journalPacksRow : OpenClaim := { program := "yteafcaambnfdoaadoor", sum := "21a6f0ad7cdefb606fbe4b9a5a7921f4d9446e0a9e8186f953a2eaf0441d3420", func := "souffleur/souffleurlaw12.JournalPacks", spec := "journalPacks", inPlace := ["internal/abi.NoEscape"], unfollowed := true, recurses := true, named := ["souffleur/sum.rests"], apart := false, laid := [("souffleur/sum.rests", laid_souffleur_sum_rests)] }
def JournalPacksSaid : Prop := journalPacksRow.holds Tryd.pinned (OpenSpec.ofChange journalPacksSpec)

/-- ITS FALSE NEIGHBOUR: 'it returns false'. Refute it at one input. -/
def journalPacksWrong : ChangeSpec := { name := "journalPacks", fn := fun _ => fun
  | [d] => { results := [.lit (.bool false)], args := [d] }
  | _ => none }
def JournalPacksWrongFalsely : Prop := journalPacksRow.holds Tryd.pinned (OpenSpec.ofChange journalPacksWrong)

/-- 'souffleurlaw12.JournalUnpacks': WHATEVER THE INPUT: true; the input reads as it did. -/
def journalUnpacksSpec : ChangeSpec := { name := "journalUnpacks", fn := fun _ => fun
  | [d] => { results := [.lit (.bool true)], args := [d] }
  | _ => none }
def journalUnpacksRow : OpenClaim := { program := "yteafcaambnfdoaadoor", sum := "21a6f0ad7cdefb606fbe4b9a5a7921f4d9446e0a9e8186f953a2eaf0441d3420", func := "souffleur/souffleurlaw12.JournalUnpacks", spec := "journalUnpacks", inPlace := ["internal/abi.NoEscape"], unfollowed := true, recurses := true, named := ["souffleur/sum.rests"], apart := false, laid := [("souffleur/sum.rests", laid_souffleur_sum_rests)] }
def JournalUnpacksSaid : Prop := journalUnpacksRow.holds Tryd.pinned (OpenSpec.ofChange journalUnpacksSpec)

/-- ITS FALSE NEIGHBOUR: 'it returns false'. Refute it at one input. -/
def journalUnpacksWrong : ChangeSpec := { name := "journalUnpacks", fn := fun _ => fun
  | [d] => { results := [.lit (.bool false)], args := [d] }
  | _ => none }
def JournalUnpacksWrongFalsely : Prop := journalUnpacksRow.holds Tryd.pinned (OpenSpec.ofChange journalUnpacksWrong)

/-- 'souffleurlaw12.JournalOrder': WHATEVER THE INPUT: true; the input reads as it did. -/
def journalOrderSpec : ChangeSpec := { name := "journalOrder", fn := fun _ => fun
  | [d1, d2, d3] => { results := [.lit (.bool true)], args := [d1, d2, d3] }
  | _ => none }
def journalOrderRow : OpenClaim := { program := "yteafcaambnfdoaadoor", sum := "21a6f0ad7cdefb606fbe4b9a5a7921f4d9446e0a9e8186f953a2eaf0441d3420", func := "souffleur/souffleurlaw12.JournalOrder", spec := "journalOrder", inPlace := ["internal/abi.NoEscape"], unfollowed := true, recurses := true, named := ["souffleur/sum.rests"], apart := false, laid := [("souffleur/sum.rests", laid_souffleur_sum_rests)] }
def JournalOrderSaid : Prop := journalOrderRow.holds Tryd.pinned (OpenSpec.ofChange journalOrderSpec)

/-- ITS FALSE NEIGHBOUR: 'it returns false'. Refute it at one input. -/
def journalOrderWrong : ChangeSpec := { name := "journalOrder", fn := fun _ => fun
  | [d1, d2, d3] => { results := [.lit (.bool false)], args := [d1, d2, d3] }
  | _ => none }
def JournalOrderWrongFalsely : Prop := journalOrderRow.holds Tryd.pinned (OpenSpec.ofChange journalOrderWrong)

/- THE SECOND FORM. 'bulk': how many values and letters a reading holds, each counted each time it is reached (what is shared counts as often as it is met; a slice's spare places count too). A statement '..UptoSaid' is the law's where the arguments, and the package variables that the reading takes, are together of bulk at most 1048576: NARROWER than '..Said'. Prove '..Said' where nothing that the law and all that it calls make is longer than what came in: it says more and counts as full. Else prove '..UptoSaid'. A law counts once. -/
mutual
def uptoBulk {H : Type} : DataW H → Nat
  | .lit (.string bytes) => bytes.length + 1
  | .lit _ => 1
  | .nil => 1
  | .ptr d => uptoBulk d + 1
  | .slice elems spare => uptoBulkAll elems + uptoBulkAll spare + 1
  | .agg parts => uptoBulkAll parts + 1
  | .iface _ d => uptoBulk d + 1
  | .map entries => uptoBulkEntries entries + 1
  | .held _ => 1
def uptoBulkAll {H : Type} : List (DataW H) → Nat
  | [] => 0
  | d :: r => uptoBulk d + uptoBulkAll r
def uptoBulkEntries {H : Type} : List (Lit × DataW H) → Nat
  | [] => 0
  | x :: r => uptoBulkEntry x + uptoBulkEntries r
def uptoBulkEntry {H : Type} : Lit × DataW H → Nat
  | (.string bytes, d) => bytes.length + uptoBulk d + 1
  | (_, d) => uptoBulk d + 1
 end
def uptoSmall : (H : Type) → List (DataW H) → Bool := fun _ ds => decide (uptoBulkAll ds ≤ 1048576)
def OpenSpec.upto (s : _root_.Go.ChangeSpec) : _root_.Go.OpenSpec := { _root_.Go.OpenSpec.ofChange s with cond := some uptoSmall }

/-- 'souffleurlaw12.JournalPacks', WHERE WHAT IT READS IS OF BULK AT MOST 1048576: true; the input reads as it did. -/
def journalPacksUptoRow : OpenClaim := { program := "yteafcaambnfdoaadoor", sum := "21a6f0ad7cdefb606fbe4b9a5a7921f4d9446e0a9e8186f953a2eaf0441d3420", func := "souffleur/souffleurlaw12.JournalPacks", spec := "journalPacks", inPlace := ["internal/abi.NoEscape"], unfollowed := true, recurses := true, named := ["souffleur/sum.rests"], apart := false, laid := [("souffleur/sum.rests", laid_souffleur_sum_rests)], narrowed := true }
def JournalPacksUptoSaid : Prop := journalPacksUptoRow.holds Tryd.pinned (OpenSpec.upto journalPacksSpec)

/-- 'souffleurlaw12.JournalUnpacks', WHERE WHAT IT READS IS OF BULK AT MOST 1048576: true; the input reads as it did. -/
def journalUnpacksUptoRow : OpenClaim := { program := "yteafcaambnfdoaadoor", sum := "21a6f0ad7cdefb606fbe4b9a5a7921f4d9446e0a9e8186f953a2eaf0441d3420", func := "souffleur/souffleurlaw12.JournalUnpacks", spec := "journalUnpacks", inPlace := ["internal/abi.NoEscape"], unfollowed := true, recurses := true, named := ["souffleur/sum.rests"], apart := false, laid := [("souffleur/sum.rests", laid_souffleur_sum_rests)], narrowed := true }
def JournalUnpacksUptoSaid : Prop := journalUnpacksUptoRow.holds Tryd.pinned (OpenSpec.upto journalUnpacksSpec)

/-- 'souffleurlaw12.JournalOrder', WHERE WHAT IT READS IS OF BULK AT MOST 1048576: true; the input reads as it did. -/
def journalOrderUptoRow : OpenClaim := { program := "yteafcaambnfdoaadoor", sum := "21a6f0ad7cdefb606fbe4b9a5a7921f4d9446e0a9e8186f953a2eaf0441d3420", func := "souffleur/souffleurlaw12.JournalOrder", spec := "journalOrder", inPlace := ["internal/abi.NoEscape"], unfollowed := true, recurses := true, named := ["souffleur/sum.rests"], apart := false, laid := [("souffleur/sum.rests", laid_souffleur_sum_rests)], narrowed := true }
def JournalOrderUptoSaid : Prop := journalOrderUptoRow.holds Tryd.pinned (OpenSpec.upto journalOrderSpec)

end Rows
end Go.Proofs.YteafcaambnfdoaaDoor
