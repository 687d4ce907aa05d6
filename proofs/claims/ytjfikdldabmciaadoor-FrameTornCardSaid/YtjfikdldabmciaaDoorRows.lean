/-
  NARROWER THAN 'FOR EVERY INPUT', by the rows' own cells (each row's printed sentence says how): FramePacks: laid · FrameNext: laid · FrameScans: laid · FrameBack: laid · FrameTorn: laid · FrameLengths: laid.
  DERIVED. THE GIVEN ROWS OF THIS SEAT. 6 by the template 'for every input the law returns true; each argument reads behind the call as it read before'; 0 by the template 'total and deterministic' (their statements: YtjfikdldabmciaaDoorTotals.lean).
  GIVEN WITH THE SEED: the statements are not yours to turn. If you find one false, say at which input.
  Laid BY PROGRAM, IN A SANDBOX (cutbox-rows.mjs): the forced cells as the released guide's own fill.sh prints them over the translation 29ce5afdf0d4e97a… (all of the seat's roots in one cut). By AI agents, Wed Nov 11 2026. No macro, syntax, notation, axiom, sorry.
-/
import Derived.Test.YtjfikdldabmciaaDoorChecked
import GoSem.Claim
import GoSem.ClaimJoined
import GoSem.ClaimMapViews
import Derived.JoinedTies
import Derived.KernelRfl
namespace Go.Proofs.YtjfikdldabmciaaDoor
/- THE CELL 'sum', in the pinned program and in every row, IS THE sha256 OF THE DUMP (.gsa) THAT YtjfikdldabmciaaDoorProg.lean LOADS. Nothing in Lean hashes anything: it is a label: what it is worth is what the hold of that sum in a sandbox is worth. -/
noncomputable def Tryd.pinned : Pinned := { name := "ytjfikdldabmciaadoor", sum := "29ce5afdf0d4e97a9c5e4ee31fcbcebf05254cbee9c2cc01eeb3c2723e2fb643", checked := Tryd.checked }
namespace Rows
def none {H : Type} : Left H := { results := [], args := [] }

/- WHAT THE LISTED PACKAGE-LEVEL VARIABLES READ AS WHEN THE CALL BEGINS. Each datum BY PROGRAM (the guide's laid-datum.mjs) off the statement by which the dump's own 'gosem.cut.vars' lays the variable. In a bare row this is a premise. The card (YtjfikdldabmciaaDoorCards.lean) ties it to the program's text. -/
def laid_souffleur_sum_rests {H : Type} : DataW H := .agg [.lit (.int .u32 0), .lit (.int .u32 498536548), .lit (.int .u32 997073096), .lit (.int .u32 651767980), .lit (.int .u32 1994146192), .lit (.int .u32 1802195444), .lit (.int .u32 1303535960), .lit (.int .u32 1342533948), .lit (.int .u32 3988292384), .lit (.int .u32 4027552580), .lit (.int .u32 3604390888), .lit (.int .u32 3412177804), .lit (.int .u32 2607071920), .lit (.int .u32 2262029012), .lit (.int .u32 2685067896), .lit (.int .u32 3183342108)]

/-- 'souffleurlaw11.FramePacks': WHATEVER THE INPUT: true; the input reads as it did. -/
def framePacksSpec : ChangeSpec := { name := "framePacks", fn := fun _ => fun
  | [d] => { results := [.lit (.bool true)], args := [d] }
  | _ => none }
def framePacksRow : OpenClaim := { program := "ytjfikdldabmciaadoor", sum := "29ce5afdf0d4e97a9c5e4ee31fcbcebf05254cbee9c2cc01eeb3c2723e2fb643", func := "souffleur/souffleurlaw11.FramePacks", spec := "framePacks", unfollowed := true, recurses := true, named := ["souffleur/sum.rests"], apart := false, laid := [("souffleur/sum.rests", laid_souffleur_sum_rests)] }
def FramePacksSaid : Prop := framePacksRow.holds Tryd.pinned (OpenSpec.ofChange framePacksSpec)

/-- ITS FALSE NEIGHBOUR: 'it returns false'. Refute it at one input. -/
def framePacksWrong : ChangeSpec := { name := "framePacks", fn := fun _ => fun
  | [d] => { results := [.lit (.bool false)], args := [d] }
  | _ => none }
def FramePacksWrongFalsely : Prop := framePacksRow.holds Tryd.pinned (OpenSpec.ofChange framePacksWrong)

/-- 'souffleurlaw11.FrameNext': WHATEVER THE INPUT: true; the input reads as it did. -/
def frameNextSpec : ChangeSpec := { name := "frameNext", fn := fun _ => fun
  | [d] => { results := [.lit (.bool true)], args := [d] }
  | _ => none }
def frameNextRow : OpenClaim := { program := "ytjfikdldabmciaadoor", sum := "29ce5afdf0d4e97a9c5e4ee31fcbcebf05254cbee9c2cc01eeb3c2723e2fb643", func := "souffleur/souffleurlaw11.FrameNext", spec := "frameNext", unfollowed := true, recurses := true, named := ["souffleur/sum.rests"], apart := false, laid := [("souffleur/sum.rests", laid_souffleur_sum_rests)] }
def FrameNextSaid : Prop := frameNextRow.holds Tryd.pinned (OpenSpec.ofChange frameNextSpec)

/-- ITS FALSE NEIGHBOUR: 'it returns false'. Refute it at one input. -/
def frameNextWrong : ChangeSpec := { name := "frameNext", fn := fun _ => fun
  | [d] => { results := [.lit (.bool false)], args := [d] }
  | _ => none }
def FrameNextWrongFalsely : Prop := frameNextRow.holds Tryd.pinned (OpenSpec.ofChange frameNextWrong)

/-- 'souffleurlaw11.FrameScans': WHATEVER THE INPUT: true; the input reads as it did. -/
def frameScansSpec : ChangeSpec := { name := "frameScans", fn := fun _ => fun
  | [d1, d2] => { results := [.lit (.bool true)], args := [d1, d2] }
  | _ => none }
def frameScansRow : OpenClaim := { program := "ytjfikdldabmciaadoor", sum := "29ce5afdf0d4e97a9c5e4ee31fcbcebf05254cbee9c2cc01eeb3c2723e2fb643", func := "souffleur/souffleurlaw11.FrameScans", spec := "frameScans", unfollowed := true, recurses := true, named := ["souffleur/sum.rests"], apart := false, laid := [("souffleur/sum.rests", laid_souffleur_sum_rests)] }
def FrameScansSaid : Prop := frameScansRow.holds Tryd.pinned (OpenSpec.ofChange frameScansSpec)

/-- ITS FALSE NEIGHBOUR: 'it returns false'. Refute it at one input. -/
def frameScansWrong : ChangeSpec := { name := "frameScans", fn := fun _ => fun
  | [d1, d2] => { results := [.lit (.bool false)], args := [d1, d2] }
  | _ => none }
def FrameScansWrongFalsely : Prop := frameScansRow.holds Tryd.pinned (OpenSpec.ofChange frameScansWrong)

/-- 'souffleurlaw11.FrameBack': WHATEVER THE INPUT: true; the input reads as it did. -/
def frameBackSpec : ChangeSpec := { name := "frameBack", fn := fun _ => fun
  | [d1, d2, d3] => { results := [.lit (.bool true)], args := [d1, d2, d3] }
  | _ => none }
def frameBackRow : OpenClaim := { program := "ytjfikdldabmciaadoor", sum := "29ce5afdf0d4e97a9c5e4ee31fcbcebf05254cbee9c2cc01eeb3c2723e2fb643", func := "souffleur/souffleurlaw11.FrameBack", spec := "frameBack", unfollowed := true, recurses := true, named := ["souffleur/sum.rests"], apart := false, laid := [("souffleur/sum.rests", laid_souffleur_sum_rests)] }
def FrameBackSaid : Prop := frameBackRow.holds Tryd.pinned (OpenSpec.ofChange frameBackSpec)

/-- ITS FALSE NEIGHBOUR: 'it returns false'. Refute it at one input. -/
def frameBackWrong : ChangeSpec := { name := "frameBack", fn := fun _ => fun
  | [d1, d2, d3] => { results := [.lit (.bool false)], args := [d1, d2, d3] }
  | _ => none }
def FrameBackWrongFalsely : Prop := frameBackRow.holds Tryd.pinned (OpenSpec.ofChange frameBackWrong)

/-- 'souffleurlaw11.FrameTorn': WHATEVER THE INPUT: true; the input reads as it did. -/
def frameTornSpec : ChangeSpec := { name := "frameTorn", fn := fun _ => fun
  | [d1, d2, d3] => { results := [.lit (.bool true)], args := [d1, d2, d3] }
  | _ => none }
def frameTornRow : OpenClaim := { program := "ytjfikdldabmciaadoor", sum := "29ce5afdf0d4e97a9c5e4ee31fcbcebf05254cbee9c2cc01eeb3c2723e2fb643", func := "souffleur/souffleurlaw11.FrameTorn", spec := "frameTorn", unfollowed := true, recurses := true, named := ["souffleur/sum.rests"], apart := false, laid := [("souffleur/sum.rests", laid_souffleur_sum_rests)] }
def FrameTornSaid : Prop := frameTornRow.holds Tryd.pinned (OpenSpec.ofChange frameTornSpec)

/-- ITS FALSE NEIGHBOUR: 'it returns false'. Refute it at one input. -/
def frameTornWrong : ChangeSpec := { name := "frameTorn", fn := fun _ => fun
  | [d1, d2, d3] => { results := [.lit (.bool false)], args := [d1, d2, d3] }
  | _ => none }
def FrameTornWrongFalsely : Prop := frameTornRow.holds Tryd.pinned (OpenSpec.ofChange frameTornWrong)

/-- 'souffleurlaw11.FrameLengths': WHATEVER THE INPUT: true; the input reads as it did. -/
def frameLengthsSpec : ChangeSpec := { name := "frameLengths", fn := fun _ => fun
  | [d] => { results := [.lit (.bool true)], args := [d] }
  | _ => none }
def frameLengthsRow : OpenClaim := { program := "ytjfikdldabmciaadoor", sum := "29ce5afdf0d4e97a9c5e4ee31fcbcebf05254cbee9c2cc01eeb3c2723e2fb643", func := "souffleur/souffleurlaw11.FrameLengths", spec := "frameLengths", unfollowed := true, recurses := true, named := ["souffleur/sum.rests"], apart := false, laid := [("souffleur/sum.rests", laid_souffleur_sum_rests)] }
def FrameLengthsSaid : Prop := frameLengthsRow.holds Tryd.pinned (OpenSpec.ofChange frameLengthsSpec)

/-- ITS FALSE NEIGHBOUR: 'it returns false'. Refute it at one input. -/
def frameLengthsWrong : ChangeSpec := { name := "frameLengths", fn := fun _ => fun
  | [d] => { results := [.lit (.bool false)], args := [d] }
  | _ => none }
def FrameLengthsWrongFalsely : Prop := frameLengthsRow.holds Tryd.pinned (OpenSpec.ofChange frameLengthsWrong)

/- THE SECOND FORM. 'bulk': how many values and letters a reading holds, each counted each time it is reached (what is shared counts as often as it is met; a slice's spare places count too). A statement '..UptoSaid' is the law's where the arguments, and the package variables that the reading takes, are together of bulk at most 1048576: NARROWER than '..Said'. Prove '..Said' where nothing that the law and all that it calls make is longer than what came in: it says more and counts as full. Else prove '..UptoSaid'. A law counts once. -/
mutual
def uptoBulk {H : Type} : DataW H → Nat
  | .lit (.string bytes) => bytes.length + 1
  | .lit _ => 1
  | .nil => 1
  | .ptr d => uptoBulk d + 1
  | .slice elems spare => uptoBulkAll elems + uptoBulkAll spare + 1
  | .agg parts => uptoBulkAll parts + 1
  | .iface _ d => uptoBulk d + 1
  | .map entries => uptoBulkEntries entries + 1
  | .held _ => 1
def uptoBulkAll {H : Type} : List (DataW H) → Nat
  | [] => 0
  | d :: r => uptoBulk d + uptoBulkAll r
def uptoBulkEntries {H : Type} : List (Lit × DataW H) → Nat
  | [] => 0
  | x :: r => uptoBulkEntry x + uptoBulkEntries r
def uptoBulkEntry {H : Type} : Lit × DataW H → Nat
  | (.string bytes, d) => bytes.length + uptoBulk d + 1
  | (_, d) => uptoBulk d + 1
 end
def uptoSmall : (H : Type) → List (DataW H) → Bool := fun _ ds => decide (uptoBulkAll ds ≤ 1048576)
def OpenSpec.upto (s : _root_.Go.ChangeSpec) : _root_.Go.OpenSpec := { _root_.Go.OpenSpec.ofChange s with cond := some uptoSmall }

/-- 'souffleurlaw11.FramePacks', WHERE WHAT IT READS IS OF BULK AT MOST 1048576: true; the input reads as it did. -/
def framePacksUptoRow : OpenClaim := { program := "ytjfikdldabmciaadoor", sum := "29ce5afdf0d4e97a9c5e4ee31fcbcebf05254cbee9c2cc01eeb3c2723e2fb643", func := "souffleur/souffleurlaw11.FramePacks", spec := "framePacks", unfollowed := true, recurses := true, named := ["souffleur/sum.rests"], apart := false, laid := [("souffleur/sum.rests", laid_souffleur_sum_rests)], narrowed := true }
def FramePacksUptoSaid : Prop := framePacksUptoRow.holds Tryd.pinned (OpenSpec.upto framePacksSpec)

/-- 'souffleurlaw11.FrameNext', WHERE WHAT IT READS IS OF BULK AT MOST 1048576: true; the input reads as it did. -/
def frameNextUptoRow : OpenClaim := { program := "ytjfikdldabmciaadoor", sum := "29ce5afdf0d4e97a9c5e4ee31fcbcebf05254cbee9c2cc01eeb3c2723e2fb643", func := "souffleur/souffleurlaw11.FrameNext", spec := "frameNext", unfollowed := true, recurses := true, named := ["souffleur/sum.rests"], apart := false, laid := [("souffleur/sum.rests", laid_souffleur_sum_rests)], narrowed := true }
def FrameNextUptoSaid : Prop := frameNextUptoRow.holds Tryd.pinned (OpenSpec.upto frameNextSpec)

/-- 'souffleurlaw11.FrameScans', WHERE WHAT IT READS IS OF BULK AT MOST 1048576: true; the input reads as it did. -/
def frameScansUptoRow : OpenClaim := { program := "ytjfikdldabmciaadoor", sum := "29ce5afdf0d4e97a9c5e4ee31fcbcebf05254cbee9c2cc01eeb3c2723e2fb643", func := "souffleur/souffleurlaw11.FrameScans", spec := "frameScans", unfollowed := true, recurses := true, named := ["souffleur/sum.rests"], apart := false, laid := [("souffleur/sum.rests", laid_souffleur_sum_rests)], narrowed := true }
def FrameScansUptoSaid : Prop := frameScansUptoRow.holds Tryd.pinned (OpenSpec.upto frameScansSpec)

/-- 'souffleurlaw11.FrameBack', WHERE WHAT IT READS IS OF BULK AT MOST 1048576: true; the input reads as it did. -/
def frameBackUptoRow : OpenClaim := { program := "ytjfikdldabmciaadoor", sum := "29ce5afdf0d4e97a9c5e4ee31fcbcebf05254cbee9c2cc01eeb3c2723e2fb643", func := "souffleur/souffleurlaw11.FrameBack", spec := "frameBack", unfollowed := true, recurses := true, named := ["souffleur/sum.rests"], apart := false, laid := [("souffleur/sum.rests", laid_souffleur_sum_rests)], narrowed := true }
def FrameBackUptoSaid : Prop := frameBackUptoRow.holds Tryd.pinned (OpenSpec.upto frameBackSpec)

/-- 'souffleurlaw11.FrameTorn', WHERE WHAT IT READS IS OF BULK AT MOST 1048576: true; the input reads as it did. -/
def frameTornUptoRow : OpenClaim := { program := "ytjfikdldabmciaadoor", sum := "29ce5afdf0d4e97a9c5e4ee31fcbcebf05254cbee9c2cc01eeb3c2723e2fb643", func := "souffleur/souffleurlaw11.FrameTorn", spec := "frameTorn", unfollowed := true, recurses := true, named := ["souffleur/sum.rests"], apart := false, laid := [("souffleur/sum.rests", laid_souffleur_sum_rests)], narrowed := true }
def FrameTornUptoSaid : Prop := frameTornUptoRow.holds Tryd.pinned (OpenSpec.upto frameTornSpec)

/-- 'souffleurlaw11.FrameLengths', WHERE WHAT IT READS IS OF BULK AT MOST 1048576: true; the input reads as it did. -/
def frameLengthsUptoRow : OpenClaim := { program := "ytjfikdldabmciaadoor", sum := "29ce5afdf0d4e97a9c5e4ee31fcbcebf05254cbee9c2cc01eeb3c2723e2fb643", func := "souffleur/souffleurlaw11.FrameLengths", spec := "frameLengths", unfollowed := true, recurses := true, named := ["souffleur/sum.rests"], apart := false, laid := [("souffleur/sum.rests", laid_souffleur_sum_rests)], narrowed := true }
def FrameLengthsUptoSaid : Prop := frameLengthsUptoRow.holds Tryd.pinned (OpenSpec.upto frameLengthsSpec)

end Rows
end Go.Proofs.YtjfikdldabmciaaDoor
