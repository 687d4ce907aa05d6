/-
  No cell of these rows narrows 'for every input' (looked for: loops, veiled, ifaces, maps, wideKeys, modest, calm, conditions, laid).
  DERIVED. THE GIVEN ROWS OF THIS SEAT. 7 by the template 'for every input the law returns true; each argument reads behind the call as it read before'; 0 by the template 'total and deterministic' (their statements: YtaeiffpdnlejbaaTotals.lean).
  GIVEN WITH THE SEED: the statements are not yours to turn. If you find one false, say at which input.
  Laid BY PROGRAM, IN A SANDBOX (cutbox-rows.mjs): the forced cells as the released guide's own fill.sh prints them over the translation 81c4944aeb6cf731… (all of the seat's roots in one cut). By AI agents, Wed Nov 11 2026. No macro, syntax, notation, axiom, sorry.
-/
import Derived.Test.YtaeiffpdnlejbaaChecked
import GoSem.Claim
import GoSem.ClaimJoined
import GoSem.ClaimMapViews
import Derived.JoinedTies
import Derived.KernelRfl
namespace Go.Proofs.Ytaeiffpdnlejbaa
/- THE CELL 'sum', in the pinned program and in every row, IS THE sha256 OF THE DUMP (.gsa) THAT YtaeiffpdnlejbaaProg.lean LOADS. Nothing in Lean hashes anything: it is a label: what it is worth is what the hold of that sum in a sandbox is worth. -/
noncomputable def Try.pinned : Pinned := { name := "ytaeiffpdnlejbaa", sum := "81c4944aeb6cf7312f0ba93c4f5b9193e91d016fefabb4b8779408fe06508754", checked := Try.checked }
namespace Rows
def none {H : Type} : Left H := { results := [], args := [] }

/-- 'souffleurlaw10.FileAll': WHATEVER THE INPUT: true; the input reads as it did. -/
def fileAllSpec : ChangeSpec := { name := "fileAll", fn := fun _ => fun
  | [d] => { results := [.lit (.bool true)], args := [d] }
  | _ => none }
def fileAllRow : OpenClaim := { program := "ytaeiffpdnlejbaa", sum := "81c4944aeb6cf7312f0ba93c4f5b9193e91d016fefabb4b8779408fe06508754", func := "souffleur/souffleurlaw10.FileAll", spec := "fileAll", unfollowed := true, recurses := true, apart := false }
def FileAllSaid : Prop := fileAllRow.holds Try.pinned (OpenSpec.ofChange fileAllSpec)

/-- ITS FALSE NEIGHBOUR: 'it returns false'. Refute it at one input. -/
def fileAllWrong : ChangeSpec := { name := "fileAll", fn := fun _ => fun
  | [d] => { results := [.lit (.bool false)], args := [d] }
  | _ => none }
def FileAllWrongFalsely : Prop := fileAllRow.holds Try.pinned (OpenSpec.ofChange fileAllWrong)

/-- 'souffleurlaw10.FileSynced': WHATEVER THE INPUT: true; the input reads as it did. -/
def fileSyncedSpec : ChangeSpec := { name := "fileSynced", fn := fun _ => fun
  | [d1, d2] => { results := [.lit (.bool true)], args := [d1, d2] }
  | _ => none }
def fileSyncedRow : OpenClaim := { program := "ytaeiffpdnlejbaa", sum := "81c4944aeb6cf7312f0ba93c4f5b9193e91d016fefabb4b8779408fe06508754", func := "souffleur/souffleurlaw10.FileSynced", spec := "fileSynced", unfollowed := true, recurses := true, apart := false }
def FileSyncedSaid : Prop := fileSyncedRow.holds Try.pinned (OpenSpec.ofChange fileSyncedSpec)

/-- ITS FALSE NEIGHBOUR: 'it returns false'. Refute it at one input. -/
def fileSyncedWrong : ChangeSpec := { name := "fileSynced", fn := fun _ => fun
  | [d1, d2] => { results := [.lit (.bool false)], args := [d1, d2] }
  | _ => none }
def FileSyncedWrongFalsely : Prop := fileSyncedRow.holds Try.pinned (OpenSpec.ofChange fileSyncedWrong)

/-- 'souffleurlaw10.FileKeeps': WHATEVER THE INPUT: true; the input reads as it did. -/
def fileKeepsSpec : ChangeSpec := { name := "fileKeeps", fn := fun _ => fun
  | [d] => { results := [.lit (.bool true)], args := [d] }
  | _ => none }
def fileKeepsRow : OpenClaim := { program := "ytaeiffpdnlejbaa", sum := "81c4944aeb6cf7312f0ba93c4f5b9193e91d016fefabb4b8779408fe06508754", func := "souffleur/souffleurlaw10.FileKeeps", spec := "fileKeeps", unfollowed := true, recurses := true, apart := false }
def FileKeepsSaid : Prop := fileKeepsRow.holds Try.pinned (OpenSpec.ofChange fileKeepsSpec)

/-- ITS FALSE NEIGHBOUR: 'it returns false'. Refute it at one input. -/
def fileKeepsWrong : ChangeSpec := { name := "fileKeeps", fn := fun _ => fun
  | [d] => { results := [.lit (.bool false)], args := [d] }
  | _ => none }
def FileKeepsWrongFalsely : Prop := fileKeepsRow.holds Try.pinned (OpenSpec.ofChange fileKeepsWrong)

/-- 'souffleurlaw10.FileHoles': WHATEVER THE INPUT: true; the input reads as it did. -/
def fileHolesSpec : ChangeSpec := { name := "fileHoles", fn := fun _ => fun
  | [d1, d2] => { results := [.lit (.bool true)], args := [d1, d2] }
  | _ => none }
def fileHolesRow : OpenClaim := { program := "ytaeiffpdnlejbaa", sum := "81c4944aeb6cf7312f0ba93c4f5b9193e91d016fefabb4b8779408fe06508754", func := "souffleur/souffleurlaw10.FileHoles", spec := "fileHoles", unfollowed := true, recurses := true, apart := false }
def FileHolesSaid : Prop := fileHolesRow.holds Try.pinned (OpenSpec.ofChange fileHolesSpec)

/-- ITS FALSE NEIGHBOUR: 'it returns false'. Refute it at one input. -/
def fileHolesWrong : ChangeSpec := { name := "fileHoles", fn := fun _ => fun
  | [d1, d2] => { results := [.lit (.bool false)], args := [d1, d2] }
  | _ => none }
def FileHolesWrongFalsely : Prop := fileHolesRow.holds Try.pinned (OpenSpec.ofChange fileHolesWrong)

/-- 'souffleurlaw10.FileDown': WHATEVER THE INPUT: true; the input reads as it did. -/
def fileDownSpec : ChangeSpec := { name := "fileDown", fn := fun _ => fun
  | [d1, d2] => { results := [.lit (.bool true)], args := [d1, d2] }
  | _ => none }
def fileDownRow : OpenClaim := { program := "ytaeiffpdnlejbaa", sum := "81c4944aeb6cf7312f0ba93c4f5b9193e91d016fefabb4b8779408fe06508754", func := "souffleur/souffleurlaw10.FileDown", spec := "fileDown", unfollowed := true, recurses := true, apart := false }
def FileDownSaid : Prop := fileDownRow.holds Try.pinned (OpenSpec.ofChange fileDownSpec)

/-- ITS FALSE NEIGHBOUR: 'it returns false'. Refute it at one input. -/
def fileDownWrong : ChangeSpec := { name := "fileDown", fn := fun _ => fun
  | [d1, d2] => { results := [.lit (.bool false)], args := [d1, d2] }
  | _ => none }
def FileDownWrongFalsely : Prop := fileDownRow.holds Try.pinned (OpenSpec.ofChange fileDownWrong)

/-- 'souffleurlaw10.FileFaults': WHATEVER THE INPUT: true; the input reads as it did. -/
def fileFaultsSpec : ChangeSpec := { name := "fileFaults", fn := fun _ => fun
  | [d1, d2, d3] => { results := [.lit (.bool true)], args := [d1, d2, d3] }
  | _ => none }
def fileFaultsRow : OpenClaim := { program := "ytaeiffpdnlejbaa", sum := "81c4944aeb6cf7312f0ba93c4f5b9193e91d016fefabb4b8779408fe06508754", func := "souffleur/souffleurlaw10.FileFaults", spec := "fileFaults", unfollowed := true, recurses := true, apart := false }
def FileFaultsSaid : Prop := fileFaultsRow.holds Try.pinned (OpenSpec.ofChange fileFaultsSpec)

/-- ITS FALSE NEIGHBOUR: 'it returns false'. Refute it at one input. -/
def fileFaultsWrong : ChangeSpec := { name := "fileFaults", fn := fun _ => fun
  | [d1, d2, d3] => { results := [.lit (.bool false)], args := [d1, d2, d3] }
  | _ => none }
def FileFaultsWrongFalsely : Prop := fileFaultsRow.holds Try.pinned (OpenSpec.ofChange fileFaultsWrong)

/-- 'souffleurlaw10.FileOwn': WHATEVER THE INPUT: true; the input reads as it did. -/
def fileOwnSpec : ChangeSpec := { name := "fileOwn", fn := fun _ => fun
  | [d1, d2] => { results := [.lit (.bool true)], args := [d1, d2] }
  | _ => none }
def fileOwnRow : OpenClaim := { program := "ytaeiffpdnlejbaa", sum := "81c4944aeb6cf7312f0ba93c4f5b9193e91d016fefabb4b8779408fe06508754", func := "souffleur/souffleurlaw10.FileOwn", spec := "fileOwn", unfollowed := true, recurses := true, apart := false }
def FileOwnSaid : Prop := fileOwnRow.holds Try.pinned (OpenSpec.ofChange fileOwnSpec)

/-- ITS FALSE NEIGHBOUR: 'it returns false'. Refute it at one input. -/
def fileOwnWrong : ChangeSpec := { name := "fileOwn", fn := fun _ => fun
  | [d1, d2] => { results := [.lit (.bool false)], args := [d1, d2] }
  | _ => none }
def FileOwnWrongFalsely : Prop := fileOwnRow.holds Try.pinned (OpenSpec.ofChange fileOwnWrong)

/- THE SECOND FORM. 'bulk': how many values and letters a reading holds, each counted each time it is reached (what is shared counts as often as it is met; a slice's spare places count too). A statement '..UptoSaid' is the law's where the arguments, and the package variables that the reading takes, are together of bulk at most 1048576: NARROWER than '..Said'. Prove '..Said' where nothing that the law and all that it calls make is longer than what came in: it says more and counts as full. Else prove '..UptoSaid'. A law counts once. -/
mutual
def uptoBulk {H : Type} : DataW H → Nat
  | .lit (.string bytes) => bytes.length + 1
  | .lit _ => 1
  | .nil => 1
  | .ptr d => uptoBulk d + 1
  | .slice elems spare => uptoBulkAll elems + uptoBulkAll spare + 1
  | .agg parts => uptoBulkAll parts + 1
  | .iface _ d => uptoBulk d + 1
  | .map entries => uptoBulkEntries entries + 1
  | .held _ => 1
def uptoBulkAll {H : Type} : List (DataW H) → Nat
  | [] => 0
  | d :: r => uptoBulk d + uptoBulkAll r
def uptoBulkEntries {H : Type} : List (Lit × DataW H) → Nat
  | [] => 0
  | x :: r => uptoBulkEntry x + uptoBulkEntries r
def uptoBulkEntry {H : Type} : Lit × DataW H → Nat
  | (.string bytes, d) => bytes.length + uptoBulk d + 1
  | (_, d) => uptoBulk d + 1
 end
def uptoSmall : (H : Type) → List (DataW H) → Bool := fun _ ds => decide (uptoBulkAll ds ≤ 1048576)
def OpenSpec.upto (s : _root_.Go.ChangeSpec) : _root_.Go.OpenSpec := { _root_.Go.OpenSpec.ofChange s with cond := some uptoSmall }

/-- 'souffleurlaw10.FileAll', WHERE WHAT IT READS IS OF BULK AT MOST 1048576: true; the input reads as it did. -/
def fileAllUptoRow : OpenClaim := { program := "ytaeiffpdnlejbaa", sum := "81c4944aeb6cf7312f0ba93c4f5b9193e91d016fefabb4b8779408fe06508754", func := "souffleur/souffleurlaw10.FileAll", spec := "fileAll", unfollowed := true, recurses := true, apart := false, narrowed := true }
def FileAllUptoSaid : Prop := fileAllUptoRow.holds Try.pinned (OpenSpec.upto fileAllSpec)

/-- 'souffleurlaw10.FileSynced', WHERE WHAT IT READS IS OF BULK AT MOST 1048576: true; the input reads as it did. -/
def fileSyncedUptoRow : OpenClaim := { program := "ytaeiffpdnlejbaa", sum := "81c4944aeb6cf7312f0ba93c4f5b9193e91d016fefabb4b8779408fe06508754", func := "souffleur/souffleurlaw10.FileSynced", spec := "fileSynced", unfollowed := true, recurses := true, apart := false, narrowed := true }
def FileSyncedUptoSaid : Prop := fileSyncedUptoRow.holds Try.pinned (OpenSpec.upto fileSyncedSpec)

/-- 'souffleurlaw10.FileKeeps', WHERE WHAT IT READS IS OF BULK AT MOST 1048576: true; the input reads as it did. -/
def fileKeepsUptoRow : OpenClaim := { program := "ytaeiffpdnlejbaa", sum := "81c4944aeb6cf7312f0ba93c4f5b9193e91d016fefabb4b8779408fe06508754", func := "souffleur/souffleurlaw10.FileKeeps", spec := "fileKeeps", unfollowed := true, recurses := true, apart := false, narrowed := true }
def FileKeepsUptoSaid : Prop := fileKeepsUptoRow.holds Try.pinned (OpenSpec.upto fileKeepsSpec)

/-- 'souffleurlaw10.FileHoles', WHERE WHAT IT READS IS OF BULK AT MOST 1048576: true; the input reads as it did. -/
def fileHolesUptoRow : OpenClaim := { program := "ytaeiffpdnlejbaa", sum := "81c4944aeb6cf7312f0ba93c4f5b9193e91d016fefabb4b8779408fe06508754", func := "souffleur/souffleurlaw10.FileHoles", spec := "fileHoles", unfollowed := true, recurses := true, apart := false, narrowed := true }
def FileHolesUptoSaid : Prop := fileHolesUptoRow.holds Try.pinned (OpenSpec.upto fileHolesSpec)

/-- 'souffleurlaw10.FileDown', WHERE WHAT IT READS IS OF BULK AT MOST 1048576: true; the input reads as it did. -/
def fileDownUptoRow : OpenClaim := { program := "ytaeiffpdnlejbaa", sum := "81c4944aeb6cf7312f0ba93c4f5b9193e91d016fefabb4b8779408fe06508754", func := "souffleur/souffleurlaw10.FileDown", spec := "fileDown", unfollowed := true, recurses := true, apart := false, narrowed := true }
def FileDownUptoSaid : Prop := fileDownUptoRow.holds Try.pinned (OpenSpec.upto fileDownSpec)

/-- 'souffleurlaw10.FileFaults', WHERE WHAT IT READS IS OF BULK AT MOST 1048576: true; the input reads as it did. -/
def fileFaultsUptoRow : OpenClaim := { program := "ytaeiffpdnlejbaa", sum := "81c4944aeb6cf7312f0ba93c4f5b9193e91d016fefabb4b8779408fe06508754", func := "souffleur/souffleurlaw10.FileFaults", spec := "fileFaults", unfollowed := true, recurses := true, apart := false, narrowed := true }
def FileFaultsUptoSaid : Prop := fileFaultsUptoRow.holds Try.pinned (OpenSpec.upto fileFaultsSpec)

/-- 'souffleurlaw10.FileOwn', WHERE WHAT IT READS IS OF BULK AT MOST 1048576: true; the input reads as it did. -/
def fileOwnUptoRow : OpenClaim := { program := "ytaeiffpdnlejbaa", sum := "81c4944aeb6cf7312f0ba93c4f5b9193e91d016fefabb4b8779408fe06508754", func := "souffleur/souffleurlaw10.FileOwn", spec := "fileOwn", unfollowed := true, recurses := true, apart := false, narrowed := true }
def FileOwnUptoSaid : Prop := fileOwnUptoRow.holds Try.pinned (OpenSpec.upto fileOwnSpec)

end Rows
end Go.Proofs.Ytaeiffpdnlejbaa
