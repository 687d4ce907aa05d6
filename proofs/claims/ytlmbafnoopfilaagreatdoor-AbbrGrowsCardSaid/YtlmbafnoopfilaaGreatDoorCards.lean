/-
  DERIVED. GIVEN WITH THE SEED: THE CARDS: each row of YtlmbafnoopfilaaGreatDoorRows.lean that lists a variable, with what it lists TIED to the program's text (the seventh form; the later family's looks); each row that meets fmt, with fmt's text TOLD by the authors' own Lean function (tested against real Go, not proved from fmt's source: count such statements apart). THE CARD IS WHAT COUNTS. Prove the row's statement (the work); the ties are given (YtlmbafnoopfilaaGreatDoorTie.lean); close each card by the builder's one call (the guide's Derived/Test/ToyasCard.lean, 'card_holds'). Laid BY PROGRAM, IN A SANDBOX (cutbox-door.mjs). By AI agents, Wed Nov 11 2026. No macro, syntax, notation, axiom, sorry.
-/
import Derived.Test.YtlmbafnoopfilaaGreatDoorRows
import GoSem.ClaimSeven
namespace Go.Proofs.YtlmbafnoopfilaaGreatDoor
namespace Rows

/-- THE TIED CARD OF 'souffleurlaw08.AbbrGrows'. -/
def abbrGrowsCard : Claim7 := { stood := { row := abbrGrowsRow, standIns := [], harness := (true, "a0ceefa3fa840fd3acf08b7eb82b39c9b835b24ccf9802bf6d2f205eb8732868"), looks := false }, kinds := [], alts := [], laidByText := true, laidKinds := [.data, .data, .pinned], laidTests := true, laidLooks := .later }
def AbbrGrowsCardSaid : Prop := Claim7.holds Tryz.pinned (.plain (OpenSpec.ofChange abbrGrowsSpec)) abbrGrowsCard

/-- THE SECOND FORM's CARD OF 'souffleurlaw08.AbbrGrows'. -/
def abbrGrowsUptoCard : Claim7 := { stood := { row := abbrGrowsUptoRow, standIns := [], harness := (true, "a0ceefa3fa840fd3acf08b7eb82b39c9b835b24ccf9802bf6d2f205eb8732868"), looks := false }, kinds := [], alts := [], laidByText := true, laidKinds := [.data, .data, .pinned], laidTests := true, laidLooks := .later }
def AbbrGrowsUptoCardSaid : Prop := Claim7.holds Tryz.pinned (.plain (OpenSpec.upto abbrGrowsSpec)) abbrGrowsUptoCard
end Rows
end Go.Proofs.YtlmbafnoopfilaaGreatDoor
