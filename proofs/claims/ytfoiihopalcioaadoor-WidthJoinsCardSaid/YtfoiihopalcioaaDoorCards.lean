/-
  DERIVED. GIVEN WITH THE SEED: THE CARDS: each row of YtfoiihopalcioaaDoorRows.lean that lists a variable, with what it lists TIED to the program's text (the seventh form; the later family's looks); each row that meets fmt, with fmt's text TOLD by the authors' own Lean function (tested against real Go, not proved from fmt's source: count such statements apart). THE CARD IS WHAT COUNTS. Prove the row's statement (the work); the ties are given (YtfoiihopalcioaaDoorTie.lean); close each card by the builder's one call (the guide's Derived/Test/ToyasCard.lean, 'card_holds'). Laid BY PROGRAM, IN A SANDBOX (cutbox-door.mjs). By AI agents, Wed Nov 11 2026. No macro, syntax, notation, axiom, sorry.
-/
import Derived.Test.YtfoiihopalcioaaDoorRows
import GoSem.ClaimSeven
namespace Go.Proofs.YtfoiihopalcioaaDoor
namespace Rows

/-- THE TIED CARD OF 'souffleurlaw02.WidthSigns'. -/
def widthSignsCard : Claim7 := { stood := { row := widthSignsRow, standIns := [], harness := (true, "de14cffed2e6b62d663f2a7515e5eed115e4c7eb0dd260a0be6f9f6dbd3ea040"), looks := false }, kinds := [], alts := [], laidByText := true, laidKinds := [.data], laidTests := true, laidLooks := .later }
def WidthSignsCardSaid : Prop := Claim7.holds Tryd.pinned (.plain (OpenSpec.ofChange widthSignsSpec)) widthSignsCard

/-- THE TIED CARD OF 'souffleurlaw02.WidthCuts'. -/
def widthCutsCard : Claim7 := { stood := { row := widthCutsRow, standIns := [], harness := (true, "de14cffed2e6b62d663f2a7515e5eed115e4c7eb0dd260a0be6f9f6dbd3ea040"), looks := false }, kinds := [], alts := [], laidByText := true, laidKinds := [.data], laidTests := true, laidLooks := .later }
def WidthCutsCardSaid : Prop := Claim7.holds Tryd.pinned (.plain (OpenSpec.ofChange widthCutsSpec)) widthCutsCard

/-- THE TIED CARD OF 'souffleurlaw02.WidthShows'. -/
def widthShowsCard : Claim7 := { stood := { row := widthShowsRow, standIns := [], harness := (true, "de14cffed2e6b62d663f2a7515e5eed115e4c7eb0dd260a0be6f9f6dbd3ea040"), looks := false }, kinds := [], alts := [], laidByText := true, laidKinds := [.data], laidTests := true, laidLooks := .later }
def WidthShowsCardSaid : Prop := Claim7.holds Tryd.pinned (.plain (OpenSpec.ofChange widthShowsSpec)) widthShowsCard

/-- THE TIED CARD OF 'souffleurlaw02.WidthEach'. -/
def widthEachCard : Claim7 := { stood := { row := widthEachRow, standIns := [], harness := (true, "de14cffed2e6b62d663f2a7515e5eed115e4c7eb0dd260a0be6f9f6dbd3ea040"), looks := false }, kinds := [], alts := [], laidByText := true, laidKinds := [.data], laidTests := true, laidLooks := .later }
def WidthEachCardSaid : Prop := Claim7.holds Tryd.pinned (.plain (OpenSpec.ofChange widthEachSpec)) widthEachCard

/-- THE TIED CARD OF 'souffleurlaw02.WidthJoins'. -/
def widthJoinsCard : Claim7 := { stood := { row := widthJoinsRow, standIns := [], harness := (true, "de14cffed2e6b62d663f2a7515e5eed115e4c7eb0dd260a0be6f9f6dbd3ea040"), looks := false }, kinds := [], alts := [], laidByText := true, laidKinds := [.data], laidTests := true, laidLooks := .later }
def WidthJoinsCardSaid : Prop := Claim7.holds Tryd.pinned (.plain (OpenSpec.ofChange widthJoinsSpec)) widthJoinsCard

/-- THE TIED CARD OF 'souffleurlaw02.WidthAgain'. -/
def widthAgainCard : Claim7 := { stood := { row := widthAgainRow, standIns := [], harness := (true, "de14cffed2e6b62d663f2a7515e5eed115e4c7eb0dd260a0be6f9f6dbd3ea040"), looks := false }, kinds := [], alts := [], laidByText := true, laidKinds := [.data], laidTests := true, laidLooks := .later }
def WidthAgainCardSaid : Prop := Claim7.holds Tryd.pinned (.plain (OpenSpec.ofChange widthAgainSpec)) widthAgainCard

/-- THE TIED CARD OF 'souffleurlaw02.WidthSums'. -/
def widthSumsCard : Claim7 := { stood := { row := widthSumsRow, standIns := [], harness := (true, "de14cffed2e6b62d663f2a7515e5eed115e4c7eb0dd260a0be6f9f6dbd3ea040"), looks := false }, kinds := [], alts := [], laidByText := true, laidKinds := [.data], laidTests := true, laidLooks := .later }
def WidthSumsCardSaid : Prop := Claim7.holds Tryd.pinned (.plain (OpenSpec.ofChange widthSumsSpec)) widthSumsCard

/-- THE SECOND FORM's CARD OF 'souffleurlaw02.WidthSigns'. -/
def widthSignsUptoCard : Claim7 := { stood := { row := widthSignsUptoRow, standIns := [], harness := (true, "de14cffed2e6b62d663f2a7515e5eed115e4c7eb0dd260a0be6f9f6dbd3ea040"), looks := false }, kinds := [], alts := [], laidByText := true, laidKinds := [.data], laidTests := true, laidLooks := .later }
def WidthSignsUptoCardSaid : Prop := Claim7.holds Tryd.pinned (.plain (OpenSpec.upto widthSignsSpec)) widthSignsUptoCard

/-- THE SECOND FORM's CARD OF 'souffleurlaw02.WidthCuts'. -/
def widthCutsUptoCard : Claim7 := { stood := { row := widthCutsUptoRow, standIns := [], harness := (true, "de14cffed2e6b62d663f2a7515e5eed115e4c7eb0dd260a0be6f9f6dbd3ea040"), looks := false }, kinds := [], alts := [], laidByText := true, laidKinds := [.data], laidTests := true, laidLooks := .later }
def WidthCutsUptoCardSaid : Prop := Claim7.holds Tryd.pinned (.plain (OpenSpec.upto widthCutsSpec)) widthCutsUptoCard

/-- THE SECOND FORM's CARD OF 'souffleurlaw02.WidthShows'. -/
def widthShowsUptoCard : Claim7 := { stood := { row := widthShowsUptoRow, standIns := [], harness := (true, "de14cffed2e6b62d663f2a7515e5eed115e4c7eb0dd260a0be6f9f6dbd3ea040"), looks := false }, kinds := [], alts := [], laidByText := true, laidKinds := [.data], laidTests := true, laidLooks := .later }
def WidthShowsUptoCardSaid : Prop := Claim7.holds Tryd.pinned (.plain (OpenSpec.upto widthShowsSpec)) widthShowsUptoCard

/-- THE SECOND FORM's CARD OF 'souffleurlaw02.WidthEach'. -/
def widthEachUptoCard : Claim7 := { stood := { row := widthEachUptoRow, standIns := [], harness := (true, "de14cffed2e6b62d663f2a7515e5eed115e4c7eb0dd260a0be6f9f6dbd3ea040"), looks := false }, kinds := [], alts := [], laidByText := true, laidKinds := [.data], laidTests := true, laidLooks := .later }
def WidthEachUptoCardSaid : Prop := Claim7.holds Tryd.pinned (.plain (OpenSpec.upto widthEachSpec)) widthEachUptoCard

/-- THE SECOND FORM's CARD OF 'souffleurlaw02.WidthJoins'. -/
def widthJoinsUptoCard : Claim7 := { stood := { row := widthJoinsUptoRow, standIns := [], harness := (true, "de14cffed2e6b62d663f2a7515e5eed115e4c7eb0dd260a0be6f9f6dbd3ea040"), looks := false }, kinds := [], alts := [], laidByText := true, laidKinds := [.data], laidTests := true, laidLooks := .later }
def WidthJoinsUptoCardSaid : Prop := Claim7.holds Tryd.pinned (.plain (OpenSpec.upto widthJoinsSpec)) widthJoinsUptoCard

/-- THE SECOND FORM's CARD OF 'souffleurlaw02.WidthAgain'. -/
def widthAgainUptoCard : Claim7 := { stood := { row := widthAgainUptoRow, standIns := [], harness := (true, "de14cffed2e6b62d663f2a7515e5eed115e4c7eb0dd260a0be6f9f6dbd3ea040"), looks := false }, kinds := [], alts := [], laidByText := true, laidKinds := [.data], laidTests := true, laidLooks := .later }
def WidthAgainUptoCardSaid : Prop := Claim7.holds Tryd.pinned (.plain (OpenSpec.upto widthAgainSpec)) widthAgainUptoCard

/-- THE SECOND FORM's CARD OF 'souffleurlaw02.WidthSums'. -/
def widthSumsUptoCard : Claim7 := { stood := { row := widthSumsUptoRow, standIns := [], harness := (true, "de14cffed2e6b62d663f2a7515e5eed115e4c7eb0dd260a0be6f9f6dbd3ea040"), looks := false }, kinds := [], alts := [], laidByText := true, laidKinds := [.data], laidTests := true, laidLooks := .later }
def WidthSumsUptoCardSaid : Prop := Claim7.holds Tryd.pinned (.plain (OpenSpec.upto widthSumsSpec)) widthSumsUptoCard
end Rows
end Go.Proofs.YtfoiihopalcioaaDoor
