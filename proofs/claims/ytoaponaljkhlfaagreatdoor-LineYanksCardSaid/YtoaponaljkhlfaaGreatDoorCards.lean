/-
  DERIVED. GIVEN WITH THE SEED: THE CARDS: each row of YtoaponaljkhlfaaGreatDoorRows.lean that lists a variable, with what it lists TIED to the program's text (the seventh form; the later family's looks); each row that meets fmt, with fmt's text TOLD by the authors' own Lean function (tested against real Go, not proved from fmt's source: count such statements apart). THE CARD IS WHAT COUNTS. Prove the row's statement (the work); the ties are given (YtoaponaljkhlfaaGreatDoorTie.lean); close each card by the builder's one call (the guide's Derived/Test/ToyasCard.lean, 'card_holds'). Laid BY PROGRAM, IN A SANDBOX (cutbox-door.mjs). By AI agents, Wed Nov 11 2026. No macro, syntax, notation, axiom, sorry.
-/
import Derived.Test.YtoaponaljkhlfaaGreatDoorRows
import GoSem.ClaimSeven
namespace Go.Proofs.YtoaponaljkhlfaaGreatDoor
namespace Rows

/-- THE TIED CARD OF 'souffleurlaw07.LineUndos'. -/
def lineUndosCard : Claim7 := { stood := { row := lineUndosRow, standIns := [], harness := (true, "196926569adc558b02f29b26ddcb8b68e64f6a5c19dc549551239a0d17c24b67"), looks := false }, kinds := [], alts := [], laidByText := true, laidKinds := [.data], laidTests := true, laidLooks := .later }
def LineUndosCardSaid : Prop := Claim7.holds Tryz.pinned (.plain (OpenSpec.ofChange lineUndosSpec)) lineUndosCard

/-- THE TIED CARD OF 'souffleurlaw07.LineYanks'. -/
def lineYanksCard : Claim7 := { stood := { row := lineYanksRow, standIns := [], harness := (true, "196926569adc558b02f29b26ddcb8b68e64f6a5c19dc549551239a0d17c24b67"), looks := false }, kinds := [], alts := [], laidByText := true, laidKinds := [.data], laidTests := true, laidLooks := .later }
def LineYanksCardSaid : Prop := Claim7.holds Tryz.pinned (.plain (OpenSpec.ofChange lineYanksSpec)) lineYanksCard

/-- THE TIED CARD OF 'souffleurlaw07.LineMoves'. -/
def lineMovesCard : Claim7 := { stood := { row := lineMovesRow, standIns := [], harness := (true, "196926569adc558b02f29b26ddcb8b68e64f6a5c19dc549551239a0d17c24b67"), looks := false }, kinds := [], alts := [], laidByText := true, laidKinds := [.data], laidTests := true, laidLooks := .later }
def LineMovesCardSaid : Prop := Claim7.holds Tryz.pinned (.plain (OpenSpec.ofChange lineMovesSpec)) lineMovesCard

/-- THE TIED CARD OF 'souffleurlaw07.LineTypes'. -/
def lineTypesCard : Claim7 := { stood := { row := lineTypesRow, standIns := [], harness := (true, "196926569adc558b02f29b26ddcb8b68e64f6a5c19dc549551239a0d17c24b67"), looks := false }, kinds := [], alts := [], laidByText := true, laidKinds := [.data], laidTests := true, laidLooks := .later }
def LineTypesCardSaid : Prop := Claim7.holds Tryz.pinned (.plain (OpenSpec.ofChange lineTypesSpec)) lineTypesCard

/-- THE SECOND FORM's CARD OF 'souffleurlaw07.LineUndos'. -/
def lineUndosUptoCard : Claim7 := { stood := { row := lineUndosUptoRow, standIns := [], harness := (true, "196926569adc558b02f29b26ddcb8b68e64f6a5c19dc549551239a0d17c24b67"), looks := false }, kinds := [], alts := [], laidByText := true, laidKinds := [.data], laidTests := true, laidLooks := .later }
def LineUndosUptoCardSaid : Prop := Claim7.holds Tryz.pinned (.plain (OpenSpec.upto lineUndosSpec)) lineUndosUptoCard

/-- THE SECOND FORM's CARD OF 'souffleurlaw07.LineYanks'. -/
def lineYanksUptoCard : Claim7 := { stood := { row := lineYanksUptoRow, standIns := [], harness := (true, "196926569adc558b02f29b26ddcb8b68e64f6a5c19dc549551239a0d17c24b67"), looks := false }, kinds := [], alts := [], laidByText := true, laidKinds := [.data], laidTests := true, laidLooks := .later }
def LineYanksUptoCardSaid : Prop := Claim7.holds Tryz.pinned (.plain (OpenSpec.upto lineYanksSpec)) lineYanksUptoCard

/-- THE SECOND FORM's CARD OF 'souffleurlaw07.LineMoves'. -/
def lineMovesUptoCard : Claim7 := { stood := { row := lineMovesUptoRow, standIns := [], harness := (true, "196926569adc558b02f29b26ddcb8b68e64f6a5c19dc549551239a0d17c24b67"), looks := false }, kinds := [], alts := [], laidByText := true, laidKinds := [.data], laidTests := true, laidLooks := .later }
def LineMovesUptoCardSaid : Prop := Claim7.holds Tryz.pinned (.plain (OpenSpec.upto lineMovesSpec)) lineMovesUptoCard

/-- THE SECOND FORM's CARD OF 'souffleurlaw07.LineTypes'. -/
def lineTypesUptoCard : Claim7 := { stood := { row := lineTypesUptoRow, standIns := [], harness := (true, "196926569adc558b02f29b26ddcb8b68e64f6a5c19dc549551239a0d17c24b67"), looks := false }, kinds := [], alts := [], laidByText := true, laidKinds := [.data], laidTests := true, laidLooks := .later }
def LineTypesUptoCardSaid : Prop := Claim7.holds Tryz.pinned (.plain (OpenSpec.upto lineTypesSpec)) lineTypesUptoCard
end Rows
end Go.Proofs.YtoaponaljkhlfaaGreatDoor
