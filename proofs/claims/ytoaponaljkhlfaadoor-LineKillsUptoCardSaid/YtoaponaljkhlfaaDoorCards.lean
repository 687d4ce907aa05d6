/-
  DERIVED. GIVEN WITH THE SEED: THE CARDS: each row of YtoaponaljkhlfaaDoorRows.lean that lists a variable, with what it lists TIED to the program's text (the seventh form; the later family's looks); each row that meets fmt, with fmt's text TOLD by the authors' own Lean function (tested against real Go, not proved from fmt's source: count such statements apart). THE CARD IS WHAT COUNTS. Prove the row's statement (the work); the ties are given (YtoaponaljkhlfaaDoorTie.lean); close each card by the builder's one call (the guide's Derived/Test/ToyasCard.lean, 'card_holds'). Laid BY PROGRAM, IN A SANDBOX (cutbox-door.mjs). By AI agents, Wed Nov 11 2026. No macro, syntax, notation, axiom, sorry.
-/
import Derived.Test.YtoaponaljkhlfaaDoorRows
import GoSem.ClaimSeven
namespace Go.Proofs.YtoaponaljkhlfaaDoor
namespace Rows

/-- THE TIED CARD OF 'souffleurlaw07.LineKills'. -/
def lineKillsCard : Claim7 := { stood := { row := lineKillsRow, standIns := [], harness := (true, "8c03c09297384bea89ef9c3b02d158426e2e8207a8600ce9519c3a6a9d6df497"), looks := false }, kinds := [], alts := [], laidByText := true, laidKinds := [.data], laidTests := true, laidLooks := .later }
def LineKillsCardSaid : Prop := Claim7.holds Tryd.pinned (.plain (OpenSpec.ofChange lineKillsSpec)) lineKillsCard

/-- THE TIED CARD OF 'souffleurlaw07.LinePops'. -/
def linePopsCard : Claim7 := { stood := { row := linePopsRow, standIns := [], harness := (true, "8c03c09297384bea89ef9c3b02d158426e2e8207a8600ce9519c3a6a9d6df497"), looks := false }, kinds := [], alts := [], laidByText := true, laidKinds := [.data], laidTests := true, laidLooks := .later }
def LinePopsCardSaid : Prop := Claim7.holds Tryd.pinned (.plain (OpenSpec.ofChange linePopsSpec)) linePopsCard

/-- THE TIED CARD OF 'souffleurlaw07.LineGroups'. -/
def lineGroupsCard : Claim7 := { stood := { row := lineGroupsRow, standIns := [], harness := (true, "8c03c09297384bea89ef9c3b02d158426e2e8207a8600ce9519c3a6a9d6df497"), looks := false }, kinds := [], alts := [], laidByText := true, laidKinds := [.data], laidTests := true, laidLooks := .later }
def LineGroupsCardSaid : Prop := Claim7.holds Tryd.pinned (.plain (OpenSpec.ofChange lineGroupsSpec)) lineGroupsCard

/-- THE SECOND FORM's CARD OF 'souffleurlaw07.LineKills'. -/
def lineKillsUptoCard : Claim7 := { stood := { row := lineKillsUptoRow, standIns := [], harness := (true, "8c03c09297384bea89ef9c3b02d158426e2e8207a8600ce9519c3a6a9d6df497"), looks := false }, kinds := [], alts := [], laidByText := true, laidKinds := [.data], laidTests := true, laidLooks := .later }
def LineKillsUptoCardSaid : Prop := Claim7.holds Tryd.pinned (.plain (OpenSpec.upto lineKillsSpec)) lineKillsUptoCard

/-- THE SECOND FORM's CARD OF 'souffleurlaw07.LinePops'. -/
def linePopsUptoCard : Claim7 := { stood := { row := linePopsUptoRow, standIns := [], harness := (true, "8c03c09297384bea89ef9c3b02d158426e2e8207a8600ce9519c3a6a9d6df497"), looks := false }, kinds := [], alts := [], laidByText := true, laidKinds := [.data], laidTests := true, laidLooks := .later }
def LinePopsUptoCardSaid : Prop := Claim7.holds Tryd.pinned (.plain (OpenSpec.upto linePopsSpec)) linePopsUptoCard

/-- THE SECOND FORM's CARD OF 'souffleurlaw07.LineGroups'. -/
def lineGroupsUptoCard : Claim7 := { stood := { row := lineGroupsUptoRow, standIns := [], harness := (true, "8c03c09297384bea89ef9c3b02d158426e2e8207a8600ce9519c3a6a9d6df497"), looks := false }, kinds := [], alts := [], laidByText := true, laidKinds := [.data], laidTests := true, laidLooks := .later }
def LineGroupsUptoCardSaid : Prop := Claim7.holds Tryd.pinned (.plain (OpenSpec.upto lineGroupsSpec)) lineGroupsUptoCard
end Rows
end Go.Proofs.YtoaponaljkhlfaaDoor
