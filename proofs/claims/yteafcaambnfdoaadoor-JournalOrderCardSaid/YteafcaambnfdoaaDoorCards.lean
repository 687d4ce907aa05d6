/-
  DERIVED. GIVEN WITH THE SEED: THE CARDS: each row of YteafcaambnfdoaaDoorRows.lean that lists a variable, with what it lists TIED to the program's text (the seventh form; the later family's looks); each row that meets fmt, with fmt's text TOLD by the authors' own Lean function (tested against real Go, not proved from fmt's source: count such statements apart). THE CARD IS WHAT COUNTS. Prove the row's statement (the work); the ties are given (YteafcaambnfdoaaDoorTie.lean); close each card by the builder's one call (the guide's Derived/Test/ToyasCard.lean, 'card_holds'). Laid BY PROGRAM, IN A SANDBOX (cutbox-door.mjs). By AI agents, Wed Nov 11 2026. No macro, syntax, notation, axiom, sorry.
-/
import Derived.Test.YteafcaambnfdoaaDoorRows
import GoSem.ClaimSeven
namespace Go.Proofs.YteafcaambnfdoaaDoor
namespace Rows

/-- THE TIED CARD OF 'souffleurlaw12.JournalPacks'. -/
def journalPacksCard : Claim7 := { stood := { row := journalPacksRow, standIns := [], harness := (true, "6049cfd7376e46ed4495b0da35cdf2e5a4e42c081114843713b853d7b2deba31"), looks := false }, kinds := [], alts := [], laidByText := true, laidKinds := [.data], laidTests := true, laidLooks := .later }
def JournalPacksCardSaid : Prop := Claim7.holds Tryd.pinned (.plain (OpenSpec.ofChange journalPacksSpec)) journalPacksCard

/-- THE TIED CARD OF 'souffleurlaw12.JournalUnpacks'. -/
def journalUnpacksCard : Claim7 := { stood := { row := journalUnpacksRow, standIns := [], harness := (true, "6049cfd7376e46ed4495b0da35cdf2e5a4e42c081114843713b853d7b2deba31"), looks := false }, kinds := [], alts := [], laidByText := true, laidKinds := [.data], laidTests := true, laidLooks := .later }
def JournalUnpacksCardSaid : Prop := Claim7.holds Tryd.pinned (.plain (OpenSpec.ofChange journalUnpacksSpec)) journalUnpacksCard

/-- THE TIED CARD OF 'souffleurlaw12.JournalOrder'. -/
def journalOrderCard : Claim7 := { stood := { row := journalOrderRow, standIns := [], harness := (true, "6049cfd7376e46ed4495b0da35cdf2e5a4e42c081114843713b853d7b2deba31"), looks := false }, kinds := [], alts := [], laidByText := true, laidKinds := [.data], laidTests := true, laidLooks := .later }
def JournalOrderCardSaid : Prop := Claim7.holds Tryd.pinned (.plain (OpenSpec.ofChange journalOrderSpec)) journalOrderCard

/-- THE SECOND FORM's CARD OF 'souffleurlaw12.JournalPacks'. -/
def journalPacksUptoCard : Claim7 := { stood := { row := journalPacksUptoRow, standIns := [], harness := (true, "6049cfd7376e46ed4495b0da35cdf2e5a4e42c081114843713b853d7b2deba31"), looks := false }, kinds := [], alts := [], laidByText := true, laidKinds := [.data], laidTests := true, laidLooks := .later }
def JournalPacksUptoCardSaid : Prop := Claim7.holds Tryd.pinned (.plain (OpenSpec.upto journalPacksSpec)) journalPacksUptoCard

/-- THE SECOND FORM's CARD OF 'souffleurlaw12.JournalUnpacks'. -/
def journalUnpacksUptoCard : Claim7 := { stood := { row := journalUnpacksUptoRow, standIns := [], harness := (true, "6049cfd7376e46ed4495b0da35cdf2e5a4e42c081114843713b853d7b2deba31"), looks := false }, kinds := [], alts := [], laidByText := true, laidKinds := [.data], laidTests := true, laidLooks := .later }
def JournalUnpacksUptoCardSaid : Prop := Claim7.holds Tryd.pinned (.plain (OpenSpec.upto journalUnpacksSpec)) journalUnpacksUptoCard

/-- THE SECOND FORM's CARD OF 'souffleurlaw12.JournalOrder'. -/
def journalOrderUptoCard : Claim7 := { stood := { row := journalOrderUptoRow, standIns := [], harness := (true, "6049cfd7376e46ed4495b0da35cdf2e5a4e42c081114843713b853d7b2deba31"), looks := false }, kinds := [], alts := [], laidByText := true, laidKinds := [.data], laidTests := true, laidLooks := .later }
def JournalOrderUptoCardSaid : Prop := Claim7.holds Tryd.pinned (.plain (OpenSpec.upto journalOrderSpec)) journalOrderUptoCard
end Rows
end Go.Proofs.YteafcaambnfdoaaDoor
