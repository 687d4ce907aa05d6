/-
  DERIVED. GIVEN WITH THE SEED: THE CARDS: each row of YthifdojbbbnpaaaDoorRows.lean that lists a variable, with what it lists TIED to the program's text (the seventh form; the later family's looks); each row that meets fmt, with fmt's text TOLD by the authors' own Lean function (tested against real Go, not proved from fmt's source: count such statements apart). THE CARD IS WHAT COUNTS. Prove the row's statement (the work); the ties are given (YthifdojbbbnpaaaDoorTie.lean); close each card by the builder's one call (the guide's Derived/Test/ToyasCard.lean, 'card_holds'). Laid BY PROGRAM, IN A SANDBOX (cutbox-door.mjs). By AI agents, Wed Nov 11 2026. No macro, syntax, notation, axiom, sorry.
-/
import Derived.Test.YthifdojbbbnpaaaDoorRows
import GoSem.ClaimSeven
namespace Go.Proofs.YthifdojbbbnpaaaDoor
namespace Rows

/-- THE TIED CARD OF 'souffleurlaw08.AbbrAll'. -/
def abbrAllCard : Claim7 := { stood := { row := abbrAllRow, standIns := [], harness := (true, "a755d1463a5aa5bce6303fdd1fc4bd7f7cba42c75edb3f82e23a659076945feb"), looks := false }, kinds := [], alts := [], laidByText := true, laidKinds := [.data, .data, .pinned], laidTests := true, laidLooks := .later }
def AbbrAllCardSaid : Prop := Claim7.holds Tryd.pinned (.plain (OpenSpec.ofChange abbrAllSpec)) abbrAllCard

/-- THE TIED CARD OF 'souffleurlaw08.AbbrKeeps'. -/
def abbrKeepsCard : Claim7 := { stood := { row := abbrKeepsRow, standIns := [], harness := (true, "a755d1463a5aa5bce6303fdd1fc4bd7f7cba42c75edb3f82e23a659076945feb"), looks := false }, kinds := [], alts := [], laidByText := true, laidKinds := [.data, .data, .pinned], laidTests := true, laidLooks := .later }
def AbbrKeepsCardSaid : Prop := Claim7.holds Tryd.pinned (.plain (OpenSpec.ofChange abbrKeepsSpec)) abbrKeepsCard

/-- THE TIED CARD OF 'souffleurlaw08.AbbrDrops'. -/
def abbrDropsCard : Claim7 := { stood := { row := abbrDropsRow, standIns := [], harness := (true, "a755d1463a5aa5bce6303fdd1fc4bd7f7cba42c75edb3f82e23a659076945feb"), looks := false }, kinds := [], alts := [], laidByText := true, laidKinds := [.data, .data, .pinned], laidTests := true, laidLooks := .later }
def AbbrDropsCardSaid : Prop := Claim7.holds Tryd.pinned (.plain (OpenSpec.ofChange abbrDropsSpec)) abbrDropsCard

/-- THE TIED CARD OF 'souffleurlaw08.AbbrSets'. -/
def abbrSetsCard : Claim7 := { stood := { row := abbrSetsRow, standIns := [], harness := (true, "a755d1463a5aa5bce6303fdd1fc4bd7f7cba42c75edb3f82e23a659076945feb"), looks := false }, kinds := [], alts := [], laidByText := true, laidKinds := [.data, .data, .pinned], laidTests := true, laidLooks := .later }
def AbbrSetsCardSaid : Prop := Claim7.holds Tryd.pinned (.plain (OpenSpec.ofChange abbrSetsSpec)) abbrSetsCard

/-- THE TIED CARD OF 'souffleurlaw08.AbbrOnce'. -/
def abbrOnceCard : Claim7 := { stood := { row := abbrOnceRow, standIns := [], harness := (true, "a755d1463a5aa5bce6303fdd1fc4bd7f7cba42c75edb3f82e23a659076945feb"), looks := false }, kinds := [], alts := [], laidByText := true, laidKinds := [.data, .data, .pinned], laidTests := true, laidLooks := .later }
def AbbrOnceCardSaid : Prop := Claim7.holds Tryd.pinned (.plain (OpenSpec.ofChange abbrOnceSpec)) abbrOnceCard

/-- THE SECOND FORM's CARD OF 'souffleurlaw08.AbbrAll'. -/
def abbrAllUptoCard : Claim7 := { stood := { row := abbrAllUptoRow, standIns := [], harness := (true, "a755d1463a5aa5bce6303fdd1fc4bd7f7cba42c75edb3f82e23a659076945feb"), looks := false }, kinds := [], alts := [], laidByText := true, laidKinds := [.data, .data, .pinned], laidTests := true, laidLooks := .later }
def AbbrAllUptoCardSaid : Prop := Claim7.holds Tryd.pinned (.plain (OpenSpec.upto abbrAllSpec)) abbrAllUptoCard

/-- THE SECOND FORM's CARD OF 'souffleurlaw08.AbbrKeeps'. -/
def abbrKeepsUptoCard : Claim7 := { stood := { row := abbrKeepsUptoRow, standIns := [], harness := (true, "a755d1463a5aa5bce6303fdd1fc4bd7f7cba42c75edb3f82e23a659076945feb"), looks := false }, kinds := [], alts := [], laidByText := true, laidKinds := [.data, .data, .pinned], laidTests := true, laidLooks := .later }
def AbbrKeepsUptoCardSaid : Prop := Claim7.holds Tryd.pinned (.plain (OpenSpec.upto abbrKeepsSpec)) abbrKeepsUptoCard

/-- THE SECOND FORM's CARD OF 'souffleurlaw08.AbbrDrops'. -/
def abbrDropsUptoCard : Claim7 := { stood := { row := abbrDropsUptoRow, standIns := [], harness := (true, "a755d1463a5aa5bce6303fdd1fc4bd7f7cba42c75edb3f82e23a659076945feb"), looks := false }, kinds := [], alts := [], laidByText := true, laidKinds := [.data, .data, .pinned], laidTests := true, laidLooks := .later }
def AbbrDropsUptoCardSaid : Prop := Claim7.holds Tryd.pinned (.plain (OpenSpec.upto abbrDropsSpec)) abbrDropsUptoCard

/-- THE SECOND FORM's CARD OF 'souffleurlaw08.AbbrSets'. -/
def abbrSetsUptoCard : Claim7 := { stood := { row := abbrSetsUptoRow, standIns := [], harness := (true, "a755d1463a5aa5bce6303fdd1fc4bd7f7cba42c75edb3f82e23a659076945feb"), looks := false }, kinds := [], alts := [], laidByText := true, laidKinds := [.data, .data, .pinned], laidTests := true, laidLooks := .later }
def AbbrSetsUptoCardSaid : Prop := Claim7.holds Tryd.pinned (.plain (OpenSpec.upto abbrSetsSpec)) abbrSetsUptoCard

/-- THE SECOND FORM's CARD OF 'souffleurlaw08.AbbrOnce'. -/
def abbrOnceUptoCard : Claim7 := { stood := { row := abbrOnceUptoRow, standIns := [], harness := (true, "a755d1463a5aa5bce6303fdd1fc4bd7f7cba42c75edb3f82e23a659076945feb"), looks := false }, kinds := [], alts := [], laidByText := true, laidKinds := [.data, .data, .pinned], laidTests := true, laidLooks := .later }
def AbbrOnceUptoCardSaid : Prop := Claim7.holds Tryd.pinned (.plain (OpenSpec.upto abbrOnceSpec)) abbrOnceUptoCard
end Rows
end Go.Proofs.YthifdojbbbnpaaaDoor
