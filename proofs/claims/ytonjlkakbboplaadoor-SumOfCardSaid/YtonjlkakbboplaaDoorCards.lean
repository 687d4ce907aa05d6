/-
  DERIVED. GIVEN WITH THE SEED: THE CARDS: each row of YtonjlkakbboplaaDoorRows.lean that lists a variable, with what it lists TIED to the program's text (the seventh form; the later family's looks); each row that meets fmt, with fmt's text TOLD by the authors' own Lean function (tested against real Go, not proved from fmt's source: count such statements apart). THE CARD IS WHAT COUNTS. Prove the row's statement (the work); the ties are given (YtonjlkakbboplaaDoorTie.lean); close each card by the builder's one call (the guide's Derived/Test/ToyasCard.lean, 'card_holds'). Laid BY PROGRAM, IN A SANDBOX (cutbox-door.mjs). By AI agents, Wed Nov 11 2026. No macro, syntax, notation, axiom, sorry.
-/
import Derived.Test.YtonjlkakbboplaaDoorRows
import GoSem.ClaimSeven
namespace Go.Proofs.YtonjlkakbboplaaDoor
namespace Rows

/-- THE TIED CARD OF 'souffleurlaw09.SumOf'. -/
def sumOfCard : Claim7 := { stood := { row := sumOfRow, standIns := [], harness := (true, "ff5706bd2dafa46ae5c4284cc5262dc8157307e64de0cdf52bef08c8919a20c0"), looks := false }, kinds := [], alts := [], laidByText := true, laidKinds := [.data, .data], laidTests := true, laidLooks := .later }
def SumOfCardSaid : Prop := Claim7.holds Tryd.pinned (.plain (OpenSpec.ofChange sumOfSpec)) sumOfCard

/-- THE TIED CARD OF 'souffleurlaw09.SumParts'. -/
def sumPartsCard : Claim7 := { stood := { row := sumPartsRow, standIns := [], harness := (true, "ff5706bd2dafa46ae5c4284cc5262dc8157307e64de0cdf52bef08c8919a20c0"), looks := false }, kinds := [], alts := [], laidByText := true, laidKinds := [.data, .data], laidTests := true, laidLooks := .later }
def SumPartsCardSaid : Prop := Claim7.holds Tryd.pinned (.plain (OpenSpec.ofChange sumPartsSpec)) sumPartsCard

/-- THE TIED CARD OF 'souffleurlaw09.SumJoins'. -/
def sumJoinsCard : Claim7 := { stood := { row := sumJoinsRow, standIns := [], harness := (true, "ff5706bd2dafa46ae5c4284cc5262dc8157307e64de0cdf52bef08c8919a20c0"), looks := false }, kinds := [], alts := [], laidByText := true, laidKinds := [.data, .data], laidTests := true, laidLooks := .later }
def SumJoinsCardSaid : Prop := Claim7.holds Tryd.pinned (.plain (OpenSpec.ofChange sumJoinsSpec)) sumJoinsCard

/-- THE TIED CARD OF 'souffleurlaw09.SumShifts'. -/
def sumShiftsCard : Claim7 := { stood := { row := sumShiftsRow, standIns := [], harness := (true, "ff5706bd2dafa46ae5c4284cc5262dc8157307e64de0cdf52bef08c8919a20c0"), looks := false }, kinds := [], alts := [], laidByText := true, laidKinds := [.data, .data], laidTests := true, laidLooks := .later }
def SumShiftsCardSaid : Prop := Claim7.holds Tryd.pinned (.plain (OpenSpec.ofChange sumShiftsSpec)) sumShiftsCard

/-- THE TIED CARD OF 'souffleurlaw09.SumLinear'. -/
def sumLinearCard : Claim7 := { stood := { row := sumLinearRow, standIns := [], harness := (true, "ff5706bd2dafa46ae5c4284cc5262dc8157307e64de0cdf52bef08c8919a20c0"), looks := false }, kinds := [], alts := [], laidByText := true, laidKinds := [.data, .data], laidTests := true, laidLooks := .later }
def SumLinearCardSaid : Prop := Claim7.holds Tryd.pinned (.plain (OpenSpec.ofChange sumLinearSpec)) sumLinearCard

/-- THE TIED CARD OF 'souffleurlaw09.SumBytes'. -/
def sumBytesCard : Claim7 := { stood := { row := sumBytesRow, standIns := [], harness := (true, "ff5706bd2dafa46ae5c4284cc5262dc8157307e64de0cdf52bef08c8919a20c0"), looks := false }, kinds := [], alts := [], laidByText := true, laidKinds := [.data, .data], laidTests := true, laidLooks := .later }
def SumBytesCardSaid : Prop := Claim7.holds Tryd.pinned (.plain (OpenSpec.ofChange sumBytesSpec)) sumBytesCard

/-- THE TIED CARD OF 'souffleurlaw09.SumTold'. -/
def sumToldCard : Claim7 := { stood := { row := sumToldRow, standIns := [], harness := (true, "ff5706bd2dafa46ae5c4284cc5262dc8157307e64de0cdf52bef08c8919a20c0"), looks := false }, kinds := [], alts := [], laidByText := true, laidKinds := [.data, .data], laidTests := true, laidLooks := .later }
def SumToldCardSaid : Prop := Claim7.holds Tryd.pinned (.plain (OpenSpec.ofChange sumToldSpec)) sumToldCard

/-- THE SECOND FORM's CARD OF 'souffleurlaw09.SumOf'. -/
def sumOfUptoCard : Claim7 := { stood := { row := sumOfUptoRow, standIns := [], harness := (true, "ff5706bd2dafa46ae5c4284cc5262dc8157307e64de0cdf52bef08c8919a20c0"), looks := false }, kinds := [], alts := [], laidByText := true, laidKinds := [.data, .data], laidTests := true, laidLooks := .later }
def SumOfUptoCardSaid : Prop := Claim7.holds Tryd.pinned (.plain (OpenSpec.upto sumOfSpec)) sumOfUptoCard

/-- THE SECOND FORM's CARD OF 'souffleurlaw09.SumParts'. -/
def sumPartsUptoCard : Claim7 := { stood := { row := sumPartsUptoRow, standIns := [], harness := (true, "ff5706bd2dafa46ae5c4284cc5262dc8157307e64de0cdf52bef08c8919a20c0"), looks := false }, kinds := [], alts := [], laidByText := true, laidKinds := [.data, .data], laidTests := true, laidLooks := .later }
def SumPartsUptoCardSaid : Prop := Claim7.holds Tryd.pinned (.plain (OpenSpec.upto sumPartsSpec)) sumPartsUptoCard

/-- THE SECOND FORM's CARD OF 'souffleurlaw09.SumJoins'. -/
def sumJoinsUptoCard : Claim7 := { stood := { row := sumJoinsUptoRow, standIns := [], harness := (true, "ff5706bd2dafa46ae5c4284cc5262dc8157307e64de0cdf52bef08c8919a20c0"), looks := false }, kinds := [], alts := [], laidByText := true, laidKinds := [.data, .data], laidTests := true, laidLooks := .later }
def SumJoinsUptoCardSaid : Prop := Claim7.holds Tryd.pinned (.plain (OpenSpec.upto sumJoinsSpec)) sumJoinsUptoCard

/-- THE SECOND FORM's CARD OF 'souffleurlaw09.SumShifts'. -/
def sumShiftsUptoCard : Claim7 := { stood := { row := sumShiftsUptoRow, standIns := [], harness := (true, "ff5706bd2dafa46ae5c4284cc5262dc8157307e64de0cdf52bef08c8919a20c0"), looks := false }, kinds := [], alts := [], laidByText := true, laidKinds := [.data, .data], laidTests := true, laidLooks := .later }
def SumShiftsUptoCardSaid : Prop := Claim7.holds Tryd.pinned (.plain (OpenSpec.upto sumShiftsSpec)) sumShiftsUptoCard

/-- THE SECOND FORM's CARD OF 'souffleurlaw09.SumLinear'. -/
def sumLinearUptoCard : Claim7 := { stood := { row := sumLinearUptoRow, standIns := [], harness := (true, "ff5706bd2dafa46ae5c4284cc5262dc8157307e64de0cdf52bef08c8919a20c0"), looks := false }, kinds := [], alts := [], laidByText := true, laidKinds := [.data, .data], laidTests := true, laidLooks := .later }
def SumLinearUptoCardSaid : Prop := Claim7.holds Tryd.pinned (.plain (OpenSpec.upto sumLinearSpec)) sumLinearUptoCard

/-- THE SECOND FORM's CARD OF 'souffleurlaw09.SumBytes'. -/
def sumBytesUptoCard : Claim7 := { stood := { row := sumBytesUptoRow, standIns := [], harness := (true, "ff5706bd2dafa46ae5c4284cc5262dc8157307e64de0cdf52bef08c8919a20c0"), looks := false }, kinds := [], alts := [], laidByText := true, laidKinds := [.data, .data], laidTests := true, laidLooks := .later }
def SumBytesUptoCardSaid : Prop := Claim7.holds Tryd.pinned (.plain (OpenSpec.upto sumBytesSpec)) sumBytesUptoCard

/-- THE SECOND FORM's CARD OF 'souffleurlaw09.SumTold'. -/
def sumToldUptoCard : Claim7 := { stood := { row := sumToldUptoRow, standIns := [], harness := (true, "ff5706bd2dafa46ae5c4284cc5262dc8157307e64de0cdf52bef08c8919a20c0"), looks := false }, kinds := [], alts := [], laidByText := true, laidKinds := [.data, .data], laidTests := true, laidLooks := .later }
def SumToldUptoCardSaid : Prop := Claim7.holds Tryd.pinned (.plain (OpenSpec.upto sumToldSpec)) sumToldUptoCard
end Rows
end Go.Proofs.YtonjlkakbboplaaDoor
