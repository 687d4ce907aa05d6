/-
  DERIVED. GIVEN WITH THE SEED: THE CARDS: each row of YtpndhffhdllmpaaDoorRows.lean that lists a variable, with what it lists TIED to the program's text (the seventh form; the later family's looks); each row that meets fmt, with fmt's text TOLD by the authors' own Lean function (tested against real Go, not proved from fmt's source: count such statements apart). THE CARD IS WHAT COUNTS. Prove the row's statement (the work); the ties are given (YtpndhffhdllmpaaDoorTie.lean); close each card by the builder's one call (the guide's Derived/Test/ToyasCard.lean, 'card_holds'). Laid BY PROGRAM, IN A SANDBOX (cutbox-door.mjs). By AI agents, Wed Nov 11 2026. No macro, syntax, notation, axiom, sorry.
-/
import Derived.Test.YtpndhffhdllmpaaDoorRows
import GoSem.ClaimSeven
namespace Go.Proofs.YtpndhffhdllmpaaDoor
namespace Rows

/-- THE TIED CARD OF 'souffleurlaw01.SignNext'. -/
def signNextCard : Claim7 := { stood := { row := signNextRow, standIns := [], harness := (true, "fb85f24f3d4df9aacc91d8e0e129454b0a683036ee7e385a58df90b58c006910"), looks := false }, kinds := [], alts := [], laidByText := true, laidKinds := [.data, .pinned], laidTests := true, laidLooks := .later }
def SignNextCardSaid : Prop := Claim7.holds Tryd.pinned (.plain (OpenSpec.ofChange signNextSpec)) signNextCard

/-- THE TIED CARD OF 'souffleurlaw01.SignRunes'. -/
def signRunesCard : Claim7 := { stood := { row := signRunesRow, standIns := [], harness := (true, "fb85f24f3d4df9aacc91d8e0e129454b0a683036ee7e385a58df90b58c006910"), looks := false }, kinds := [], alts := [], laidByText := true, laidKinds := [.data, .pinned], laidTests := true, laidLooks := .later }
def SignRunesCardSaid : Prop := Claim7.holds Tryd.pinned (.plain (OpenSpec.ofChange signRunesSpec)) signRunesCard

/-- THE TIED CARD OF 'souffleurlaw01.SignBytes'. -/
def signBytesCard : Claim7 := { stood := { row := signBytesRow, standIns := [], harness := (true, "fb85f24f3d4df9aacc91d8e0e129454b0a683036ee7e385a58df90b58c006910"), looks := false }, kinds := [], alts := [], laidByText := true, laidKinds := [.data, .pinned], laidTests := true, laidLooks := .later }
def SignBytesCardSaid : Prop := Claim7.holds Tryd.pinned (.plain (OpenSpec.ofChange signBytesSpec)) signBytesCard

/-- THE TIED CARD OF 'souffleurlaw01.SignFeeds'. -/
def signFeedsCard : Claim7 := { stood := { row := signFeedsRow, standIns := [], harness := (true, "fb85f24f3d4df9aacc91d8e0e129454b0a683036ee7e385a58df90b58c006910"), looks := false }, kinds := [], alts := [], laidByText := true, laidKinds := [.data, .pinned], laidTests := true, laidLooks := .later }
def SignFeedsCardSaid : Prop := Claim7.holds Tryd.pinned (.plain (OpenSpec.ofChange signFeedsSpec)) signFeedsCard

/-- THE TIED CARD OF 'souffleurlaw01.SignParts'. -/
def signPartsCard : Claim7 := { stood := { row := signPartsRow, standIns := [], harness := (true, "fb85f24f3d4df9aacc91d8e0e129454b0a683036ee7e385a58df90b58c006910"), looks := false }, kinds := [], alts := [], laidByText := true, laidKinds := [.data, .pinned], laidTests := true, laidLooks := .later }
def SignPartsCardSaid : Prop := Claim7.holds Tryd.pinned (.plain (OpenSpec.ofChange signPartsSpec)) signPartsCard

/-- THE TIED CARD OF 'souffleurlaw01.SignOwn'. -/
def signOwnCard : Claim7 := { stood := { row := signOwnRow, standIns := [], harness := (true, "fb85f24f3d4df9aacc91d8e0e129454b0a683036ee7e385a58df90b58c006910"), looks := false }, kinds := [], alts := [], laidByText := true, laidKinds := [.data, .pinned], laidTests := true, laidLooks := .later }
def SignOwnCardSaid : Prop := Claim7.holds Tryd.pinned (.plain (OpenSpec.ofChange signOwnSpec)) signOwnCard

/-- THE TIED CARD OF 'souffleurlaw01.SignJoins'. -/
def signJoinsCard : Claim7 := { stood := { row := signJoinsRow, standIns := [], harness := (true, "fb85f24f3d4df9aacc91d8e0e129454b0a683036ee7e385a58df90b58c006910"), looks := false }, kinds := [], alts := [], laidByText := true, laidKinds := [.data, .pinned], laidTests := true, laidLooks := .later }
def SignJoinsCardSaid : Prop := Claim7.holds Tryd.pinned (.plain (OpenSpec.ofChange signJoinsSpec)) signJoinsCard

/-- THE SECOND FORM's CARD OF 'souffleurlaw01.SignNext'. -/
def signNextUptoCard : Claim7 := { stood := { row := signNextUptoRow, standIns := [], harness := (true, "fb85f24f3d4df9aacc91d8e0e129454b0a683036ee7e385a58df90b58c006910"), looks := false }, kinds := [], alts := [], laidByText := true, laidKinds := [.data, .pinned], laidTests := true, laidLooks := .later }
def SignNextUptoCardSaid : Prop := Claim7.holds Tryd.pinned (.plain (OpenSpec.upto signNextSpec)) signNextUptoCard

/-- THE SECOND FORM's CARD OF 'souffleurlaw01.SignRunes'. -/
def signRunesUptoCard : Claim7 := { stood := { row := signRunesUptoRow, standIns := [], harness := (true, "fb85f24f3d4df9aacc91d8e0e129454b0a683036ee7e385a58df90b58c006910"), looks := false }, kinds := [], alts := [], laidByText := true, laidKinds := [.data, .pinned], laidTests := true, laidLooks := .later }
def SignRunesUptoCardSaid : Prop := Claim7.holds Tryd.pinned (.plain (OpenSpec.upto signRunesSpec)) signRunesUptoCard

/-- THE SECOND FORM's CARD OF 'souffleurlaw01.SignBytes'. -/
def signBytesUptoCard : Claim7 := { stood := { row := signBytesUptoRow, standIns := [], harness := (true, "fb85f24f3d4df9aacc91d8e0e129454b0a683036ee7e385a58df90b58c006910"), looks := false }, kinds := [], alts := [], laidByText := true, laidKinds := [.data, .pinned], laidTests := true, laidLooks := .later }
def SignBytesUptoCardSaid : Prop := Claim7.holds Tryd.pinned (.plain (OpenSpec.upto signBytesSpec)) signBytesUptoCard

/-- THE SECOND FORM's CARD OF 'souffleurlaw01.SignFeeds'. -/
def signFeedsUptoCard : Claim7 := { stood := { row := signFeedsUptoRow, standIns := [], harness := (true, "fb85f24f3d4df9aacc91d8e0e129454b0a683036ee7e385a58df90b58c006910"), looks := false }, kinds := [], alts := [], laidByText := true, laidKinds := [.data, .pinned], laidTests := true, laidLooks := .later }
def SignFeedsUptoCardSaid : Prop := Claim7.holds Tryd.pinned (.plain (OpenSpec.upto signFeedsSpec)) signFeedsUptoCard

/-- THE SECOND FORM's CARD OF 'souffleurlaw01.SignParts'. -/
def signPartsUptoCard : Claim7 := { stood := { row := signPartsUptoRow, standIns := [], harness := (true, "fb85f24f3d4df9aacc91d8e0e129454b0a683036ee7e385a58df90b58c006910"), looks := false }, kinds := [], alts := [], laidByText := true, laidKinds := [.data, .pinned], laidTests := true, laidLooks := .later }
def SignPartsUptoCardSaid : Prop := Claim7.holds Tryd.pinned (.plain (OpenSpec.upto signPartsSpec)) signPartsUptoCard

/-- THE SECOND FORM's CARD OF 'souffleurlaw01.SignOwn'. -/
def signOwnUptoCard : Claim7 := { stood := { row := signOwnUptoRow, standIns := [], harness := (true, "fb85f24f3d4df9aacc91d8e0e129454b0a683036ee7e385a58df90b58c006910"), looks := false }, kinds := [], alts := [], laidByText := true, laidKinds := [.data, .pinned], laidTests := true, laidLooks := .later }
def SignOwnUptoCardSaid : Prop := Claim7.holds Tryd.pinned (.plain (OpenSpec.upto signOwnSpec)) signOwnUptoCard

/-- THE SECOND FORM's CARD OF 'souffleurlaw01.SignJoins'. -/
def signJoinsUptoCard : Claim7 := { stood := { row := signJoinsUptoRow, standIns := [], harness := (true, "fb85f24f3d4df9aacc91d8e0e129454b0a683036ee7e385a58df90b58c006910"), looks := false }, kinds := [], alts := [], laidByText := true, laidKinds := [.data, .pinned], laidTests := true, laidLooks := .later }
def SignJoinsUptoCardSaid : Prop := Claim7.holds Tryd.pinned (.plain (OpenSpec.upto signJoinsSpec)) signJoinsUptoCard
end Rows
end Go.Proofs.YtpndhffhdllmpaaDoor
