/-
  DERIVED. GIVEN WITH THE SEED: THE CARDS: each row of YtpebikjckhcgfaaDoorRows.lean that lists a variable, with what it lists TIED to the program's text (the seventh form; the later family's looks); each row that meets fmt, with fmt's text TOLD by the authors' own Lean function (tested against real Go, not proved from fmt's source: count such statements apart). THE CARD IS WHAT COUNTS. Prove the row's statement (the work); the ties are given (YtpebikjckhcgfaaDoorTie.lean); close each card by the builder's one call (the guide's Derived/Test/ToyasCard.lean, 'card_holds'). Laid BY PROGRAM, IN A SANDBOX (cutbox-door.mjs). By AI agents, Wed Nov 11 2026. No macro, syntax, notation, axiom, sorry.
-/
import Derived.Test.YtpebikjckhcgfaaDoorRows
import GoSem.ClaimSeven
namespace Go.Proofs.YtpebikjckhcgfaaDoor
namespace Rows

/-- THE TIED CARD OF 'laws.FnSlots'. -/
def fnSlotsCard : Claim7 := { stood := { row := fnSlotsRow, standIns := [], harness := (true, "4721bfe37863ceea0f1c496a4baeda699fa3d1061fbbfa41cc930d80d2bcfff1"), looks := false }, kinds := [], alts := [], laidByText := true, laidKinds := [.data, .data], laidTests := true, laidLooks := .later }
def FnSlotsCardSaid : Prop := Claim7.holds Tryd.pinned (.plain (OpenSpec.ofChange fnSlotsSpec)) fnSlotsCard

/-- THE TIED CARD OF 'laws.FnExactMaySlot'. -/
def fnExactMaySlotCard : Claim7 := { stood := { row := fnExactMaySlotRow, standIns := [], harness := (true, "4721bfe37863ceea0f1c496a4baeda699fa3d1061fbbfa41cc930d80d2bcfff1"), looks := false }, kinds := [], alts := [], laidByText := true, laidKinds := [.data, .data], laidTests := true, laidLooks := .later }
def FnExactMaySlotCardSaid : Prop := Claim7.holds Tryd.pinned (.plain (OpenSpec.ofChange fnExactMaySlotSpec)) fnExactMaySlotCard

/-- THE TIED CARD OF 'laws.FnExactSlotPoints'. -/
def fnExactSlotPointsCard : Claim7 := { stood := { row := fnExactSlotPointsRow, standIns := [], harness := (true, "4721bfe37863ceea0f1c496a4baeda699fa3d1061fbbfa41cc930d80d2bcfff1"), looks := false }, kinds := [], alts := [], laidByText := true, laidKinds := [.data], laidTests := true, laidLooks := .later }
def FnExactSlotPointsCardSaid : Prop := Claim7.holds Tryd.pinned (.plain (OpenSpec.ofChange fnExactSlotPointsSpec)) fnExactSlotPointsCard

/-- THE TIED CARD OF 'laws.FnExactEncodeSlots'. -/
def fnExactEncodeSlotsCard : Claim7 := { stood := { row := fnExactEncodeSlotsRow, standIns := [], harness := (true, "4721bfe37863ceea0f1c496a4baeda699fa3d1061fbbfa41cc930d80d2bcfff1"), looks := false }, kinds := [], alts := [], laidByText := true, laidKinds := [.data, .data], laidTests := true, laidLooks := .later }
def FnExactEncodeSlotsCardSaid : Prop := Claim7.holds Tryd.pinned (.plain (OpenSpec.ofChange fnExactEncodeSlotsSpec)) fnExactEncodeSlotsCard

/-- THE TIED CARD OF 'laws.FnExactDecodeSlots'. -/
def fnExactDecodeSlotsCard : Claim7 := { stood := { row := fnExactDecodeSlotsRow, standIns := [], harness := (true, "4721bfe37863ceea0f1c496a4baeda699fa3d1061fbbfa41cc930d80d2bcfff1"), looks := false }, kinds := [], alts := [], laidByText := true, laidKinds := [.data, .data], laidTests := true, laidLooks := .later }
def FnExactDecodeSlotsCardSaid : Prop := Claim7.holds Tryd.pinned (.plain (OpenSpec.ofChange fnExactDecodeSlotsSpec)) fnExactDecodeSlotsCard

/-- THE TIED CARD OF 'laws.FnExactTurnOfRows'. -/
def fnExactTurnOfRowsCard : Claim7 := { stood := { row := fnExactTurnOfRowsRow, standIns := [], harness := (true, "4721bfe37863ceea0f1c496a4baeda699fa3d1061fbbfa41cc930d80d2bcfff1"), looks := false }, kinds := [], alts := [], laidByText := true, laidKinds := [.data], laidTests := true, laidLooks := .later }
def FnExactTurnOfRowsCardSaid : Prop := Claim7.holds Tryd.pinned (.plain (OpenSpec.ofChange fnExactTurnOfRowsSpec)) fnExactTurnOfRowsCard

/-- THE TIED CARD OF 'laws.FnExactTurnOfSwap'. -/
def fnExactTurnOfSwapCard : Claim7 := { stood := { row := fnExactTurnOfSwapRow, standIns := [], harness := (true, "4721bfe37863ceea0f1c496a4baeda699fa3d1061fbbfa41cc930d80d2bcfff1"), looks := false }, kinds := [], alts := [], laidByText := true, laidKinds := [.data], laidTests := true, laidLooks := .later }
def FnExactTurnOfSwapCardSaid : Prop := Claim7.holds Tryd.pinned (.plain (OpenSpec.ofChange fnExactTurnOfSwapSpec)) fnExactTurnOfSwapCard

/-- THE TIED CARD OF 'laws.FnExactMovedSlots'. -/
def fnExactMovedSlotsCard : Claim7 := { stood := { row := fnExactMovedSlotsRow, standIns := [], harness := (true, "4721bfe37863ceea0f1c496a4baeda699fa3d1061fbbfa41cc930d80d2bcfff1"), looks := false }, kinds := [], alts := [], laidByText := true, laidKinds := [.data], laidTests := true, laidLooks := .later }
def FnExactMovedSlotsCardSaid : Prop := Claim7.holds Tryd.pinned (.plain (OpenSpec.ofChange fnExactMovedSlotsSpec)) fnExactMovedSlotsCard

/-- THE TIED CARD OF 'laws.FnExactMulRows'. -/
def fnExactMulRowsCard : Claim7 := { stood := { row := fnExactMulRowsRow, standIns := [], harness := (true, "4721bfe37863ceea0f1c496a4baeda699fa3d1061fbbfa41cc930d80d2bcfff1"), looks := false }, kinds := [], alts := [], laidByText := true, laidKinds := [.data, .data], laidTests := true, laidLooks := .later }
def FnExactMulRowsCardSaid : Prop := Claim7.holds Tryd.pinned (.plain (OpenSpec.ofChange fnExactMulRowsSpec)) fnExactMulRowsCard

/-- THE TIED CARD OF 'laws.FnExactScaleRows'. -/
def fnExactScaleRowsCard : Claim7 := { stood := { row := fnExactScaleRowsRow, standIns := [], harness := (true, "4721bfe37863ceea0f1c496a4baeda699fa3d1061fbbfa41cc930d80d2bcfff1"), looks := false }, kinds := [], alts := [], laidByText := true, laidKinds := [.data, .data], laidTests := true, laidLooks := .later }
def FnExactScaleRowsCardSaid : Prop := Claim7.holds Tryd.pinned (.plain (OpenSpec.ofChange fnExactScaleRowsSpec)) fnExactScaleRowsCard

/-- THE TIED CARD OF 'laws.FnExactAheadRows'. -/
def fnExactAheadRowsCard : Claim7 := { stood := { row := fnExactAheadRowsRow, standIns := [], harness := (true, "4721bfe37863ceea0f1c496a4baeda699fa3d1061fbbfa41cc930d80d2bcfff1"), looks := false }, kinds := [], alts := [], laidByText := true, laidKinds := [.data, .data], laidTests := true, laidLooks := .later }
def FnExactAheadRowsCardSaid : Prop := Claim7.holds Tryd.pinned (.plain (OpenSpec.ofChange fnExactAheadRowsSpec)) fnExactAheadRowsCard

/-- THE TIED CARD OF 'laws.FnExactBackRows'. -/
def fnExactBackRowsCard : Claim7 := { stood := { row := fnExactBackRowsRow, standIns := [], harness := (true, "4721bfe37863ceea0f1c496a4baeda699fa3d1061fbbfa41cc930d80d2bcfff1"), looks := false }, kinds := [], alts := [], laidByText := true, laidKinds := [.data, .data], laidTests := true, laidLooks := .later }
def FnExactBackRowsCardSaid : Prop := Claim7.holds Tryd.pinned (.plain (OpenSpec.ofChange fnExactBackRowsSpec)) fnExactBackRowsCard

/-- THE SECOND FORM's CARD OF 'laws.FnSlots'. -/
def fnSlotsUptoCard : Claim7 := { stood := { row := fnSlotsUptoRow, standIns := [], harness := (true, "4721bfe37863ceea0f1c496a4baeda699fa3d1061fbbfa41cc930d80d2bcfff1"), looks := false }, kinds := [], alts := [], laidByText := true, laidKinds := [.data, .data], laidTests := true, laidLooks := .later }
def FnSlotsUptoCardSaid : Prop := Claim7.holds Tryd.pinned (.plain (OpenSpec.upto fnSlotsSpec)) fnSlotsUptoCard

/-- THE SECOND FORM's CARD OF 'laws.FnExactMaySlot'. -/
def fnExactMaySlotUptoCard : Claim7 := { stood := { row := fnExactMaySlotUptoRow, standIns := [], harness := (true, "4721bfe37863ceea0f1c496a4baeda699fa3d1061fbbfa41cc930d80d2bcfff1"), looks := false }, kinds := [], alts := [], laidByText := true, laidKinds := [.data, .data], laidTests := true, laidLooks := .later }
def FnExactMaySlotUptoCardSaid : Prop := Claim7.holds Tryd.pinned (.plain (OpenSpec.upto fnExactMaySlotSpec)) fnExactMaySlotUptoCard

/-- THE SECOND FORM's CARD OF 'laws.FnExactSlotPoints'. -/
def fnExactSlotPointsUptoCard : Claim7 := { stood := { row := fnExactSlotPointsUptoRow, standIns := [], harness := (true, "4721bfe37863ceea0f1c496a4baeda699fa3d1061fbbfa41cc930d80d2bcfff1"), looks := false }, kinds := [], alts := [], laidByText := true, laidKinds := [.data], laidTests := true, laidLooks := .later }
def FnExactSlotPointsUptoCardSaid : Prop := Claim7.holds Tryd.pinned (.plain (OpenSpec.upto fnExactSlotPointsSpec)) fnExactSlotPointsUptoCard

/-- THE SECOND FORM's CARD OF 'laws.FnExactEncodeSlots'. -/
def fnExactEncodeSlotsUptoCard : Claim7 := { stood := { row := fnExactEncodeSlotsUptoRow, standIns := [], harness := (true, "4721bfe37863ceea0f1c496a4baeda699fa3d1061fbbfa41cc930d80d2bcfff1"), looks := false }, kinds := [], alts := [], laidByText := true, laidKinds := [.data, .data], laidTests := true, laidLooks := .later }
def FnExactEncodeSlotsUptoCardSaid : Prop := Claim7.holds Tryd.pinned (.plain (OpenSpec.upto fnExactEncodeSlotsSpec)) fnExactEncodeSlotsUptoCard

/-- THE SECOND FORM's CARD OF 'laws.FnExactDecodeSlots'. -/
def fnExactDecodeSlotsUptoCard : Claim7 := { stood := { row := fnExactDecodeSlotsUptoRow, standIns := [], harness := (true, "4721bfe37863ceea0f1c496a4baeda699fa3d1061fbbfa41cc930d80d2bcfff1"), looks := false }, kinds := [], alts := [], laidByText := true, laidKinds := [.data, .data], laidTests := true, laidLooks := .later }
def FnExactDecodeSlotsUptoCardSaid : Prop := Claim7.holds Tryd.pinned (.plain (OpenSpec.upto fnExactDecodeSlotsSpec)) fnExactDecodeSlotsUptoCard

/-- THE SECOND FORM's CARD OF 'laws.FnExactTurnOfRows'. -/
def fnExactTurnOfRowsUptoCard : Claim7 := { stood := { row := fnExactTurnOfRowsUptoRow, standIns := [], harness := (true, "4721bfe37863ceea0f1c496a4baeda699fa3d1061fbbfa41cc930d80d2bcfff1"), looks := false }, kinds := [], alts := [], laidByText := true, laidKinds := [.data], laidTests := true, laidLooks := .later }
def FnExactTurnOfRowsUptoCardSaid : Prop := Claim7.holds Tryd.pinned (.plain (OpenSpec.upto fnExactTurnOfRowsSpec)) fnExactTurnOfRowsUptoCard

/-- THE SECOND FORM's CARD OF 'laws.FnExactTurnOfSwap'. -/
def fnExactTurnOfSwapUptoCard : Claim7 := { stood := { row := fnExactTurnOfSwapUptoRow, standIns := [], harness := (true, "4721bfe37863ceea0f1c496a4baeda699fa3d1061fbbfa41cc930d80d2bcfff1"), looks := false }, kinds := [], alts := [], laidByText := true, laidKinds := [.data], laidTests := true, laidLooks := .later }
def FnExactTurnOfSwapUptoCardSaid : Prop := Claim7.holds Tryd.pinned (.plain (OpenSpec.upto fnExactTurnOfSwapSpec)) fnExactTurnOfSwapUptoCard

/-- THE SECOND FORM's CARD OF 'laws.FnExactMovedSlots'. -/
def fnExactMovedSlotsUptoCard : Claim7 := { stood := { row := fnExactMovedSlotsUptoRow, standIns := [], harness := (true, "4721bfe37863ceea0f1c496a4baeda699fa3d1061fbbfa41cc930d80d2bcfff1"), looks := false }, kinds := [], alts := [], laidByText := true, laidKinds := [.data], laidTests := true, laidLooks := .later }
def FnExactMovedSlotsUptoCardSaid : Prop := Claim7.holds Tryd.pinned (.plain (OpenSpec.upto fnExactMovedSlotsSpec)) fnExactMovedSlotsUptoCard

/-- THE SECOND FORM's CARD OF 'laws.FnExactMulRows'. -/
def fnExactMulRowsUptoCard : Claim7 := { stood := { row := fnExactMulRowsUptoRow, standIns := [], harness := (true, "4721bfe37863ceea0f1c496a4baeda699fa3d1061fbbfa41cc930d80d2bcfff1"), looks := false }, kinds := [], alts := [], laidByText := true, laidKinds := [.data, .data], laidTests := true, laidLooks := .later }
def FnExactMulRowsUptoCardSaid : Prop := Claim7.holds Tryd.pinned (.plain (OpenSpec.upto fnExactMulRowsSpec)) fnExactMulRowsUptoCard

/-- THE SECOND FORM's CARD OF 'laws.FnExactScaleRows'. -/
def fnExactScaleRowsUptoCard : Claim7 := { stood := { row := fnExactScaleRowsUptoRow, standIns := [], harness := (true, "4721bfe37863ceea0f1c496a4baeda699fa3d1061fbbfa41cc930d80d2bcfff1"), looks := false }, kinds := [], alts := [], laidByText := true, laidKinds := [.data, .data], laidTests := true, laidLooks := .later }
def FnExactScaleRowsUptoCardSaid : Prop := Claim7.holds Tryd.pinned (.plain (OpenSpec.upto fnExactScaleRowsSpec)) fnExactScaleRowsUptoCard

/-- THE SECOND FORM's CARD OF 'laws.FnExactAheadRows'. -/
def fnExactAheadRowsUptoCard : Claim7 := { stood := { row := fnExactAheadRowsUptoRow, standIns := [], harness := (true, "4721bfe37863ceea0f1c496a4baeda699fa3d1061fbbfa41cc930d80d2bcfff1"), looks := false }, kinds := [], alts := [], laidByText := true, laidKinds := [.data, .data], laidTests := true, laidLooks := .later }
def FnExactAheadRowsUptoCardSaid : Prop := Claim7.holds Tryd.pinned (.plain (OpenSpec.upto fnExactAheadRowsSpec)) fnExactAheadRowsUptoCard

/-- THE SECOND FORM's CARD OF 'laws.FnExactBackRows'. -/
def fnExactBackRowsUptoCard : Claim7 := { stood := { row := fnExactBackRowsUptoRow, standIns := [], harness := (true, "4721bfe37863ceea0f1c496a4baeda699fa3d1061fbbfa41cc930d80d2bcfff1"), looks := false }, kinds := [], alts := [], laidByText := true, laidKinds := [.data, .data], laidTests := true, laidLooks := .later }
def FnExactBackRowsUptoCardSaid : Prop := Claim7.holds Tryd.pinned (.plain (OpenSpec.upto fnExactBackRowsSpec)) fnExactBackRowsUptoCard
end Rows
end Go.Proofs.YtpebikjckhcgfaaDoor
