/-
  DERIVED. GIVEN WITH THE SEED: THE CARDS: each row of YtplaaglckbfklaaDoorRows.lean that lists a variable, with what it lists TIED to the program's text (the seventh form; the later family's looks); each row that meets fmt, with fmt's text TOLD by the authors' own Lean function (tested against real Go, not proved from fmt's source: count such statements apart). THE CARD IS WHAT COUNTS. Prove the row's statement (the work); the ties are given (YtplaaglckbfklaaDoorTie.lean); close each card by the builder's one call (the guide's Derived/Test/ToyasCard.lean, 'card_holds'). Laid BY PROGRAM, IN A SANDBOX (cutbox-door.mjs). By AI agents, Wed Nov 11 2026. No macro, syntax, notation, axiom, sorry.
-/
import Derived.Test.YtplaaglckbfklaaDoorRows
import GoSem.ClaimSeven
namespace Go.Proofs.YtplaaglckbfklaaDoor
namespace Rows

/-- THE TIED CARD OF 'laws.FnWholes'. -/
def fnWholesCard : Claim7 := { stood := { row := fnWholesRow, standIns := [], harness := (true, "505ad23d18a4894de1c4cda25c94b9f41a5a37a73a85f034aaa2b2ca4db2673a"), looks := false }, kinds := [], alts := [], laidByText := true, laidKinds := [.data, .data, .data], laidTests := true, laidLooks := .later }
def FnWholesCardSaid : Prop := Claim7.holds Tryd.pinned (.plain (OpenSpec.ofChange fnWholesSpec)) fnWholesCard

/-- THE TIED CARD OF 'laws.FnTransforms'. -/
def fnTransformsCard : Claim7 := { stood := { row := fnTransformsRow, standIns := [], harness := (true, "505ad23d18a4894de1c4cda25c94b9f41a5a37a73a85f034aaa2b2ca4db2673a"), looks := false }, kinds := [], alts := [], laidByText := true, laidKinds := [.data, .data], laidTests := true, laidLooks := .later }
def FnTransformsCardSaid : Prop := Claim7.holds Tryd.pinned (.plain (OpenSpec.ofChange fnTransformsSpec)) fnTransformsCard

/-- THE TIED CARD OF 'laws.FnTurned'. -/
def fnTurnedCard : Claim7 := { stood := { row := fnTurnedRow, standIns := [], harness := (true, "505ad23d18a4894de1c4cda25c94b9f41a5a37a73a85f034aaa2b2ca4db2673a"), looks := false }, kinds := [], alts := [], laidByText := true, laidKinds := [.data, .data], laidTests := true, laidLooks := .later }
def FnTurnedCardSaid : Prop := Claim7.holds Tryd.pinned (.plain (OpenSpec.ofChange fnTurnedSpec)) fnTurnedCard

/-- THE TIED CARD OF 'laws.FnExactWholeText'. -/
def fnExactWholeTextCard : Claim7 := { stood := { row := fnExactWholeTextRow, standIns := [], harness := (true, "505ad23d18a4894de1c4cda25c94b9f41a5a37a73a85f034aaa2b2ca4db2673a"), looks := false }, kinds := [], alts := [], laidByText := true, laidKinds := [.data, .data, .data], laidTests := true, laidLooks := .later }
def FnExactWholeTextCardSaid : Prop := Claim7.holds Tryd.pinned (.plain (OpenSpec.ofChange fnExactWholeTextSpec)) fnExactWholeTextCard

/-- THE TIED CARD OF 'laws.FnExactForward'. -/
def fnExactForwardCard : Claim7 := { stood := { row := fnExactForwardRow, standIns := [], harness := (true, "505ad23d18a4894de1c4cda25c94b9f41a5a37a73a85f034aaa2b2ca4db2673a"), looks := false }, kinds := [], alts := [], laidByText := true, laidKinds := [.data, .data], laidTests := true, laidLooks := .later }
def FnExactForwardCardSaid : Prop := Claim7.holds Tryd.pinned (.plain (OpenSpec.ofChange fnExactForwardSpec)) fnExactForwardCard

/-- THE TIED CARD OF 'laws.FnExactInverse'. -/
def fnExactInverseCard : Claim7 := { stood := { row := fnExactInverseRow, standIns := [], harness := (true, "505ad23d18a4894de1c4cda25c94b9f41a5a37a73a85f034aaa2b2ca4db2673a"), looks := false }, kinds := [], alts := [], laidByText := true, laidKinds := [.data, .data], laidTests := true, laidLooks := .later }
def FnExactInverseCardSaid : Prop := Claim7.holds Tryd.pinned (.plain (OpenSpec.ofChange fnExactInverseSpec)) fnExactInverseCard

/-- THE TIED CARD OF 'laws.FnExactMulRing'. -/
def fnExactMulRingCard : Claim7 := { stood := { row := fnExactMulRingRow, standIns := [], harness := (true, "505ad23d18a4894de1c4cda25c94b9f41a5a37a73a85f034aaa2b2ca4db2673a"), looks := false }, kinds := [], alts := [], laidByText := true, laidKinds := [.data, .data], laidTests := true, laidLooks := .later }
def FnExactMulRingCardSaid : Prop := Claim7.holds Tryd.pinned (.plain (OpenSpec.ofChange fnExactMulRingSpec)) fnExactMulRingCard

/-- THE TIED CARD OF 'laws.FnExactGoodBasis'. -/
def fnExactGoodBasisCard : Claim7 := { stood := { row := fnExactGoodBasisRow, standIns := [], harness := (true, "505ad23d18a4894de1c4cda25c94b9f41a5a37a73a85f034aaa2b2ca4db2673a"), looks := false }, kinds := [], alts := [], laidByText := true, laidKinds := [.data, .data], laidTests := true, laidLooks := .later }
def FnExactGoodBasisCardSaid : Prop := Claim7.holds Tryd.pinned (.plain (OpenSpec.ofChange fnExactGoodBasisSpec)) fnExactGoodBasisCard

/-- THE TIED CARD OF 'laws.FnExactProductOf'. -/
def fnExactProductOfCard : Claim7 := { stood := { row := fnExactProductOfRow, standIns := [], harness := (true, "505ad23d18a4894de1c4cda25c94b9f41a5a37a73a85f034aaa2b2ca4db2673a"), looks := false }, kinds := [], alts := [], laidByText := true, laidKinds := [.data, .data], laidTests := true, laidLooks := .later }
def FnExactProductOfCardSaid : Prop := Claim7.holds Tryd.pinned (.plain (OpenSpec.ofChange fnExactProductOfSpec)) fnExactProductOfCard

/-- THE TIED CARD OF 'laws.FnExactResiduesOf'. -/
def fnExactResiduesOfCard : Claim7 := { stood := { row := fnExactResiduesOfRow, standIns := [], harness := (true, "505ad23d18a4894de1c4cda25c94b9f41a5a37a73a85f034aaa2b2ca4db2673a"), looks := false }, kinds := [], alts := [], laidByText := true, laidKinds := [.data, .data], laidTests := true, laidLooks := .later }
def FnExactResiduesOfCardSaid : Prop := Claim7.holds Tryd.pinned (.plain (OpenSpec.ofChange fnExactResiduesOfSpec)) fnExactResiduesOfCard

/-- THE TIED CARD OF 'laws.FnExactComposeWhole'. -/
def fnExactComposeWholeCard : Claim7 := { stood := { row := fnExactComposeWholeRow, standIns := [], harness := (true, "505ad23d18a4894de1c4cda25c94b9f41a5a37a73a85f034aaa2b2ca4db2673a"), looks := false }, kinds := [], alts := [], laidByText := true, laidKinds := [.data, .data], laidTests := true, laidLooks := .later }
def FnExactComposeWholeCardSaid : Prop := Claim7.holds Tryd.pinned (.plain (OpenSpec.ofChange fnExactComposeWholeSpec)) fnExactComposeWholeCard

/-- THE TIED CARD OF 'laws.FnExactCentredWhole'. -/
def fnExactCentredWholeCard : Claim7 := { stood := { row := fnExactCentredWholeRow, standIns := [], harness := (true, "505ad23d18a4894de1c4cda25c94b9f41a5a37a73a85f034aaa2b2ca4db2673a"), looks := false }, kinds := [], alts := [], laidByText := true, laidKinds := [.data, .data], laidTests := true, laidLooks := .later }
def FnExactCentredWholeCardSaid : Prop := Claim7.holds Tryd.pinned (.plain (OpenSpec.ofChange fnExactCentredWholeSpec)) fnExactCentredWholeCard

/-- THE TIED CARD OF 'laws.FnExactPuncturedOf'. -/
def fnExactPuncturedOfCard : Claim7 := { stood := { row := fnExactPuncturedOfRow, standIns := [], harness := (true, "505ad23d18a4894de1c4cda25c94b9f41a5a37a73a85f034aaa2b2ca4db2673a"), looks := false }, kinds := [], alts := [], laidByText := true, laidKinds := [.data, .data], laidTests := true, laidLooks := .later }
def FnExactPuncturedOfCardSaid : Prop := Claim7.holds Tryd.pinned (.plain (OpenSpec.ofChange fnExactPuncturedOfSpec)) fnExactPuncturedOfCard

/-- THE TIED CARD OF 'laws.FnExactInversesOf'. -/
def fnExactInversesOfCard : Claim7 := { stood := { row := fnExactInversesOfRow, standIns := [], harness := (true, "505ad23d18a4894de1c4cda25c94b9f41a5a37a73a85f034aaa2b2ca4db2673a"), looks := false }, kinds := [], alts := [], laidByText := true, laidKinds := [.data, .data], laidTests := true, laidLooks := .later }
def FnExactInversesOfCardSaid : Prop := Claim7.holds Tryd.pinned (.plain (OpenSpec.ofChange fnExactInversesOfSpec)) fnExactInversesOfCard

/-- THE SECOND FORM's CARD OF 'laws.FnWholes'. -/
def fnWholesUptoCard : Claim7 := { stood := { row := fnWholesUptoRow, standIns := [], harness := (true, "505ad23d18a4894de1c4cda25c94b9f41a5a37a73a85f034aaa2b2ca4db2673a"), looks := false }, kinds := [], alts := [], laidByText := true, laidKinds := [.data, .data, .data], laidTests := true, laidLooks := .later }
def FnWholesUptoCardSaid : Prop := Claim7.holds Tryd.pinned (.plain (OpenSpec.upto fnWholesSpec)) fnWholesUptoCard

/-- THE SECOND FORM's CARD OF 'laws.FnTransforms'. -/
def fnTransformsUptoCard : Claim7 := { stood := { row := fnTransformsUptoRow, standIns := [], harness := (true, "505ad23d18a4894de1c4cda25c94b9f41a5a37a73a85f034aaa2b2ca4db2673a"), looks := false }, kinds := [], alts := [], laidByText := true, laidKinds := [.data, .data], laidTests := true, laidLooks := .later }
def FnTransformsUptoCardSaid : Prop := Claim7.holds Tryd.pinned (.plain (OpenSpec.upto fnTransformsSpec)) fnTransformsUptoCard

/-- THE SECOND FORM's CARD OF 'laws.FnTurned'. -/
def fnTurnedUptoCard : Claim7 := { stood := { row := fnTurnedUptoRow, standIns := [], harness := (true, "505ad23d18a4894de1c4cda25c94b9f41a5a37a73a85f034aaa2b2ca4db2673a"), looks := false }, kinds := [], alts := [], laidByText := true, laidKinds := [.data, .data], laidTests := true, laidLooks := .later }
def FnTurnedUptoCardSaid : Prop := Claim7.holds Tryd.pinned (.plain (OpenSpec.upto fnTurnedSpec)) fnTurnedUptoCard

/-- THE SECOND FORM's CARD OF 'laws.FnExactWholeText'. -/
def fnExactWholeTextUptoCard : Claim7 := { stood := { row := fnExactWholeTextUptoRow, standIns := [], harness := (true, "505ad23d18a4894de1c4cda25c94b9f41a5a37a73a85f034aaa2b2ca4db2673a"), looks := false }, kinds := [], alts := [], laidByText := true, laidKinds := [.data, .data, .data], laidTests := true, laidLooks := .later }
def FnExactWholeTextUptoCardSaid : Prop := Claim7.holds Tryd.pinned (.plain (OpenSpec.upto fnExactWholeTextSpec)) fnExactWholeTextUptoCard

/-- THE SECOND FORM's CARD OF 'laws.FnExactForward'. -/
def fnExactForwardUptoCard : Claim7 := { stood := { row := fnExactForwardUptoRow, standIns := [], harness := (true, "505ad23d18a4894de1c4cda25c94b9f41a5a37a73a85f034aaa2b2ca4db2673a"), looks := false }, kinds := [], alts := [], laidByText := true, laidKinds := [.data, .data], laidTests := true, laidLooks := .later }
def FnExactForwardUptoCardSaid : Prop := Claim7.holds Tryd.pinned (.plain (OpenSpec.upto fnExactForwardSpec)) fnExactForwardUptoCard

/-- THE SECOND FORM's CARD OF 'laws.FnExactInverse'. -/
def fnExactInverseUptoCard : Claim7 := { stood := { row := fnExactInverseUptoRow, standIns := [], harness := (true, "505ad23d18a4894de1c4cda25c94b9f41a5a37a73a85f034aaa2b2ca4db2673a"), looks := false }, kinds := [], alts := [], laidByText := true, laidKinds := [.data, .data], laidTests := true, laidLooks := .later }
def FnExactInverseUptoCardSaid : Prop := Claim7.holds Tryd.pinned (.plain (OpenSpec.upto fnExactInverseSpec)) fnExactInverseUptoCard

/-- THE SECOND FORM's CARD OF 'laws.FnExactMulRing'. -/
def fnExactMulRingUptoCard : Claim7 := { stood := { row := fnExactMulRingUptoRow, standIns := [], harness := (true, "505ad23d18a4894de1c4cda25c94b9f41a5a37a73a85f034aaa2b2ca4db2673a"), looks := false }, kinds := [], alts := [], laidByText := true, laidKinds := [.data, .data], laidTests := true, laidLooks := .later }
def FnExactMulRingUptoCardSaid : Prop := Claim7.holds Tryd.pinned (.plain (OpenSpec.upto fnExactMulRingSpec)) fnExactMulRingUptoCard

/-- THE SECOND FORM's CARD OF 'laws.FnExactGoodBasis'. -/
def fnExactGoodBasisUptoCard : Claim7 := { stood := { row := fnExactGoodBasisUptoRow, standIns := [], harness := (true, "505ad23d18a4894de1c4cda25c94b9f41a5a37a73a85f034aaa2b2ca4db2673a"), looks := false }, kinds := [], alts := [], laidByText := true, laidKinds := [.data, .data], laidTests := true, laidLooks := .later }
def FnExactGoodBasisUptoCardSaid : Prop := Claim7.holds Tryd.pinned (.plain (OpenSpec.upto fnExactGoodBasisSpec)) fnExactGoodBasisUptoCard

/-- THE SECOND FORM's CARD OF 'laws.FnExactProductOf'. -/
def fnExactProductOfUptoCard : Claim7 := { stood := { row := fnExactProductOfUptoRow, standIns := [], harness := (true, "505ad23d18a4894de1c4cda25c94b9f41a5a37a73a85f034aaa2b2ca4db2673a"), looks := false }, kinds := [], alts := [], laidByText := true, laidKinds := [.data, .data], laidTests := true, laidLooks := .later }
def FnExactProductOfUptoCardSaid : Prop := Claim7.holds Tryd.pinned (.plain (OpenSpec.upto fnExactProductOfSpec)) fnExactProductOfUptoCard

/-- THE SECOND FORM's CARD OF 'laws.FnExactResiduesOf'. -/
def fnExactResiduesOfUptoCard : Claim7 := { stood := { row := fnExactResiduesOfUptoRow, standIns := [], harness := (true, "505ad23d18a4894de1c4cda25c94b9f41a5a37a73a85f034aaa2b2ca4db2673a"), looks := false }, kinds := [], alts := [], laidByText := true, laidKinds := [.data, .data], laidTests := true, laidLooks := .later }
def FnExactResiduesOfUptoCardSaid : Prop := Claim7.holds Tryd.pinned (.plain (OpenSpec.upto fnExactResiduesOfSpec)) fnExactResiduesOfUptoCard

/-- THE SECOND FORM's CARD OF 'laws.FnExactComposeWhole'. -/
def fnExactComposeWholeUptoCard : Claim7 := { stood := { row := fnExactComposeWholeUptoRow, standIns := [], harness := (true, "505ad23d18a4894de1c4cda25c94b9f41a5a37a73a85f034aaa2b2ca4db2673a"), looks := false }, kinds := [], alts := [], laidByText := true, laidKinds := [.data, .data], laidTests := true, laidLooks := .later }
def FnExactComposeWholeUptoCardSaid : Prop := Claim7.holds Tryd.pinned (.plain (OpenSpec.upto fnExactComposeWholeSpec)) fnExactComposeWholeUptoCard

/-- THE SECOND FORM's CARD OF 'laws.FnExactCentredWhole'. -/
def fnExactCentredWholeUptoCard : Claim7 := { stood := { row := fnExactCentredWholeUptoRow, standIns := [], harness := (true, "505ad23d18a4894de1c4cda25c94b9f41a5a37a73a85f034aaa2b2ca4db2673a"), looks := false }, kinds := [], alts := [], laidByText := true, laidKinds := [.data, .data], laidTests := true, laidLooks := .later }
def FnExactCentredWholeUptoCardSaid : Prop := Claim7.holds Tryd.pinned (.plain (OpenSpec.upto fnExactCentredWholeSpec)) fnExactCentredWholeUptoCard

/-- THE SECOND FORM's CARD OF 'laws.FnExactPuncturedOf'. -/
def fnExactPuncturedOfUptoCard : Claim7 := { stood := { row := fnExactPuncturedOfUptoRow, standIns := [], harness := (true, "505ad23d18a4894de1c4cda25c94b9f41a5a37a73a85f034aaa2b2ca4db2673a"), looks := false }, kinds := [], alts := [], laidByText := true, laidKinds := [.data, .data], laidTests := true, laidLooks := .later }
def FnExactPuncturedOfUptoCardSaid : Prop := Claim7.holds Tryd.pinned (.plain (OpenSpec.upto fnExactPuncturedOfSpec)) fnExactPuncturedOfUptoCard

/-- THE SECOND FORM's CARD OF 'laws.FnExactInversesOf'. -/
def fnExactInversesOfUptoCard : Claim7 := { stood := { row := fnExactInversesOfUptoRow, standIns := [], harness := (true, "505ad23d18a4894de1c4cda25c94b9f41a5a37a73a85f034aaa2b2ca4db2673a"), looks := false }, kinds := [], alts := [], laidByText := true, laidKinds := [.data, .data], laidTests := true, laidLooks := .later }
def FnExactInversesOfUptoCardSaid : Prop := Claim7.holds Tryd.pinned (.plain (OpenSpec.upto fnExactInversesOfSpec)) fnExactInversesOfUptoCard
end Rows
end Go.Proofs.YtplaaglckbfklaaDoor
