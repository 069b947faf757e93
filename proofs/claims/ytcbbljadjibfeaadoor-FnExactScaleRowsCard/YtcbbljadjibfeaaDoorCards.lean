/-
  DERIVED. GIVEN WITH THE SEED: THE CARDS: each row of YtcbbljadjibfeaaDoorRows.lean that lists a variable, with what it lists TIED to the program's text (the seventh form; the later family's looks); each row that meets fmt, with fmt's text TOLD by the authors' own Lean function (tested against real Go, not proved from fmt's source: count such statements apart). THE CARD IS WHAT COUNTS. Prove the row's statement (the work); the ties are given (YtcbbljadjibfeaaDoorTie.lean); close each card by the builder's one call (the guide's Derived/Test/ToyasCard.lean, 'card_holds'). Laid BY PROGRAM, IN A SANDBOX (cutbox-door.mjs). By AI agents, Wed Nov 11 2026. No macro, syntax, notation, axiom, sorry.
-/
import Derived.Test.YtcbbljadjibfeaaDoorRows
import GoSem.ClaimSeven
namespace Go.Proofs.YtcbbljadjibfeaaDoor
namespace Rows

/-- THE TIED CARD OF 'laws.FnExactCentredWhole'. -/
def fnExactCentredWholeCard : Claim7 := { stood := { row := fnExactCentredWholeRow, standIns := [], harness := (true, "e2a7871879933bc5f4820159651876db9527f67c4325ff713ebb45e14fa62537"), looks := false }, kinds := [], alts := [], laidByText := true, laidKinds := [.data, .data], laidTests := true, laidLooks := .later }
def FnExactCentredWholeCardSaid : Prop := Claim7.holds Tryd.pinned (.plain (OpenSpec.ofChange fnExactCentredWholeSpec)) fnExactCentredWholeCard

/-- THE TIED CARD OF 'laws.FnExactPuncturedOf'. -/
def fnExactPuncturedOfCard : Claim7 := { stood := { row := fnExactPuncturedOfRow, standIns := [], harness := (true, "e2a7871879933bc5f4820159651876db9527f67c4325ff713ebb45e14fa62537"), looks := false }, kinds := [], alts := [], laidByText := true, laidKinds := [.data, .data], laidTests := true, laidLooks := .later }
def FnExactPuncturedOfCardSaid : Prop := Claim7.holds Tryd.pinned (.plain (OpenSpec.ofChange fnExactPuncturedOfSpec)) fnExactPuncturedOfCard

/-- THE TIED CARD OF 'laws.FnExactGoodSpace'. -/
def fnExactGoodSpaceCard : Claim7 := { stood := { row := fnExactGoodSpaceRow, standIns := [], harness := (true, "e2a7871879933bc5f4820159651876db9527f67c4325ff713ebb45e14fa62537"), looks := false }, kinds := [], alts := [], laidByText := true, laidKinds := [.data, .data], laidTests := true, laidLooks := .later }
def FnExactGoodSpaceCardSaid : Prop := Claim7.holds Tryd.pinned (.plain (OpenSpec.ofChange fnExactGoodSpaceSpec)) fnExactGoodSpaceCard

/-- THE TIED CARD OF 'laws.FnExactGoodRows'. -/
def fnExactGoodRowsCard : Claim7 := { stood := { row := fnExactGoodRowsRow, standIns := [], harness := (true, "e2a7871879933bc5f4820159651876db9527f67c4325ff713ebb45e14fa62537"), looks := false }, kinds := [], alts := [], laidByText := true, laidKinds := [.data, .data], laidTests := true, laidLooks := .later }
def FnExactGoodRowsCardSaid : Prop := Claim7.holds Tryd.pinned (.plain (OpenSpec.ofChange fnExactGoodRowsSpec)) fnExactGoodRowsCard

/-- THE TIED CARD OF 'laws.FnExactRowsOf'. -/
def fnExactRowsOfCard : Claim7 := { stood := { row := fnExactRowsOfRow, standIns := [], harness := (true, "e2a7871879933bc5f4820159651876db9527f67c4325ff713ebb45e14fa62537"), looks := false }, kinds := [], alts := [], laidByText := true, laidKinds := [.data, .data], laidTests := true, laidLooks := .later }
def FnExactRowsOfCardSaid : Prop := Claim7.holds Tryd.pinned (.plain (OpenSpec.ofChange fnExactRowsOfSpec)) fnExactRowsOfCard

/-- THE TIED CARD OF 'laws.FnExactAddRows'. -/
def fnExactAddRowsCard : Claim7 := { stood := { row := fnExactAddRowsRow, standIns := [], harness := (true, "e2a7871879933bc5f4820159651876db9527f67c4325ff713ebb45e14fa62537"), looks := false }, kinds := [], alts := [], laidByText := true, laidKinds := [.data, .data], laidTests := true, laidLooks := .later }
def FnExactAddRowsCardSaid : Prop := Claim7.holds Tryd.pinned (.plain (OpenSpec.ofChange fnExactAddRowsSpec)) fnExactAddRowsCard

/-- THE TIED CARD OF 'laws.FnExactSubRows'. -/
def fnExactSubRowsCard : Claim7 := { stood := { row := fnExactSubRowsRow, standIns := [], harness := (true, "e2a7871879933bc5f4820159651876db9527f67c4325ff713ebb45e14fa62537"), looks := false }, kinds := [], alts := [], laidByText := true, laidKinds := [.data, .data], laidTests := true, laidLooks := .later }
def FnExactSubRowsCardSaid : Prop := Claim7.holds Tryd.pinned (.plain (OpenSpec.ofChange fnExactSubRowsSpec)) fnExactSubRowsCard

/-- THE TIED CARD OF 'laws.FnExactScaleRows'. -/
def fnExactScaleRowsCard : Claim7 := { stood := { row := fnExactScaleRowsRow, standIns := [], harness := (true, "e2a7871879933bc5f4820159651876db9527f67c4325ff713ebb45e14fa62537"), looks := false }, kinds := [], alts := [], laidByText := true, laidKinds := [.data, .data], laidTests := true, laidLooks := .later }
def FnExactScaleRowsCardSaid : Prop := Claim7.holds Tryd.pinned (.plain (OpenSpec.ofChange fnExactScaleRowsSpec)) fnExactScaleRowsCard

/-- THE SECOND FORM's CARD OF 'laws.FnExactCentredWhole'. -/
def fnExactCentredWholeUptoCard : Claim7 := { stood := { row := fnExactCentredWholeUptoRow, standIns := [], harness := (true, "e2a7871879933bc5f4820159651876db9527f67c4325ff713ebb45e14fa62537"), looks := false }, kinds := [], alts := [], laidByText := true, laidKinds := [.data, .data], laidTests := true, laidLooks := .later }
def FnExactCentredWholeUptoCardSaid : Prop := Claim7.holds Tryd.pinned (.plain (OpenSpec.upto fnExactCentredWholeSpec)) fnExactCentredWholeUptoCard

/-- THE SECOND FORM's CARD OF 'laws.FnExactPuncturedOf'. -/
def fnExactPuncturedOfUptoCard : Claim7 := { stood := { row := fnExactPuncturedOfUptoRow, standIns := [], harness := (true, "e2a7871879933bc5f4820159651876db9527f67c4325ff713ebb45e14fa62537"), looks := false }, kinds := [], alts := [], laidByText := true, laidKinds := [.data, .data], laidTests := true, laidLooks := .later }
def FnExactPuncturedOfUptoCardSaid : Prop := Claim7.holds Tryd.pinned (.plain (OpenSpec.upto fnExactPuncturedOfSpec)) fnExactPuncturedOfUptoCard

/-- THE SECOND FORM's CARD OF 'laws.FnExactGoodSpace'. -/
def fnExactGoodSpaceUptoCard : Claim7 := { stood := { row := fnExactGoodSpaceUptoRow, standIns := [], harness := (true, "e2a7871879933bc5f4820159651876db9527f67c4325ff713ebb45e14fa62537"), looks := false }, kinds := [], alts := [], laidByText := true, laidKinds := [.data, .data], laidTests := true, laidLooks := .later }
def FnExactGoodSpaceUptoCardSaid : Prop := Claim7.holds Tryd.pinned (.plain (OpenSpec.upto fnExactGoodSpaceSpec)) fnExactGoodSpaceUptoCard

/-- THE SECOND FORM's CARD OF 'laws.FnExactGoodRows'. -/
def fnExactGoodRowsUptoCard : Claim7 := { stood := { row := fnExactGoodRowsUptoRow, standIns := [], harness := (true, "e2a7871879933bc5f4820159651876db9527f67c4325ff713ebb45e14fa62537"), looks := false }, kinds := [], alts := [], laidByText := true, laidKinds := [.data, .data], laidTests := true, laidLooks := .later }
def FnExactGoodRowsUptoCardSaid : Prop := Claim7.holds Tryd.pinned (.plain (OpenSpec.upto fnExactGoodRowsSpec)) fnExactGoodRowsUptoCard

/-- THE SECOND FORM's CARD OF 'laws.FnExactRowsOf'. -/
def fnExactRowsOfUptoCard : Claim7 := { stood := { row := fnExactRowsOfUptoRow, standIns := [], harness := (true, "e2a7871879933bc5f4820159651876db9527f67c4325ff713ebb45e14fa62537"), looks := false }, kinds := [], alts := [], laidByText := true, laidKinds := [.data, .data], laidTests := true, laidLooks := .later }
def FnExactRowsOfUptoCardSaid : Prop := Claim7.holds Tryd.pinned (.plain (OpenSpec.upto fnExactRowsOfSpec)) fnExactRowsOfUptoCard

/-- THE SECOND FORM's CARD OF 'laws.FnExactAddRows'. -/
def fnExactAddRowsUptoCard : Claim7 := { stood := { row := fnExactAddRowsUptoRow, standIns := [], harness := (true, "e2a7871879933bc5f4820159651876db9527f67c4325ff713ebb45e14fa62537"), looks := false }, kinds := [], alts := [], laidByText := true, laidKinds := [.data, .data], laidTests := true, laidLooks := .later }
def FnExactAddRowsUptoCardSaid : Prop := Claim7.holds Tryd.pinned (.plain (OpenSpec.upto fnExactAddRowsSpec)) fnExactAddRowsUptoCard

/-- THE SECOND FORM's CARD OF 'laws.FnExactSubRows'. -/
def fnExactSubRowsUptoCard : Claim7 := { stood := { row := fnExactSubRowsUptoRow, standIns := [], harness := (true, "e2a7871879933bc5f4820159651876db9527f67c4325ff713ebb45e14fa62537"), looks := false }, kinds := [], alts := [], laidByText := true, laidKinds := [.data, .data], laidTests := true, laidLooks := .later }
def FnExactSubRowsUptoCardSaid : Prop := Claim7.holds Tryd.pinned (.plain (OpenSpec.upto fnExactSubRowsSpec)) fnExactSubRowsUptoCard

/-- THE SECOND FORM's CARD OF 'laws.FnExactScaleRows'. -/
def fnExactScaleRowsUptoCard : Claim7 := { stood := { row := fnExactScaleRowsUptoRow, standIns := [], harness := (true, "e2a7871879933bc5f4820159651876db9527f67c4325ff713ebb45e14fa62537"), looks := false }, kinds := [], alts := [], laidByText := true, laidKinds := [.data, .data], laidTests := true, laidLooks := .later }
def FnExactScaleRowsUptoCardSaid : Prop := Claim7.holds Tryd.pinned (.plain (OpenSpec.upto fnExactScaleRowsSpec)) fnExactScaleRowsUptoCard
end Rows
end Go.Proofs.YtcbbljadjibfeaaDoor
