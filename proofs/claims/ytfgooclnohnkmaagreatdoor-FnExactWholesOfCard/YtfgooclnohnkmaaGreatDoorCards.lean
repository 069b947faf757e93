/-
  DERIVED. GIVEN WITH THE SEED: THE CARDS: each row of YtfgooclnohnkmaaGreatDoorRows.lean that lists a variable, with what it lists TIED to the program's text (the seventh form; the later family's looks); each row that meets fmt, with fmt's text TOLD by the authors' own Lean function (tested against real Go, not proved from fmt's source: count such statements apart). THE CARD IS WHAT COUNTS. Prove the row's statement (the work); the ties are given (YtfgooclnohnkmaaGreatDoorTie.lean); close each card by the builder's one call (the guide's Derived/Test/ToyasCard.lean, 'card_holds'). Laid BY PROGRAM, IN A SANDBOX (cutbox-door.mjs). By AI agents, Wed Nov 11 2026. No macro, syntax, notation, axiom, sorry.
-/
import Derived.Test.YtfgooclnohnkmaaGreatDoorRows
import GoSem.ClaimSeven
namespace Go.Proofs.YtfgooclnohnkmaaGreatDoor
namespace Rows

/-- THE TIED CARD OF 'laws.FnComposed'. -/
def fnComposedCard : Claim7 := { stood := { row := fnComposedRow, standIns := [], harness := (true, "15d683c3a28db3cd8e74f88fb45b499782c70095a6f168239549ffef9f97c077"), looks := false }, kinds := [], alts := [], laidByText := true, laidKinds := [.data, .data], laidTests := true, laidLooks := .later }
def FnComposedCardSaid : Prop := Claim7.holds Tryz.pinned (.plain (OpenSpec.ofChange fnComposedSpec)) fnComposedCard

/-- THE TIED CARD OF 'laws.FnFast'. -/
def fnFastCard : Claim7 := { stood := { row := fnFastRow, standIns := [], harness := (true, "15d683c3a28db3cd8e74f88fb45b499782c70095a6f168239549ffef9f97c077"), looks := false }, kinds := [], alts := [], laidByText := true, laidKinds := [.data, .data], laidTests := true, laidLooks := .later }
def FnFastCardSaid : Prop := Claim7.holds Tryz.pinned (.plain (OpenSpec.ofChange fnFastSpec)) fnFastCard

/-- THE TIED CARD OF 'laws.FnExactWholesOf'. -/
def fnExactWholesOfCard : Claim7 := { stood := { row := fnExactWholesOfRow, standIns := [], harness := (true, "15d683c3a28db3cd8e74f88fb45b499782c70095a6f168239549ffef9f97c077"), looks := false }, kinds := [], alts := [], laidByText := true, laidKinds := [.data, .data], laidTests := true, laidLooks := .later }
def FnExactWholesOfCardSaid : Prop := Claim7.holds Tryz.pinned (.plain (OpenSpec.ofChange fnExactWholesOfSpec)) fnExactWholesOfCard

/-- THE TIED CARD OF 'laws.FnExactNoiseInPair'. -/
def fnExactNoiseInPairCard : Claim7 := { stood := { row := fnExactNoiseInPairRow, standIns := [], harness := (true, "15d683c3a28db3cd8e74f88fb45b499782c70095a6f168239549ffef9f97c077"), looks := false }, kinds := [], alts := [], laidByText := true, laidKinds := [.data, .data], laidTests := true, laidLooks := .later }
def FnExactNoiseInPairCardSaid : Prop := Claim7.holds Tryz.pinned (.plain (OpenSpec.ofChange fnExactNoiseInPairSpec)) fnExactNoiseInPairCard

/-- THE SECOND FORM's CARD OF 'laws.FnComposed'. -/
def fnComposedUptoCard : Claim7 := { stood := { row := fnComposedUptoRow, standIns := [], harness := (true, "15d683c3a28db3cd8e74f88fb45b499782c70095a6f168239549ffef9f97c077"), looks := false }, kinds := [], alts := [], laidByText := true, laidKinds := [.data, .data], laidTests := true, laidLooks := .later }
def FnComposedUptoCardSaid : Prop := Claim7.holds Tryz.pinned (.plain (OpenSpec.upto fnComposedSpec)) fnComposedUptoCard

/-- THE SECOND FORM's CARD OF 'laws.FnFast'. -/
def fnFastUptoCard : Claim7 := { stood := { row := fnFastUptoRow, standIns := [], harness := (true, "15d683c3a28db3cd8e74f88fb45b499782c70095a6f168239549ffef9f97c077"), looks := false }, kinds := [], alts := [], laidByText := true, laidKinds := [.data, .data], laidTests := true, laidLooks := .later }
def FnFastUptoCardSaid : Prop := Claim7.holds Tryz.pinned (.plain (OpenSpec.upto fnFastSpec)) fnFastUptoCard

/-- THE SECOND FORM's CARD OF 'laws.FnExactWholesOf'. -/
def fnExactWholesOfUptoCard : Claim7 := { stood := { row := fnExactWholesOfUptoRow, standIns := [], harness := (true, "15d683c3a28db3cd8e74f88fb45b499782c70095a6f168239549ffef9f97c077"), looks := false }, kinds := [], alts := [], laidByText := true, laidKinds := [.data, .data], laidTests := true, laidLooks := .later }
def FnExactWholesOfUptoCardSaid : Prop := Claim7.holds Tryz.pinned (.plain (OpenSpec.upto fnExactWholesOfSpec)) fnExactWholesOfUptoCard

/-- THE SECOND FORM's CARD OF 'laws.FnExactNoiseInPair'. -/
def fnExactNoiseInPairUptoCard : Claim7 := { stood := { row := fnExactNoiseInPairUptoRow, standIns := [], harness := (true, "15d683c3a28db3cd8e74f88fb45b499782c70095a6f168239549ffef9f97c077"), looks := false }, kinds := [], alts := [], laidByText := true, laidKinds := [.data, .data], laidTests := true, laidLooks := .later }
def FnExactNoiseInPairUptoCardSaid : Prop := Claim7.holds Tryz.pinned (.plain (OpenSpec.upto fnExactNoiseInPairSpec)) fnExactNoiseInPairUptoCard
end Rows
end Go.Proofs.YtfgooclnohnkmaaGreatDoor
