/-
  DERIVED. GIVEN WITH THE SEED: THE CARDS: each row of YtcnkanjkdkjceaaDoorRows.lean that lists a variable, with what it lists TIED to the program's text (the seventh form; the later family's looks); each row that meets fmt, with fmt's text TOLD by the authors' own Lean function (tested against real Go, not proved from fmt's source: count such statements apart). THE CARD IS WHAT COUNTS. Prove the row's statement (the work); the ties are given (YtcnkanjkdkjceaaDoorTie.lean); close each card by the builder's one call (the guide's Derived/Test/ToyasCard.lean, 'card_holds'). Laid BY PROGRAM, IN A SANDBOX (cutbox-door.mjs). By AI agents, Wed Nov 11 2026. No macro, syntax, notation, axiom, sorry.
-/
import Derived.Test.YtcnkanjkdkjceaaDoorRows
import GoSem.ClaimSeven
namespace Go.Proofs.YtcnkanjkdkjceaaDoor
namespace Rows

/-- THE TIED CARD OF 'laws.FnTransforms'. -/
def fnTransformsCard : Claim7 := { stood := { row := fnTransformsRow, standIns := [], harness := (true, "623ae252c9f1c50a03a987a029ae0a8a52bb6dfd2bd42880f1730e0fd07a12ee"), looks := false }, kinds := [], alts := [], laidByText := true, laidKinds := [.data, .data], laidTests := true, laidLooks := .later }
def FnTransformsCardSaid : Prop := Claim7.holds Tryd.pinned (.plain (OpenSpec.ofChange fnTransformsSpec)) fnTransformsCard

/-- THE TIED CARD OF 'laws.FnTurned'. -/
def fnTurnedCard : Claim7 := { stood := { row := fnTurnedRow, standIns := [], harness := (true, "623ae252c9f1c50a03a987a029ae0a8a52bb6dfd2bd42880f1730e0fd07a12ee"), looks := false }, kinds := [], alts := [], laidByText := true, laidKinds := [.data, .data], laidTests := true, laidLooks := .later }
def FnTurnedCardSaid : Prop := Claim7.holds Tryd.pinned (.plain (OpenSpec.ofChange fnTurnedSpec)) fnTurnedCard

/-- THE TIED CARD OF 'laws.FnExactRingOf'. -/
def fnExactRingOfCard : Claim7 := { stood := { row := fnExactRingOfRow, standIns := [], harness := (true, "623ae252c9f1c50a03a987a029ae0a8a52bb6dfd2bd42880f1730e0fd07a12ee"), looks := false }, kinds := [], alts := [], laidByText := true, laidKinds := [.data, .data], laidTests := true, laidLooks := .later }
def FnExactRingOfCardSaid : Prop := Claim7.holds Tryd.pinned (.plain (OpenSpec.ofChange fnExactRingOfSpec)) fnExactRingOfCard

/-- THE TIED CARD OF 'laws.FnExactForward'. -/
def fnExactForwardCard : Claim7 := { stood := { row := fnExactForwardRow, standIns := [], harness := (true, "623ae252c9f1c50a03a987a029ae0a8a52bb6dfd2bd42880f1730e0fd07a12ee"), looks := false }, kinds := [], alts := [], laidByText := true, laidKinds := [.data, .data], laidTests := true, laidLooks := .later }
def FnExactForwardCardSaid : Prop := Claim7.holds Tryd.pinned (.plain (OpenSpec.ofChange fnExactForwardSpec)) fnExactForwardCard

/-- THE TIED CARD OF 'laws.FnExactInverse'. -/
def fnExactInverseCard : Claim7 := { stood := { row := fnExactInverseRow, standIns := [], harness := (true, "623ae252c9f1c50a03a987a029ae0a8a52bb6dfd2bd42880f1730e0fd07a12ee"), looks := false }, kinds := [], alts := [], laidByText := true, laidKinds := [.data, .data], laidTests := true, laidLooks := .later }
def FnExactInverseCardSaid : Prop := Claim7.holds Tryd.pinned (.plain (OpenSpec.ofChange fnExactInverseSpec)) fnExactInverseCard

/-- THE TIED CARD OF 'laws.FnExactMulRing'. -/
def fnExactMulRingCard : Claim7 := { stood := { row := fnExactMulRingRow, standIns := [], harness := (true, "623ae252c9f1c50a03a987a029ae0a8a52bb6dfd2bd42880f1730e0fd07a12ee"), looks := false }, kinds := [], alts := [], laidByText := true, laidKinds := [.data, .data], laidTests := true, laidLooks := .later }
def FnExactMulRingCardSaid : Prop := Claim7.holds Tryd.pinned (.plain (OpenSpec.ofChange fnExactMulRingSpec)) fnExactMulRingCard

/-- THE TIED CARD OF 'laws.FnExactMulEach'. -/
def fnExactMulEachCard : Claim7 := { stood := { row := fnExactMulEachRow, standIns := [], harness := (true, "623ae252c9f1c50a03a987a029ae0a8a52bb6dfd2bd42880f1730e0fd07a12ee"), looks := false }, kinds := [], alts := [], laidByText := true, laidKinds := [.data, .data], laidTests := true, laidLooks := .later }
def FnExactMulEachCardSaid : Prop := Claim7.holds Tryd.pinned (.plain (OpenSpec.ofChange fnExactMulEachSpec)) fnExactMulEachCard

/-- THE TIED CARD OF 'laws.FnExactTurnRing'. -/
def fnExactTurnRingCard : Claim7 := { stood := { row := fnExactTurnRingRow, standIns := [], harness := (true, "623ae252c9f1c50a03a987a029ae0a8a52bb6dfd2bd42880f1730e0fd07a12ee"), looks := false }, kinds := [], alts := [], laidByText := true, laidKinds := [.data, .data], laidTests := true, laidLooks := .later }
def FnExactTurnRingCardSaid : Prop := Claim7.holds Tryd.pinned (.plain (OpenSpec.ofChange fnExactTurnRingSpec)) fnExactTurnRingCard

/-- THE TIED CARD OF 'laws.FnExactTurnTable'. -/
def fnExactTurnTableCard : Claim7 := { stood := { row := fnExactTurnTableRow, standIns := [], harness := (true, "623ae252c9f1c50a03a987a029ae0a8a52bb6dfd2bd42880f1730e0fd07a12ee"), looks := false }, kinds := [], alts := [], laidByText := true, laidKinds := [.data], laidTests := true, laidLooks := .later }
def FnExactTurnTableCardSaid : Prop := Claim7.holds Tryd.pinned (.plain (OpenSpec.ofChange fnExactTurnTableSpec)) fnExactTurnTableCard

/-- THE SECOND FORM's CARD OF 'laws.FnTransforms'. -/
def fnTransformsUptoCard : Claim7 := { stood := { row := fnTransformsUptoRow, standIns := [], harness := (true, "623ae252c9f1c50a03a987a029ae0a8a52bb6dfd2bd42880f1730e0fd07a12ee"), looks := false }, kinds := [], alts := [], laidByText := true, laidKinds := [.data, .data], laidTests := true, laidLooks := .later }
def FnTransformsUptoCardSaid : Prop := Claim7.holds Tryd.pinned (.plain (OpenSpec.upto fnTransformsSpec)) fnTransformsUptoCard

/-- THE SECOND FORM's CARD OF 'laws.FnTurned'. -/
def fnTurnedUptoCard : Claim7 := { stood := { row := fnTurnedUptoRow, standIns := [], harness := (true, "623ae252c9f1c50a03a987a029ae0a8a52bb6dfd2bd42880f1730e0fd07a12ee"), looks := false }, kinds := [], alts := [], laidByText := true, laidKinds := [.data, .data], laidTests := true, laidLooks := .later }
def FnTurnedUptoCardSaid : Prop := Claim7.holds Tryd.pinned (.plain (OpenSpec.upto fnTurnedSpec)) fnTurnedUptoCard

/-- THE SECOND FORM's CARD OF 'laws.FnExactRingOf'. -/
def fnExactRingOfUptoCard : Claim7 := { stood := { row := fnExactRingOfUptoRow, standIns := [], harness := (true, "623ae252c9f1c50a03a987a029ae0a8a52bb6dfd2bd42880f1730e0fd07a12ee"), looks := false }, kinds := [], alts := [], laidByText := true, laidKinds := [.data, .data], laidTests := true, laidLooks := .later }
def FnExactRingOfUptoCardSaid : Prop := Claim7.holds Tryd.pinned (.plain (OpenSpec.upto fnExactRingOfSpec)) fnExactRingOfUptoCard

/-- THE SECOND FORM's CARD OF 'laws.FnExactForward'. -/
def fnExactForwardUptoCard : Claim7 := { stood := { row := fnExactForwardUptoRow, standIns := [], harness := (true, "623ae252c9f1c50a03a987a029ae0a8a52bb6dfd2bd42880f1730e0fd07a12ee"), looks := false }, kinds := [], alts := [], laidByText := true, laidKinds := [.data, .data], laidTests := true, laidLooks := .later }
def FnExactForwardUptoCardSaid : Prop := Claim7.holds Tryd.pinned (.plain (OpenSpec.upto fnExactForwardSpec)) fnExactForwardUptoCard

/-- THE SECOND FORM's CARD OF 'laws.FnExactInverse'. -/
def fnExactInverseUptoCard : Claim7 := { stood := { row := fnExactInverseUptoRow, standIns := [], harness := (true, "623ae252c9f1c50a03a987a029ae0a8a52bb6dfd2bd42880f1730e0fd07a12ee"), looks := false }, kinds := [], alts := [], laidByText := true, laidKinds := [.data, .data], laidTests := true, laidLooks := .later }
def FnExactInverseUptoCardSaid : Prop := Claim7.holds Tryd.pinned (.plain (OpenSpec.upto fnExactInverseSpec)) fnExactInverseUptoCard

/-- THE SECOND FORM's CARD OF 'laws.FnExactMulRing'. -/
def fnExactMulRingUptoCard : Claim7 := { stood := { row := fnExactMulRingUptoRow, standIns := [], harness := (true, "623ae252c9f1c50a03a987a029ae0a8a52bb6dfd2bd42880f1730e0fd07a12ee"), looks := false }, kinds := [], alts := [], laidByText := true, laidKinds := [.data, .data], laidTests := true, laidLooks := .later }
def FnExactMulRingUptoCardSaid : Prop := Claim7.holds Tryd.pinned (.plain (OpenSpec.upto fnExactMulRingSpec)) fnExactMulRingUptoCard

/-- THE SECOND FORM's CARD OF 'laws.FnExactMulEach'. -/
def fnExactMulEachUptoCard : Claim7 := { stood := { row := fnExactMulEachUptoRow, standIns := [], harness := (true, "623ae252c9f1c50a03a987a029ae0a8a52bb6dfd2bd42880f1730e0fd07a12ee"), looks := false }, kinds := [], alts := [], laidByText := true, laidKinds := [.data, .data], laidTests := true, laidLooks := .later }
def FnExactMulEachUptoCardSaid : Prop := Claim7.holds Tryd.pinned (.plain (OpenSpec.upto fnExactMulEachSpec)) fnExactMulEachUptoCard

/-- THE SECOND FORM's CARD OF 'laws.FnExactTurnRing'. -/
def fnExactTurnRingUptoCard : Claim7 := { stood := { row := fnExactTurnRingUptoRow, standIns := [], harness := (true, "623ae252c9f1c50a03a987a029ae0a8a52bb6dfd2bd42880f1730e0fd07a12ee"), looks := false }, kinds := [], alts := [], laidByText := true, laidKinds := [.data, .data], laidTests := true, laidLooks := .later }
def FnExactTurnRingUptoCardSaid : Prop := Claim7.holds Tryd.pinned (.plain (OpenSpec.upto fnExactTurnRingSpec)) fnExactTurnRingUptoCard

/-- THE SECOND FORM's CARD OF 'laws.FnExactTurnTable'. -/
def fnExactTurnTableUptoCard : Claim7 := { stood := { row := fnExactTurnTableUptoRow, standIns := [], harness := (true, "623ae252c9f1c50a03a987a029ae0a8a52bb6dfd2bd42880f1730e0fd07a12ee"), looks := false }, kinds := [], alts := [], laidByText := true, laidKinds := [.data], laidTests := true, laidLooks := .later }
def FnExactTurnTableUptoCardSaid : Prop := Claim7.holds Tryd.pinned (.plain (OpenSpec.upto fnExactTurnTableSpec)) fnExactTurnTableUptoCard
end Rows
end Go.Proofs.YtcnkanjkdkjceaaDoor
