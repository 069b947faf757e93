/-
  DERIVED. GIVEN WITH THE SEED: THE CARDS: each row of YtpoogglplaeooaaDoorRows.lean that lists a variable, with what it lists TIED to the program's text (the seventh form; the later family's looks); each row that meets fmt, with fmt's text TOLD by the authors' own Lean function (tested against real Go, not proved from fmt's source: count such statements apart). THE CARD IS WHAT COUNTS. Prove the row's statement (the work); the ties are given (YtpoogglplaeooaaDoorTie.lean); close each card by the builder's one call (the guide's Derived/Test/ToyasCard.lean, 'card_holds'). Laid BY PROGRAM, IN A SANDBOX (cutbox-door.mjs). By AI agents, Wed Nov 11 2026. No macro, syntax, notation, axiom, sorry.
-/
import Derived.Test.YtpoogglplaeooaaDoorRows
import GoSem.ClaimSeven
namespace Go.Proofs.YtpoogglplaeooaaDoor
namespace Rows

/-- THE TIED CARD OF 'laws.FnTransforms'. -/
def fnTransformsCard : Claim7 := { stood := { row := fnTransformsRow, standIns := [], harness := (true, "b734694337cfa84d25044c98f2d108444fafa97d681707d065f3167a5403ea9c"), looks := false }, kinds := [], alts := [], laidByText := true, laidKinds := [.data, .data], laidTests := true, laidLooks := .later }
def FnTransformsCardSaid : Prop := Claim7.holds Tryd.pinned (.plain (OpenSpec.ofChange fnTransformsSpec)) fnTransformsCard

/-- THE TIED CARD OF 'laws.FnTurned'. -/
def fnTurnedCard : Claim7 := { stood := { row := fnTurnedRow, standIns := [], harness := (true, "b734694337cfa84d25044c98f2d108444fafa97d681707d065f3167a5403ea9c"), looks := false }, kinds := [], alts := [], laidByText := true, laidKinds := [.data, .data], laidTests := true, laidLooks := .later }
def FnTurnedCardSaid : Prop := Claim7.holds Tryd.pinned (.plain (OpenSpec.ofChange fnTurnedSpec)) fnTurnedCard

/-- THE SECOND FORM's CARD OF 'laws.FnTransforms'. -/
def fnTransformsUptoCard : Claim7 := { stood := { row := fnTransformsUptoRow, standIns := [], harness := (true, "b734694337cfa84d25044c98f2d108444fafa97d681707d065f3167a5403ea9c"), looks := false }, kinds := [], alts := [], laidByText := true, laidKinds := [.data, .data], laidTests := true, laidLooks := .later }
def FnTransformsUptoCardSaid : Prop := Claim7.holds Tryd.pinned (.plain (OpenSpec.upto fnTransformsSpec)) fnTransformsUptoCard

/-- THE SECOND FORM's CARD OF 'laws.FnTurned'. -/
def fnTurnedUptoCard : Claim7 := { stood := { row := fnTurnedUptoRow, standIns := [], harness := (true, "b734694337cfa84d25044c98f2d108444fafa97d681707d065f3167a5403ea9c"), looks := false }, kinds := [], alts := [], laidByText := true, laidKinds := [.data, .data], laidTests := true, laidLooks := .later }
def FnTurnedUptoCardSaid : Prop := Claim7.holds Tryd.pinned (.plain (OpenSpec.upto fnTurnedSpec)) fnTurnedUptoCard
end Rows
end Go.Proofs.YtpoogglplaeooaaDoor
