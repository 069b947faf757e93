/-
  DERIVED. GIVEN WITH THE SEED: THE CARDS: each row of YtpebikjckhcgfaaGreatDoorRows.lean that lists a variable, with what it lists TIED to the program's text (the seventh form; the later family's looks); each row that meets fmt, with fmt's text TOLD by the authors' own Lean function (tested against real Go, not proved from fmt's source: count such statements apart). THE CARD IS WHAT COUNTS. Prove the row's statement (the work); the ties are given (YtpebikjckhcgfaaGreatDoorTie.lean); close each card by the builder's one call (the guide's Derived/Test/ToyasCard.lean, 'card_holds'). Laid BY PROGRAM, IN A SANDBOX (cutbox-door.mjs). By AI agents, Wed Nov 11 2026. No macro, syntax, notation, axiom, sorry.
-/
import Derived.Test.YtpebikjckhcgfaaGreatDoorRows
import GoSem.ClaimSeven
namespace Go.Proofs.YtpebikjckhcgfaaGreatDoor
namespace Rows

/-- THE TIED CARD OF 'laws.FnExactTurnRows'. -/
def fnExactTurnRowsCard : Claim7 := { stood := { row := fnExactTurnRowsRow, standIns := [], harness := (true, "ec731cbb5c87db53671d2898c0f9ae671777e75ed529bcdf0dfc4afe3c7e513e"), looks := false }, kinds := [], alts := [], laidByText := true, laidKinds := [.data, .data], laidTests := true, laidLooks := .later }
def FnExactTurnRowsCardSaid : Prop := Claim7.holds Tryz.pinned (.plain (OpenSpec.ofChange fnExactTurnRowsSpec)) fnExactTurnRowsCard

/-- THE SECOND FORM's CARD OF 'laws.FnExactTurnRows'. -/
def fnExactTurnRowsUptoCard : Claim7 := { stood := { row := fnExactTurnRowsUptoRow, standIns := [], harness := (true, "ec731cbb5c87db53671d2898c0f9ae671777e75ed529bcdf0dfc4afe3c7e513e"), looks := false }, kinds := [], alts := [], laidByText := true, laidKinds := [.data, .data], laidTests := true, laidLooks := .later }
def FnExactTurnRowsUptoCardSaid : Prop := Claim7.holds Tryz.pinned (.plain (OpenSpec.upto fnExactTurnRowsSpec)) fnExactTurnRowsUptoCard
end Rows
end Go.Proofs.YtpebikjckhcgfaaGreatDoor
