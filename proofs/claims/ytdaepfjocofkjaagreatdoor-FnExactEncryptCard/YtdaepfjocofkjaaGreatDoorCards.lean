/-
  DERIVED. GIVEN WITH THE SEED: THE CARDS: each row of YtdaepfjocofkjaaGreatDoorRows.lean that lists a variable, with what it lists TIED to the program's text (the seventh form; the later family's looks); each row that meets fmt, with fmt's text TOLD by the authors' own Lean function (tested against real Go, not proved from fmt's source: count such statements apart). THE CARD IS WHAT COUNTS. Prove the row's statement (the work); the ties are given (YtdaepfjocofkjaaGreatDoorTie.lean); close each card by the builder's one call (the guide's Derived/Test/ToyasCard.lean, 'card_holds'). Laid BY PROGRAM, IN A SANDBOX (cutbox-door.mjs). By AI agents, Wed Nov 11 2026. No macro, syntax, notation, axiom, sorry.
-/
import Derived.Test.YtdaepfjocofkjaaGreatDoorRows
import GoSem.ClaimSeven
namespace Go.Proofs.YtdaepfjocofkjaaGreatDoor
namespace Rows

/-- THE TIED CARD OF 'laws.FnExactEncrypt'. -/
def fnExactEncryptCard : Claim7 := { stood := { row := fnExactEncryptRow, standIns := [], harness := (true, "e362e51a96deff331cb3ff1191334b7feb15be50e4dae48c4bb58241bf2c79d5"), looks := false }, kinds := [], alts := [], laidByText := true, laidKinds := [.data, .data], laidTests := true, laidLooks := .later }
def FnExactEncryptCardSaid : Prop := Claim7.holds Tryz.pinned (.plain (OpenSpec.ofChange fnExactEncryptSpec)) fnExactEncryptCard

/-- THE SECOND FORM's CARD OF 'laws.FnExactEncrypt'. -/
def fnExactEncryptUptoCard : Claim7 := { stood := { row := fnExactEncryptUptoRow, standIns := [], harness := (true, "e362e51a96deff331cb3ff1191334b7feb15be50e4dae48c4bb58241bf2c79d5"), looks := false }, kinds := [], alts := [], laidByText := true, laidKinds := [.data, .data], laidTests := true, laidLooks := .later }
def FnExactEncryptUptoCardSaid : Prop := Claim7.holds Tryz.pinned (.plain (OpenSpec.upto fnExactEncryptSpec)) fnExactEncryptUptoCard
end Rows
end Go.Proofs.YtdaepfjocofkjaaGreatDoor
