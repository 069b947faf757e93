/-
  DERIVED. GIVEN WITH THE SEED: THE CARDS: each row of YthcidnnkakppcaaGreatDoorRows.lean that lists a variable, with what it lists TIED to the program's text (the seventh form; the later family's looks); each row that meets fmt, with fmt's text TOLD by the authors' own Lean function (tested against real Go, not proved from fmt's source: count such statements apart). THE CARD IS WHAT COUNTS. Prove the row's statement (the work); the ties are given (YthcidnnkakppcaaGreatDoorTie.lean); close each card by the builder's one call (the guide's Derived/Test/ToyasCard.lean, 'card_holds'). Laid BY PROGRAM, IN A SANDBOX (cutbox-door.mjs). By AI agents, Wed Nov 11 2026. No macro, syntax, notation, axiom, sorry.
-/
import Derived.Test.YthcidnnkakppcaaGreatDoorRows
import GoSem.ClaimSeven
namespace Go.Proofs.YthcidnnkakppcaaGreatDoor
namespace Rows

/-- THE TIED CARD OF 'laws.FnExactDecrypt'. -/
def fnExactDecryptCard : Claim7 := { stood := { row := fnExactDecryptRow, standIns := [], harness := (true, "2c04c58e62600f8c7714cb61cec0dd7c3a81456d6d748fa0026cd3752e855ed9"), looks := true }, kinds := [], alts := [], laidByText := true, laidKinds := [.data, .data], laidTests := true, laidLooks := .later }
def FnExactDecryptCardSaid : Prop := Claim7.holds Tryz.pinned (.plain (OpenSpec.ofChange fnExactDecryptSpec)) fnExactDecryptCard

/-- THE SECOND FORM's CARD OF 'laws.FnExactDecrypt'. -/
def fnExactDecryptUptoCard : Claim7 := { stood := { row := fnExactDecryptUptoRow, standIns := [], harness := (true, "2c04c58e62600f8c7714cb61cec0dd7c3a81456d6d748fa0026cd3752e855ed9"), looks := true }, kinds := [], alts := [], laidByText := true, laidKinds := [.data, .data], laidTests := true, laidLooks := .later }
def FnExactDecryptUptoCardSaid : Prop := Claim7.holds Tryz.pinned (.plain (OpenSpec.upto fnExactDecryptSpec)) fnExactDecryptUptoCard
end Rows
end Go.Proofs.YthcidnnkakppcaaGreatDoor
