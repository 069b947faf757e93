/-
  DERIVED. GIVEN WITH THE SEED: THE CARDS: each row of YtjjohooeehjjcaaGreatDoorRows.lean that lists a variable, with what it lists TIED to the program's text (the seventh form; the later family's looks); each row that meets fmt, with fmt's text TOLD by the authors' own Lean function (tested against real Go, not proved from fmt's source: count such statements apart). THE CARD IS WHAT COUNTS. Prove the row's statement (the work); the ties are given (YtjjohooeehjjcaaGreatDoorTie.lean); close each card by the builder's one call (the guide's Derived/Test/ToyasCard.lean, 'card_holds'). Laid BY PROGRAM, IN A SANDBOX (cutbox-door.mjs). By AI agents, Wed Nov 11 2026. No macro, syntax, notation, axiom, sorry.
-/
import Derived.Test.YtjjohooeehjjcaaGreatDoorRows
import GoSem.ClaimSeven
namespace Go.Proofs.YtjjohooeehjjcaaGreatDoor
namespace Rows

/-- THE TIED CARD OF 'laws.FnExactMulCiphers'. -/
def fnExactMulCiphersCard : Claim7 := { stood := { row := fnExactMulCiphersRow, standIns := [], harness := (true, "0be529d7912ce34f147a72a1cb15da9494f3464b1bc396bbc69a71b3d9c8838f"), looks := true }, kinds := [], alts := [], laidByText := true, laidKinds := [.data, .data], laidTests := true, laidLooks := .later }
def FnExactMulCiphersCardSaid : Prop := Claim7.holds Tryz.pinned (.plain (OpenSpec.ofChange fnExactMulCiphersSpec)) fnExactMulCiphersCard

/-- THE SECOND FORM's CARD OF 'laws.FnExactMulCiphers'. -/
def fnExactMulCiphersUptoCard : Claim7 := { stood := { row := fnExactMulCiphersUptoRow, standIns := [], harness := (true, "0be529d7912ce34f147a72a1cb15da9494f3464b1bc396bbc69a71b3d9c8838f"), looks := true }, kinds := [], alts := [], laidByText := true, laidKinds := [.data, .data], laidTests := true, laidLooks := .later }
def FnExactMulCiphersUptoCardSaid : Prop := Claim7.holds Tryz.pinned (.plain (OpenSpec.upto fnExactMulCiphersSpec)) fnExactMulCiphersUptoCard
end Rows
end Go.Proofs.YtjjohooeehjjcaaGreatDoor
