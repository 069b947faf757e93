/-
  DERIVED. GIVEN WITH THE SEED: THE CARDS: each row of YtkggfljdbdfonaaGreatDoorRows.lean that lists a variable, with what it lists TIED to the program's text (the seventh form; the later family's looks); each row that meets fmt, with fmt's text TOLD by the authors' own Lean function (tested against real Go, not proved from fmt's source: count such statements apart). THE CARD IS WHAT COUNTS. Prove the row's statement (the work); the ties are given (YtkggfljdbdfonaaGreatDoorTie.lean); close each card by the builder's one call (the guide's Derived/Test/ToyasCard.lean, 'card_holds'). Laid BY PROGRAM, IN A SANDBOX (cutbox-door.mjs). By AI agents, Wed Nov 11 2026. No macro, syntax, notation, axiom, sorry.
-/
import Derived.Test.YtkggfljdbdfonaaGreatDoorRows
import GoSem.ClaimSeven
namespace Go.Proofs.YtkggfljdbdfonaaGreatDoor
namespace Rows

/-- THE TIED CARD OF 'laws.FnExactWholesOf'. -/
def fnExactWholesOfCard : Claim7 := { stood := { row := fnExactWholesOfRow, standIns := [], harness := (true, "fe51b838b6409d15b03ec2faba75a6b400f6585ccf5db830d940d7dd687d2a28"), looks := false }, kinds := [], alts := [], laidByText := true, laidKinds := [.data, .data], laidTests := true, laidLooks := .later }
def FnExactWholesOfCardSaid : Prop := Claim7.holds Tryz.pinned (.plain (OpenSpec.ofChange fnExactWholesOfSpec)) fnExactWholesOfCard

/-- THE TIED CARD OF 'laws.FnExactNoiseInPair'. -/
def fnExactNoiseInPairCard : Claim7 := { stood := { row := fnExactNoiseInPairRow, standIns := [], harness := (true, "fe51b838b6409d15b03ec2faba75a6b400f6585ccf5db830d940d7dd687d2a28"), looks := false }, kinds := [], alts := [], laidByText := true, laidKinds := [.data, .data], laidTests := true, laidLooks := .later }
def FnExactNoiseInPairCardSaid : Prop := Claim7.holds Tryz.pinned (.plain (OpenSpec.ofChange fnExactNoiseInPairSpec)) fnExactNoiseInPairCard

/-- THE TIED CARD OF 'laws.FnExactAddPlain'. -/
def fnExactAddPlainCard : Claim7 := { stood := { row := fnExactAddPlainRow, standIns := [], harness := (true, "fe51b838b6409d15b03ec2faba75a6b400f6585ccf5db830d940d7dd687d2a28"), looks := false }, kinds := [], alts := [], laidByText := true, laidKinds := [.data, .data], laidTests := true, laidLooks := .later }
def FnExactAddPlainCardSaid : Prop := Claim7.holds Tryz.pinned (.plain (OpenSpec.ofChange fnExactAddPlainSpec)) fnExactAddPlainCard

/-- THE SECOND FORM's CARD OF 'laws.FnExactWholesOf'. -/
def fnExactWholesOfUptoCard : Claim7 := { stood := { row := fnExactWholesOfUptoRow, standIns := [], harness := (true, "fe51b838b6409d15b03ec2faba75a6b400f6585ccf5db830d940d7dd687d2a28"), looks := false }, kinds := [], alts := [], laidByText := true, laidKinds := [.data, .data], laidTests := true, laidLooks := .later }
def FnExactWholesOfUptoCardSaid : Prop := Claim7.holds Tryz.pinned (.plain (OpenSpec.upto fnExactWholesOfSpec)) fnExactWholesOfUptoCard

/-- THE SECOND FORM's CARD OF 'laws.FnExactNoiseInPair'. -/
def fnExactNoiseInPairUptoCard : Claim7 := { stood := { row := fnExactNoiseInPairUptoRow, standIns := [], harness := (true, "fe51b838b6409d15b03ec2faba75a6b400f6585ccf5db830d940d7dd687d2a28"), looks := false }, kinds := [], alts := [], laidByText := true, laidKinds := [.data, .data], laidTests := true, laidLooks := .later }
def FnExactNoiseInPairUptoCardSaid : Prop := Claim7.holds Tryz.pinned (.plain (OpenSpec.upto fnExactNoiseInPairSpec)) fnExactNoiseInPairUptoCard

/-- THE SECOND FORM's CARD OF 'laws.FnExactAddPlain'. -/
def fnExactAddPlainUptoCard : Claim7 := { stood := { row := fnExactAddPlainUptoRow, standIns := [], harness := (true, "fe51b838b6409d15b03ec2faba75a6b400f6585ccf5db830d940d7dd687d2a28"), looks := false }, kinds := [], alts := [], laidByText := true, laidKinds := [.data, .data], laidTests := true, laidLooks := .later }
def FnExactAddPlainUptoCardSaid : Prop := Claim7.holds Tryz.pinned (.plain (OpenSpec.upto fnExactAddPlainSpec)) fnExactAddPlainUptoCard
end Rows
end Go.Proofs.YtkggfljdbdfonaaGreatDoor
