/-
  DERIVED. GIVEN WITH THE SEED: THE CARDS: each row of YtfebajajejepbaaGreatDoorRows.lean that lists a variable, with what it lists TIED to the program's text (the seventh form; the later family's looks); each row that meets fmt, with fmt's text TOLD by the authors' own Lean function (tested against real Go, not proved from fmt's source: count such statements apart). THE CARD IS WHAT COUNTS. Prove the row's statement (the work); the ties are given (YtfebajajejepbaaGreatDoorTie.lean); close each card by the builder's one call (the guide's Derived/Test/ToyasCard.lean, 'card_holds'). Laid BY PROGRAM, IN A SANDBOX (cutbox-door.mjs). By AI agents, Wed Nov 11 2026. No macro, syntax, notation, axiom, sorry.
-/
import Derived.Test.YtfebajajejepbaaGreatDoorRows
import GoSem.ClaimSeven
namespace Go.Proofs.YtfebajajejepbaaGreatDoor
namespace Rows

/-- THE TIED CARD OF 'laws.FnExactNoiseOf'. -/
def fnExactNoiseOfCard : Claim7 := { stood := { row := fnExactNoiseOfRow, standIns := [], harness := (true, "41e443c86764b52259b8a2ba38a9b8ee789755b28fd4762660b8ffdf3874b4ff"), looks := true }, kinds := [], alts := [], laidByText := true, laidKinds := [.data, .data], laidTests := true, laidLooks := .later }
def FnExactNoiseOfCardSaid : Prop := Claim7.holds Tryz.pinned (.plain (OpenSpec.ofChange fnExactNoiseOfSpec)) fnExactNoiseOfCard

/-- THE TIED CARD OF 'laws.FnExactNoiseInPair'. -/
def fnExactNoiseInPairCard : Claim7 := { stood := { row := fnExactNoiseInPairRow, standIns := [], harness := (true, "41e443c86764b52259b8a2ba38a9b8ee789755b28fd4762660b8ffdf3874b4ff"), looks := true }, kinds := [], alts := [], laidByText := true, laidKinds := [.data, .data], laidTests := true, laidLooks := .later }
def FnExactNoiseInPairCardSaid : Prop := Claim7.holds Tryz.pinned (.plain (OpenSpec.ofChange fnExactNoiseInPairSpec)) fnExactNoiseInPairCard

/-- THE TIED CARD OF 'laws.FnExactAddPlain'. -/
def fnExactAddPlainCard : Claim7 := { stood := { row := fnExactAddPlainRow, standIns := [], harness := (true, "41e443c86764b52259b8a2ba38a9b8ee789755b28fd4762660b8ffdf3874b4ff"), looks := true }, kinds := [], alts := [], laidByText := true, laidKinds := [.data, .data], laidTests := true, laidLooks := .later }
def FnExactAddPlainCardSaid : Prop := Claim7.holds Tryz.pinned (.plain (OpenSpec.ofChange fnExactAddPlainSpec)) fnExactAddPlainCard

/-- THE SECOND FORM's CARD OF 'laws.FnExactNoiseOf'. -/
def fnExactNoiseOfUptoCard : Claim7 := { stood := { row := fnExactNoiseOfUptoRow, standIns := [], harness := (true, "41e443c86764b52259b8a2ba38a9b8ee789755b28fd4762660b8ffdf3874b4ff"), looks := true }, kinds := [], alts := [], laidByText := true, laidKinds := [.data, .data], laidTests := true, laidLooks := .later }
def FnExactNoiseOfUptoCardSaid : Prop := Claim7.holds Tryz.pinned (.plain (OpenSpec.upto fnExactNoiseOfSpec)) fnExactNoiseOfUptoCard

/-- THE SECOND FORM's CARD OF 'laws.FnExactNoiseInPair'. -/
def fnExactNoiseInPairUptoCard : Claim7 := { stood := { row := fnExactNoiseInPairUptoRow, standIns := [], harness := (true, "41e443c86764b52259b8a2ba38a9b8ee789755b28fd4762660b8ffdf3874b4ff"), looks := true }, kinds := [], alts := [], laidByText := true, laidKinds := [.data, .data], laidTests := true, laidLooks := .later }
def FnExactNoiseInPairUptoCardSaid : Prop := Claim7.holds Tryz.pinned (.plain (OpenSpec.upto fnExactNoiseInPairSpec)) fnExactNoiseInPairUptoCard

/-- THE SECOND FORM's CARD OF 'laws.FnExactAddPlain'. -/
def fnExactAddPlainUptoCard : Claim7 := { stood := { row := fnExactAddPlainUptoRow, standIns := [], harness := (true, "41e443c86764b52259b8a2ba38a9b8ee789755b28fd4762660b8ffdf3874b4ff"), looks := true }, kinds := [], alts := [], laidByText := true, laidKinds := [.data, .data], laidTests := true, laidLooks := .later }
def FnExactAddPlainUptoCardSaid : Prop := Claim7.holds Tryz.pinned (.plain (OpenSpec.upto fnExactAddPlainSpec)) fnExactAddPlainUptoCard
end Rows
end Go.Proofs.YtfebajajejepbaaGreatDoor
