/-
  DERIVED. GIVEN WITH THE SEED: THE CARDS: each row of YtejhpljichmmpaaGreatDoorRows.lean that lists a variable, with what it lists TIED to the program's text (the seventh form; the later family's looks); each row that meets fmt, with fmt's text TOLD by the authors' own Lean function (tested against real Go, not proved from fmt's source: count such statements apart). THE CARD IS WHAT COUNTS. Prove the row's statement (the work); the ties are given (YtejhpljichmmpaaGreatDoorTie.lean); close each card by the builder's one call (the guide's Derived/Test/ToyasCard.lean, 'card_holds'). Laid BY PROGRAM, IN A SANDBOX (cutbox-door.mjs). By AI agents, Wed Nov 11 2026. No macro, syntax, notation, axiom, sorry.
-/
import Derived.Test.YtejhpljichmmpaaGreatDoorRows
import GoSem.ClaimSeven
namespace Go.Proofs.YtejhpljichmmpaaGreatDoor
namespace Rows

/-- THE TIED CARD OF 'laws.FnExactNoiseOf'. -/
def fnExactNoiseOfCard : Claim7 := { stood := { row := fnExactNoiseOfRow, standIns := [], harness := (true, "eea9f74a3a3c90cf6643c7342338f32129a9ec0308224f2b896925cf3e9efcca"), looks := true }, kinds := [], alts := [], laidByText := true, laidKinds := [.data, .data], laidTests := true, laidLooks := .later }
def FnExactNoiseOfCardSaid : Prop := Claim7.holds Tryz.pinned (.plain (OpenSpec.ofChange fnExactNoiseOfSpec)) fnExactNoiseOfCard

/-- THE TIED CARD OF 'laws.FnExactDepthOf'. -/
def fnExactDepthOfCard : Claim7 := { stood := { row := fnExactDepthOfRow, standIns := [], harness := (true, "eea9f74a3a3c90cf6643c7342338f32129a9ec0308224f2b896925cf3e9efcca"), looks := true }, kinds := [], alts := [], laidByText := true, laidKinds := [.data, .data], laidTests := true, laidLooks := .later }
def FnExactDepthOfCardSaid : Prop := Claim7.holds Tryz.pinned (.plain (OpenSpec.ofChange fnExactDepthOfSpec)) fnExactDepthOfCard

/-- THE TIED CARD OF 'laws.FnExactGoodBox'. -/
def fnExactGoodBoxCard : Claim7 := { stood := { row := fnExactGoodBoxRow, standIns := [], harness := (true, "eea9f74a3a3c90cf6643c7342338f32129a9ec0308224f2b896925cf3e9efcca"), looks := true }, kinds := [], alts := [], laidByText := true, laidKinds := [.data, .data], laidTests := true, laidLooks := .later }
def FnExactGoodBoxCardSaid : Prop := Claim7.holds Tryz.pinned (.plain (OpenSpec.ofChange fnExactGoodBoxSpec)) fnExactGoodBoxCard

/-- THE TIED CARD OF 'laws.FnExactNoiseInPair'. -/
def fnExactNoiseInPairCard : Claim7 := { stood := { row := fnExactNoiseInPairRow, standIns := [], harness := (true, "eea9f74a3a3c90cf6643c7342338f32129a9ec0308224f2b896925cf3e9efcca"), looks := true }, kinds := [], alts := [], laidByText := true, laidKinds := [.data, .data], laidTests := true, laidLooks := .later }
def FnExactNoiseInPairCardSaid : Prop := Claim7.holds Tryz.pinned (.plain (OpenSpec.ofChange fnExactNoiseInPairSpec)) fnExactNoiseInPairCard

/-- THE TIED CARD OF 'laws.FnExactDecrypt'. -/
def fnExactDecryptCard : Claim7 := { stood := { row := fnExactDecryptRow, standIns := [], harness := (true, "eea9f74a3a3c90cf6643c7342338f32129a9ec0308224f2b896925cf3e9efcca"), looks := true }, kinds := [], alts := [], laidByText := true, laidKinds := [.data, .data], laidTests := true, laidLooks := .later }
def FnExactDecryptCardSaid : Prop := Claim7.holds Tryz.pinned (.plain (OpenSpec.ofChange fnExactDecryptSpec)) fnExactDecryptCard

/-- THE SECOND FORM's CARD OF 'laws.FnExactNoiseOf'. -/
def fnExactNoiseOfUptoCard : Claim7 := { stood := { row := fnExactNoiseOfUptoRow, standIns := [], harness := (true, "eea9f74a3a3c90cf6643c7342338f32129a9ec0308224f2b896925cf3e9efcca"), looks := true }, kinds := [], alts := [], laidByText := true, laidKinds := [.data, .data], laidTests := true, laidLooks := .later }
def FnExactNoiseOfUptoCardSaid : Prop := Claim7.holds Tryz.pinned (.plain (OpenSpec.upto fnExactNoiseOfSpec)) fnExactNoiseOfUptoCard

/-- THE SECOND FORM's CARD OF 'laws.FnExactDepthOf'. -/
def fnExactDepthOfUptoCard : Claim7 := { stood := { row := fnExactDepthOfUptoRow, standIns := [], harness := (true, "eea9f74a3a3c90cf6643c7342338f32129a9ec0308224f2b896925cf3e9efcca"), looks := true }, kinds := [], alts := [], laidByText := true, laidKinds := [.data, .data], laidTests := true, laidLooks := .later }
def FnExactDepthOfUptoCardSaid : Prop := Claim7.holds Tryz.pinned (.plain (OpenSpec.upto fnExactDepthOfSpec)) fnExactDepthOfUptoCard

/-- THE SECOND FORM's CARD OF 'laws.FnExactGoodBox'. -/
def fnExactGoodBoxUptoCard : Claim7 := { stood := { row := fnExactGoodBoxUptoRow, standIns := [], harness := (true, "eea9f74a3a3c90cf6643c7342338f32129a9ec0308224f2b896925cf3e9efcca"), looks := true }, kinds := [], alts := [], laidByText := true, laidKinds := [.data, .data], laidTests := true, laidLooks := .later }
def FnExactGoodBoxUptoCardSaid : Prop := Claim7.holds Tryz.pinned (.plain (OpenSpec.upto fnExactGoodBoxSpec)) fnExactGoodBoxUptoCard

/-- THE SECOND FORM's CARD OF 'laws.FnExactNoiseInPair'. -/
def fnExactNoiseInPairUptoCard : Claim7 := { stood := { row := fnExactNoiseInPairUptoRow, standIns := [], harness := (true, "eea9f74a3a3c90cf6643c7342338f32129a9ec0308224f2b896925cf3e9efcca"), looks := true }, kinds := [], alts := [], laidByText := true, laidKinds := [.data, .data], laidTests := true, laidLooks := .later }
def FnExactNoiseInPairUptoCardSaid : Prop := Claim7.holds Tryz.pinned (.plain (OpenSpec.upto fnExactNoiseInPairSpec)) fnExactNoiseInPairUptoCard

/-- THE SECOND FORM's CARD OF 'laws.FnExactDecrypt'. -/
def fnExactDecryptUptoCard : Claim7 := { stood := { row := fnExactDecryptUptoRow, standIns := [], harness := (true, "eea9f74a3a3c90cf6643c7342338f32129a9ec0308224f2b896925cf3e9efcca"), looks := true }, kinds := [], alts := [], laidByText := true, laidKinds := [.data, .data], laidTests := true, laidLooks := .later }
def FnExactDecryptUptoCardSaid : Prop := Claim7.holds Tryz.pinned (.plain (OpenSpec.upto fnExactDecryptSpec)) fnExactDecryptUptoCard
end Rows
end Go.Proofs.YtejhpljichmmpaaGreatDoor
