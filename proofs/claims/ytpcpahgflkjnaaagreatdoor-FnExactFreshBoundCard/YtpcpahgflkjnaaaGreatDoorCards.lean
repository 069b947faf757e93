/-
  DERIVED. GIVEN WITH THE SEED: THE CARDS: each row of YtpcpahgflkjnaaaGreatDoorRows.lean that lists a variable, with what it lists TIED to the program's text (the seventh form; the later family's looks); each row that meets fmt, with fmt's text TOLD by the authors' own Lean function (tested against real Go, not proved from fmt's source: count such statements apart). THE CARD IS WHAT COUNTS. Prove the row's statement (the work); the ties are given (YtpcpahgflkjnaaaGreatDoorTie.lean); close each card by the builder's one call (the guide's Derived/Test/ToyasCard.lean, 'card_holds'). Laid BY PROGRAM, IN A SANDBOX (cutbox-door.mjs). By AI agents, Wed Nov 11 2026. No macro, syntax, notation, axiom, sorry.
-/
import Derived.Test.YtpcpahgflkjnaaaGreatDoorRows
import GoSem.ClaimSeven
namespace Go.Proofs.YtpcpahgflkjnaaaGreatDoor
namespace Rows

/-- THE TIED CARD OF 'laws.FnExactNoiseOf'. -/
def fnExactNoiseOfCard : Claim7 := { stood := { row := fnExactNoiseOfRow, standIns := [], harness := (true, "7bb671987cec8f715f2f6e8d3b6534f21c7f788098c6d7a88d2a02846e6d6b6c"), looks := true }, kinds := [], alts := [], laidByText := true, laidKinds := [.data, .data], laidTests := true, laidLooks := .later }
def FnExactNoiseOfCardSaid : Prop := Claim7.holds Tryz.pinned (.plain (OpenSpec.ofChange fnExactNoiseOfSpec)) fnExactNoiseOfCard

/-- THE TIED CARD OF 'laws.FnExactNoiseLimit'. -/
def fnExactNoiseLimitCard : Claim7 := { stood := { row := fnExactNoiseLimitRow, standIns := [], harness := (true, "7bb671987cec8f715f2f6e8d3b6534f21c7f788098c6d7a88d2a02846e6d6b6c"), looks := true }, kinds := [], alts := [], laidByText := true, laidKinds := [.data, .data], laidTests := true, laidLooks := .later }
def FnExactNoiseLimitCardSaid : Prop := Claim7.holds Tryz.pinned (.plain (OpenSpec.ofChange fnExactNoiseLimitSpec)) fnExactNoiseLimitCard

/-- THE TIED CARD OF 'laws.FnExactFreshBound'. -/
def fnExactFreshBoundCard : Claim7 := { stood := { row := fnExactFreshBoundRow, standIns := [], harness := (true, "7bb671987cec8f715f2f6e8d3b6534f21c7f788098c6d7a88d2a02846e6d6b6c"), looks := true }, kinds := [], alts := [], laidByText := true, laidKinds := [.data, .data], laidTests := true, laidLooks := .later }
def FnExactFreshBoundCardSaid : Prop := Claim7.holds Tryz.pinned (.plain (OpenSpec.ofChange fnExactFreshBoundSpec)) fnExactFreshBoundCard

/-- THE TIED CARD OF 'laws.FnExactAddPlainBound'. -/
def fnExactAddPlainBoundCard : Claim7 := { stood := { row := fnExactAddPlainBoundRow, standIns := [], harness := (true, "7bb671987cec8f715f2f6e8d3b6534f21c7f788098c6d7a88d2a02846e6d6b6c"), looks := true }, kinds := [], alts := [], laidByText := true, laidKinds := [.data, .data], laidTests := true, laidLooks := .later }
def FnExactAddPlainBoundCardSaid : Prop := Claim7.holds Tryz.pinned (.plain (OpenSpec.ofChange fnExactAddPlainBoundSpec)) fnExactAddPlainBoundCard

/-- THE TIED CARD OF 'laws.FnExactMulPlainBound'. -/
def fnExactMulPlainBoundCard : Claim7 := { stood := { row := fnExactMulPlainBoundRow, standIns := [], harness := (true, "7bb671987cec8f715f2f6e8d3b6534f21c7f788098c6d7a88d2a02846e6d6b6c"), looks := true }, kinds := [], alts := [], laidByText := true, laidKinds := [.data, .data], laidTests := true, laidLooks := .later }
def FnExactMulPlainBoundCardSaid : Prop := Claim7.holds Tryz.pinned (.plain (OpenSpec.ofChange fnExactMulPlainBoundSpec)) fnExactMulPlainBoundCard

/-- THE TIED CARD OF 'laws.FnExactMulBound'. -/
def fnExactMulBoundCard : Claim7 := { stood := { row := fnExactMulBoundRow, standIns := [], harness := (true, "7bb671987cec8f715f2f6e8d3b6534f21c7f788098c6d7a88d2a02846e6d6b6c"), looks := true }, kinds := [], alts := [], laidByText := true, laidKinds := [.data, .data], laidTests := true, laidLooks := .later }
def FnExactMulBoundCardSaid : Prop := Claim7.holds Tryz.pinned (.plain (OpenSpec.ofChange fnExactMulBoundSpec)) fnExactMulBoundCard

/-- THE TIED CARD OF 'laws.FnExactSwitchBound'. -/
def fnExactSwitchBoundCard : Claim7 := { stood := { row := fnExactSwitchBoundRow, standIns := [], harness := (true, "7bb671987cec8f715f2f6e8d3b6534f21c7f788098c6d7a88d2a02846e6d6b6c"), looks := true }, kinds := [], alts := [], laidByText := true, laidKinds := [.data, .data], laidTests := true, laidLooks := .later }
def FnExactSwitchBoundCardSaid : Prop := Claim7.holds Tryz.pinned (.plain (OpenSpec.ofChange fnExactSwitchBoundSpec)) fnExactSwitchBoundCard

/-- THE TIED CARD OF 'laws.FnExactBudgetOf'. -/
def fnExactBudgetOfCard : Claim7 := { stood := { row := fnExactBudgetOfRow, standIns := [], harness := (true, "7bb671987cec8f715f2f6e8d3b6534f21c7f788098c6d7a88d2a02846e6d6b6c"), looks := true }, kinds := [], alts := [], laidByText := true, laidKinds := [.data, .data], laidTests := true, laidLooks := .later }
def FnExactBudgetOfCardSaid : Prop := Claim7.holds Tryz.pinned (.plain (OpenSpec.ofChange fnExactBudgetOfSpec)) fnExactBudgetOfCard

/-- THE TIED CARD OF 'laws.FnExactDepthOf'. -/
def fnExactDepthOfCard : Claim7 := { stood := { row := fnExactDepthOfRow, standIns := [], harness := (true, "7bb671987cec8f715f2f6e8d3b6534f21c7f788098c6d7a88d2a02846e6d6b6c"), looks := true }, kinds := [], alts := [], laidByText := true, laidKinds := [.data, .data], laidTests := true, laidLooks := .later }
def FnExactDepthOfCardSaid : Prop := Claim7.holds Tryz.pinned (.plain (OpenSpec.ofChange fnExactDepthOfSpec)) fnExactDepthOfCard

/-- THE TIED CARD OF 'laws.FnExactNoiseInPair'. -/
def fnExactNoiseInPairCard : Claim7 := { stood := { row := fnExactNoiseInPairRow, standIns := [], harness := (true, "7bb671987cec8f715f2f6e8d3b6534f21c7f788098c6d7a88d2a02846e6d6b6c"), looks := true }, kinds := [], alts := [], laidByText := true, laidKinds := [.data, .data], laidTests := true, laidLooks := .later }
def FnExactNoiseInPairCardSaid : Prop := Claim7.holds Tryz.pinned (.plain (OpenSpec.ofChange fnExactNoiseInPairSpec)) fnExactNoiseInPairCard

/-- THE SECOND FORM's CARD OF 'laws.FnExactNoiseOf'. -/
def fnExactNoiseOfUptoCard : Claim7 := { stood := { row := fnExactNoiseOfUptoRow, standIns := [], harness := (true, "7bb671987cec8f715f2f6e8d3b6534f21c7f788098c6d7a88d2a02846e6d6b6c"), looks := true }, kinds := [], alts := [], laidByText := true, laidKinds := [.data, .data], laidTests := true, laidLooks := .later }
def FnExactNoiseOfUptoCardSaid : Prop := Claim7.holds Tryz.pinned (.plain (OpenSpec.upto fnExactNoiseOfSpec)) fnExactNoiseOfUptoCard

/-- THE SECOND FORM's CARD OF 'laws.FnExactNoiseLimit'. -/
def fnExactNoiseLimitUptoCard : Claim7 := { stood := { row := fnExactNoiseLimitUptoRow, standIns := [], harness := (true, "7bb671987cec8f715f2f6e8d3b6534f21c7f788098c6d7a88d2a02846e6d6b6c"), looks := true }, kinds := [], alts := [], laidByText := true, laidKinds := [.data, .data], laidTests := true, laidLooks := .later }
def FnExactNoiseLimitUptoCardSaid : Prop := Claim7.holds Tryz.pinned (.plain (OpenSpec.upto fnExactNoiseLimitSpec)) fnExactNoiseLimitUptoCard

/-- THE SECOND FORM's CARD OF 'laws.FnExactFreshBound'. -/
def fnExactFreshBoundUptoCard : Claim7 := { stood := { row := fnExactFreshBoundUptoRow, standIns := [], harness := (true, "7bb671987cec8f715f2f6e8d3b6534f21c7f788098c6d7a88d2a02846e6d6b6c"), looks := true }, kinds := [], alts := [], laidByText := true, laidKinds := [.data, .data], laidTests := true, laidLooks := .later }
def FnExactFreshBoundUptoCardSaid : Prop := Claim7.holds Tryz.pinned (.plain (OpenSpec.upto fnExactFreshBoundSpec)) fnExactFreshBoundUptoCard

/-- THE SECOND FORM's CARD OF 'laws.FnExactAddPlainBound'. -/
def fnExactAddPlainBoundUptoCard : Claim7 := { stood := { row := fnExactAddPlainBoundUptoRow, standIns := [], harness := (true, "7bb671987cec8f715f2f6e8d3b6534f21c7f788098c6d7a88d2a02846e6d6b6c"), looks := true }, kinds := [], alts := [], laidByText := true, laidKinds := [.data, .data], laidTests := true, laidLooks := .later }
def FnExactAddPlainBoundUptoCardSaid : Prop := Claim7.holds Tryz.pinned (.plain (OpenSpec.upto fnExactAddPlainBoundSpec)) fnExactAddPlainBoundUptoCard

/-- THE SECOND FORM's CARD OF 'laws.FnExactMulPlainBound'. -/
def fnExactMulPlainBoundUptoCard : Claim7 := { stood := { row := fnExactMulPlainBoundUptoRow, standIns := [], harness := (true, "7bb671987cec8f715f2f6e8d3b6534f21c7f788098c6d7a88d2a02846e6d6b6c"), looks := true }, kinds := [], alts := [], laidByText := true, laidKinds := [.data, .data], laidTests := true, laidLooks := .later }
def FnExactMulPlainBoundUptoCardSaid : Prop := Claim7.holds Tryz.pinned (.plain (OpenSpec.upto fnExactMulPlainBoundSpec)) fnExactMulPlainBoundUptoCard

/-- THE SECOND FORM's CARD OF 'laws.FnExactMulBound'. -/
def fnExactMulBoundUptoCard : Claim7 := { stood := { row := fnExactMulBoundUptoRow, standIns := [], harness := (true, "7bb671987cec8f715f2f6e8d3b6534f21c7f788098c6d7a88d2a02846e6d6b6c"), looks := true }, kinds := [], alts := [], laidByText := true, laidKinds := [.data, .data], laidTests := true, laidLooks := .later }
def FnExactMulBoundUptoCardSaid : Prop := Claim7.holds Tryz.pinned (.plain (OpenSpec.upto fnExactMulBoundSpec)) fnExactMulBoundUptoCard

/-- THE SECOND FORM's CARD OF 'laws.FnExactSwitchBound'. -/
def fnExactSwitchBoundUptoCard : Claim7 := { stood := { row := fnExactSwitchBoundUptoRow, standIns := [], harness := (true, "7bb671987cec8f715f2f6e8d3b6534f21c7f788098c6d7a88d2a02846e6d6b6c"), looks := true }, kinds := [], alts := [], laidByText := true, laidKinds := [.data, .data], laidTests := true, laidLooks := .later }
def FnExactSwitchBoundUptoCardSaid : Prop := Claim7.holds Tryz.pinned (.plain (OpenSpec.upto fnExactSwitchBoundSpec)) fnExactSwitchBoundUptoCard

/-- THE SECOND FORM's CARD OF 'laws.FnExactBudgetOf'. -/
def fnExactBudgetOfUptoCard : Claim7 := { stood := { row := fnExactBudgetOfUptoRow, standIns := [], harness := (true, "7bb671987cec8f715f2f6e8d3b6534f21c7f788098c6d7a88d2a02846e6d6b6c"), looks := true }, kinds := [], alts := [], laidByText := true, laidKinds := [.data, .data], laidTests := true, laidLooks := .later }
def FnExactBudgetOfUptoCardSaid : Prop := Claim7.holds Tryz.pinned (.plain (OpenSpec.upto fnExactBudgetOfSpec)) fnExactBudgetOfUptoCard

/-- THE SECOND FORM's CARD OF 'laws.FnExactDepthOf'. -/
def fnExactDepthOfUptoCard : Claim7 := { stood := { row := fnExactDepthOfUptoRow, standIns := [], harness := (true, "7bb671987cec8f715f2f6e8d3b6534f21c7f788098c6d7a88d2a02846e6d6b6c"), looks := true }, kinds := [], alts := [], laidByText := true, laidKinds := [.data, .data], laidTests := true, laidLooks := .later }
def FnExactDepthOfUptoCardSaid : Prop := Claim7.holds Tryz.pinned (.plain (OpenSpec.upto fnExactDepthOfSpec)) fnExactDepthOfUptoCard

/-- THE SECOND FORM's CARD OF 'laws.FnExactNoiseInPair'. -/
def fnExactNoiseInPairUptoCard : Claim7 := { stood := { row := fnExactNoiseInPairUptoRow, standIns := [], harness := (true, "7bb671987cec8f715f2f6e8d3b6534f21c7f788098c6d7a88d2a02846e6d6b6c"), looks := true }, kinds := [], alts := [], laidByText := true, laidKinds := [.data, .data], laidTests := true, laidLooks := .later }
def FnExactNoiseInPairUptoCardSaid : Prop := Claim7.holds Tryz.pinned (.plain (OpenSpec.upto fnExactNoiseInPairSpec)) fnExactNoiseInPairUptoCard
end Rows
end Go.Proofs.YtpcpahgflkjnaaaGreatDoor
