/-
  DERIVED. GIVEN WITH THE SEED: THE CARDS: each row of YtlnfjgdjhjkioaaDoorRows.lean that lists a variable, with what it lists TIED to the program's text (the seventh form; the later family's looks); each row that meets fmt, with fmt's text TOLD by the authors' own Lean function (tested against real Go, not proved from fmt's source: count such statements apart). THE CARD IS WHAT COUNTS. Prove the row's statement (the work); the ties are given (YtlnfjgdjhjkioaaDoorTie.lean); close each card by the builder's one call (the guide's Derived/Test/ToyasCard.lean, 'card_holds'). Laid BY PROGRAM, IN A SANDBOX (cutbox-door.mjs). By AI agents, Wed Nov 11 2026. No macro, syntax, notation, axiom, sorry.
-/
import Derived.Test.YtlnfjgdjhjkioaaDoorRows
import GoSem.ClaimSeven
namespace Go.Proofs.YtlnfjgdjhjkioaaDoor
namespace Rows

/-- THE TIED CARD OF 'laws.FnExactForward'. -/
def fnExactForwardCard : Claim7 := { stood := { row := fnExactForwardRow, standIns := [], harness := (true, "3b3bd1063b0e9c2e2fd905a28d3ab9a879f89a8de39cc9ff07722a17298cdd73"), looks := false }, kinds := [], alts := [], laidByText := true, laidKinds := [.data, .data], laidTests := true, laidLooks := .later }
def FnExactForwardCardSaid : Prop := Claim7.holds Tryd.pinned (.plain (OpenSpec.ofChange fnExactForwardSpec)) fnExactForwardCard

/-- THE TIED CARD OF 'laws.FnExactInverse'. -/
def fnExactInverseCard : Claim7 := { stood := { row := fnExactInverseRow, standIns := [], harness := (true, "3b3bd1063b0e9c2e2fd905a28d3ab9a879f89a8de39cc9ff07722a17298cdd73"), looks := false }, kinds := [], alts := [], laidByText := true, laidKinds := [.data, .data], laidTests := true, laidLooks := .later }
def FnExactInverseCardSaid : Prop := Claim7.holds Tryd.pinned (.plain (OpenSpec.ofChange fnExactInverseSpec)) fnExactInverseCard

/-- THE TIED CARD OF 'laws.FnExactMulRing'. -/
def fnExactMulRingCard : Claim7 := { stood := { row := fnExactMulRingRow, standIns := [], harness := (true, "3b3bd1063b0e9c2e2fd905a28d3ab9a879f89a8de39cc9ff07722a17298cdd73"), looks := false }, kinds := [], alts := [], laidByText := true, laidKinds := [.data, .data], laidTests := true, laidLooks := .later }
def FnExactMulRingCardSaid : Prop := Claim7.holds Tryd.pinned (.plain (OpenSpec.ofChange fnExactMulRingSpec)) fnExactMulRingCard

/-- THE TIED CARD OF 'laws.FnExactAheadRows'. -/
def fnExactAheadRowsCard : Claim7 := { stood := { row := fnExactAheadRowsRow, standIns := [], harness := (true, "3b3bd1063b0e9c2e2fd905a28d3ab9a879f89a8de39cc9ff07722a17298cdd73"), looks := false }, kinds := [], alts := [], laidByText := true, laidKinds := [.data, .data], laidTests := true, laidLooks := .later }
def FnExactAheadRowsCardSaid : Prop := Claim7.holds Tryd.pinned (.plain (OpenSpec.ofChange fnExactAheadRowsSpec)) fnExactAheadRowsCard

/-- THE TIED CARD OF 'laws.FnExactBackRows'. -/
def fnExactBackRowsCard : Claim7 := { stood := { row := fnExactBackRowsRow, standIns := [], harness := (true, "3b3bd1063b0e9c2e2fd905a28d3ab9a879f89a8de39cc9ff07722a17298cdd73"), looks := false }, kinds := [], alts := [], laidByText := true, laidKinds := [.data, .data], laidTests := true, laidLooks := .later }
def FnExactBackRowsCardSaid : Prop := Claim7.holds Tryd.pinned (.plain (OpenSpec.ofChange fnExactBackRowsSpec)) fnExactBackRowsCard

/-- THE SECOND FORM's CARD OF 'laws.FnExactForward'. -/
def fnExactForwardUptoCard : Claim7 := { stood := { row := fnExactForwardUptoRow, standIns := [], harness := (true, "3b3bd1063b0e9c2e2fd905a28d3ab9a879f89a8de39cc9ff07722a17298cdd73"), looks := false }, kinds := [], alts := [], laidByText := true, laidKinds := [.data, .data], laidTests := true, laidLooks := .later }
def FnExactForwardUptoCardSaid : Prop := Claim7.holds Tryd.pinned (.plain (OpenSpec.upto fnExactForwardSpec)) fnExactForwardUptoCard

/-- THE SECOND FORM's CARD OF 'laws.FnExactInverse'. -/
def fnExactInverseUptoCard : Claim7 := { stood := { row := fnExactInverseUptoRow, standIns := [], harness := (true, "3b3bd1063b0e9c2e2fd905a28d3ab9a879f89a8de39cc9ff07722a17298cdd73"), looks := false }, kinds := [], alts := [], laidByText := true, laidKinds := [.data, .data], laidTests := true, laidLooks := .later }
def FnExactInverseUptoCardSaid : Prop := Claim7.holds Tryd.pinned (.plain (OpenSpec.upto fnExactInverseSpec)) fnExactInverseUptoCard

/-- THE SECOND FORM's CARD OF 'laws.FnExactMulRing'. -/
def fnExactMulRingUptoCard : Claim7 := { stood := { row := fnExactMulRingUptoRow, standIns := [], harness := (true, "3b3bd1063b0e9c2e2fd905a28d3ab9a879f89a8de39cc9ff07722a17298cdd73"), looks := false }, kinds := [], alts := [], laidByText := true, laidKinds := [.data, .data], laidTests := true, laidLooks := .later }
def FnExactMulRingUptoCardSaid : Prop := Claim7.holds Tryd.pinned (.plain (OpenSpec.upto fnExactMulRingSpec)) fnExactMulRingUptoCard

/-- THE SECOND FORM's CARD OF 'laws.FnExactAheadRows'. -/
def fnExactAheadRowsUptoCard : Claim7 := { stood := { row := fnExactAheadRowsUptoRow, standIns := [], harness := (true, "3b3bd1063b0e9c2e2fd905a28d3ab9a879f89a8de39cc9ff07722a17298cdd73"), looks := false }, kinds := [], alts := [], laidByText := true, laidKinds := [.data, .data], laidTests := true, laidLooks := .later }
def FnExactAheadRowsUptoCardSaid : Prop := Claim7.holds Tryd.pinned (.plain (OpenSpec.upto fnExactAheadRowsSpec)) fnExactAheadRowsUptoCard

/-- THE SECOND FORM's CARD OF 'laws.FnExactBackRows'. -/
def fnExactBackRowsUptoCard : Claim7 := { stood := { row := fnExactBackRowsUptoRow, standIns := [], harness := (true, "3b3bd1063b0e9c2e2fd905a28d3ab9a879f89a8de39cc9ff07722a17298cdd73"), looks := false }, kinds := [], alts := [], laidByText := true, laidKinds := [.data, .data], laidTests := true, laidLooks := .later }
def FnExactBackRowsUptoCardSaid : Prop := Claim7.holds Tryd.pinned (.plain (OpenSpec.upto fnExactBackRowsSpec)) fnExactBackRowsUptoCard
end Rows
end Go.Proofs.YtlnfjgdjhjkioaaDoor
