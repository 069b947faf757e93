/-
  DERIVED. GIVEN WITH THE SEED: THE CARDS: each row of YtejkejfhahmhcaaDoorRows.lean that lists a variable, with what it lists TIED to the program's text (the seventh form; the later family's looks); each row that meets fmt, with fmt's text TOLD by the authors' own Lean function (tested against real Go, not proved from fmt's source: count such statements apart). THE CARD IS WHAT COUNTS. Prove the row's statement (the work); the ties are given (YtejkejfhahmhcaaDoorTie.lean); close each card by the builder's one call (the guide's Derived/Test/ToyasCard.lean, 'card_holds'). Laid BY PROGRAM, IN A SANDBOX (cutbox-door.mjs). By AI agents, Wed Nov 11 2026. No macro, syntax, notation, axiom, sorry.
-/
import Derived.Test.YtejkejfhahmhcaaDoorRows
import GoSem.ClaimSeven
namespace Go.Proofs.YtejkejfhahmhcaaDoor
namespace Rows

/-- THE TIED CARD OF 'laws.FnExactComposeWhole'. -/
def fnExactComposeWholeCard : Claim7 := { stood := { row := fnExactComposeWholeRow, standIns := [], harness := (true, "188e17bd999fbb5009611a608b6c489e3563e2c321741e69b1ece4aa626dfef7"), looks := false }, kinds := [], alts := [], laidByText := true, laidKinds := [.data, .data], laidTests := true, laidLooks := .later }
def FnExactComposeWholeCardSaid : Prop := Claim7.holds Tryd.pinned (.plain (OpenSpec.ofChange fnExactComposeWholeSpec)) fnExactComposeWholeCard

/-- THE TIED CARD OF 'laws.FnExactCentredWhole'. -/
def fnExactCentredWholeCard : Claim7 := { stood := { row := fnExactCentredWholeRow, standIns := [], harness := (true, "188e17bd999fbb5009611a608b6c489e3563e2c321741e69b1ece4aa626dfef7"), looks := false }, kinds := [], alts := [], laidByText := true, laidKinds := [.data, .data], laidTests := true, laidLooks := .later }
def FnExactCentredWholeCardSaid : Prop := Claim7.holds Tryd.pinned (.plain (OpenSpec.ofChange fnExactCentredWholeSpec)) fnExactCentredWholeCard

/-- THE TIED CARD OF 'laws.FnExactFastConvert'. -/
def fnExactFastConvertCard : Claim7 := { stood := { row := fnExactFastConvertRow, standIns := [], harness := (true, "188e17bd999fbb5009611a608b6c489e3563e2c321741e69b1ece4aa626dfef7"), looks := false }, kinds := [], alts := [], laidByText := true, laidKinds := [.data, .data], laidTests := true, laidLooks := .later }
def FnExactFastConvertCardSaid : Prop := Claim7.holds Tryd.pinned (.plain (OpenSpec.ofChange fnExactFastConvertSpec)) fnExactFastConvertCard

/-- THE TIED CARD OF 'laws.FnExactOverOf'. -/
def fnExactOverOfCard : Claim7 := { stood := { row := fnExactOverOfRow, standIns := [], harness := (true, "188e17bd999fbb5009611a608b6c489e3563e2c321741e69b1ece4aa626dfef7"), looks := false }, kinds := [], alts := [], laidByText := true, laidKinds := [.data, .data], laidTests := true, laidLooks := .later }
def FnExactOverOfCardSaid : Prop := Claim7.holds Tryd.pinned (.plain (OpenSpec.ofChange fnExactOverOfSpec)) fnExactOverOfCard

/-- THE TIED CARD OF 'laws.FnExactExactConvert'. -/
def fnExactExactConvertCard : Claim7 := { stood := { row := fnExactExactConvertRow, standIns := [], harness := (true, "188e17bd999fbb5009611a608b6c489e3563e2c321741e69b1ece4aa626dfef7"), looks := false }, kinds := [], alts := [], laidByText := true, laidKinds := [.data, .data], laidTests := true, laidLooks := .later }
def FnExactExactConvertCardSaid : Prop := Claim7.holds Tryd.pinned (.plain (OpenSpec.ofChange fnExactExactConvertSpec)) fnExactExactConvertCard

/-- THE TIED CARD OF 'laws.FnExactSmallMont'. -/
def fnExactSmallMontCard : Claim7 := { stood := { row := fnExactSmallMontRow, standIns := [], harness := (true, "188e17bd999fbb5009611a608b6c489e3563e2c321741e69b1ece4aa626dfef7"), looks := false }, kinds := [], alts := [], laidByText := true, laidKinds := [.data, .data], laidTests := true, laidLooks := .later }
def FnExactSmallMontCardSaid : Prop := Claim7.holds Tryd.pinned (.plain (OpenSpec.ofChange fnExactSmallMontSpec)) fnExactSmallMontCard

/-- THE TIED CARD OF 'laws.FnExactFloorConvert'. -/
def fnExactFloorConvertCard : Claim7 := { stood := { row := fnExactFloorConvertRow, standIns := [], harness := (true, "188e17bd999fbb5009611a608b6c489e3563e2c321741e69b1ece4aa626dfef7"), looks := false }, kinds := [], alts := [], laidByText := true, laidKinds := [.data, .data], laidTests := true, laidLooks := .later }
def FnExactFloorConvertCardSaid : Prop := Claim7.holds Tryd.pinned (.plain (OpenSpec.ofChange fnExactFloorConvertSpec)) fnExactFloorConvertCard

/-- THE TIED CARD OF 'laws.FnExactScaleDown'. -/
def fnExactScaleDownCard : Claim7 := { stood := { row := fnExactScaleDownRow, standIns := [], harness := (true, "188e17bd999fbb5009611a608b6c489e3563e2c321741e69b1ece4aa626dfef7"), looks := false }, kinds := [], alts := [], laidByText := true, laidKinds := [.data, .data], laidTests := true, laidLooks := .later }
def FnExactScaleDownCardSaid : Prop := Claim7.holds Tryd.pinned (.plain (OpenSpec.ofChange fnExactScaleDownSpec)) fnExactScaleDownCard

/-- THE SECOND FORM's CARD OF 'laws.FnExactComposeWhole'. -/
def fnExactComposeWholeUptoCard : Claim7 := { stood := { row := fnExactComposeWholeUptoRow, standIns := [], harness := (true, "188e17bd999fbb5009611a608b6c489e3563e2c321741e69b1ece4aa626dfef7"), looks := false }, kinds := [], alts := [], laidByText := true, laidKinds := [.data, .data], laidTests := true, laidLooks := .later }
def FnExactComposeWholeUptoCardSaid : Prop := Claim7.holds Tryd.pinned (.plain (OpenSpec.upto fnExactComposeWholeSpec)) fnExactComposeWholeUptoCard

/-- THE SECOND FORM's CARD OF 'laws.FnExactCentredWhole'. -/
def fnExactCentredWholeUptoCard : Claim7 := { stood := { row := fnExactCentredWholeUptoRow, standIns := [], harness := (true, "188e17bd999fbb5009611a608b6c489e3563e2c321741e69b1ece4aa626dfef7"), looks := false }, kinds := [], alts := [], laidByText := true, laidKinds := [.data, .data], laidTests := true, laidLooks := .later }
def FnExactCentredWholeUptoCardSaid : Prop := Claim7.holds Tryd.pinned (.plain (OpenSpec.upto fnExactCentredWholeSpec)) fnExactCentredWholeUptoCard

/-- THE SECOND FORM's CARD OF 'laws.FnExactFastConvert'. -/
def fnExactFastConvertUptoCard : Claim7 := { stood := { row := fnExactFastConvertUptoRow, standIns := [], harness := (true, "188e17bd999fbb5009611a608b6c489e3563e2c321741e69b1ece4aa626dfef7"), looks := false }, kinds := [], alts := [], laidByText := true, laidKinds := [.data, .data], laidTests := true, laidLooks := .later }
def FnExactFastConvertUptoCardSaid : Prop := Claim7.holds Tryd.pinned (.plain (OpenSpec.upto fnExactFastConvertSpec)) fnExactFastConvertUptoCard

/-- THE SECOND FORM's CARD OF 'laws.FnExactOverOf'. -/
def fnExactOverOfUptoCard : Claim7 := { stood := { row := fnExactOverOfUptoRow, standIns := [], harness := (true, "188e17bd999fbb5009611a608b6c489e3563e2c321741e69b1ece4aa626dfef7"), looks := false }, kinds := [], alts := [], laidByText := true, laidKinds := [.data, .data], laidTests := true, laidLooks := .later }
def FnExactOverOfUptoCardSaid : Prop := Claim7.holds Tryd.pinned (.plain (OpenSpec.upto fnExactOverOfSpec)) fnExactOverOfUptoCard

/-- THE SECOND FORM's CARD OF 'laws.FnExactExactConvert'. -/
def fnExactExactConvertUptoCard : Claim7 := { stood := { row := fnExactExactConvertUptoRow, standIns := [], harness := (true, "188e17bd999fbb5009611a608b6c489e3563e2c321741e69b1ece4aa626dfef7"), looks := false }, kinds := [], alts := [], laidByText := true, laidKinds := [.data, .data], laidTests := true, laidLooks := .later }
def FnExactExactConvertUptoCardSaid : Prop := Claim7.holds Tryd.pinned (.plain (OpenSpec.upto fnExactExactConvertSpec)) fnExactExactConvertUptoCard

/-- THE SECOND FORM's CARD OF 'laws.FnExactSmallMont'. -/
def fnExactSmallMontUptoCard : Claim7 := { stood := { row := fnExactSmallMontUptoRow, standIns := [], harness := (true, "188e17bd999fbb5009611a608b6c489e3563e2c321741e69b1ece4aa626dfef7"), looks := false }, kinds := [], alts := [], laidByText := true, laidKinds := [.data, .data], laidTests := true, laidLooks := .later }
def FnExactSmallMontUptoCardSaid : Prop := Claim7.holds Tryd.pinned (.plain (OpenSpec.upto fnExactSmallMontSpec)) fnExactSmallMontUptoCard

/-- THE SECOND FORM's CARD OF 'laws.FnExactFloorConvert'. -/
def fnExactFloorConvertUptoCard : Claim7 := { stood := { row := fnExactFloorConvertUptoRow, standIns := [], harness := (true, "188e17bd999fbb5009611a608b6c489e3563e2c321741e69b1ece4aa626dfef7"), looks := false }, kinds := [], alts := [], laidByText := true, laidKinds := [.data, .data], laidTests := true, laidLooks := .later }
def FnExactFloorConvertUptoCardSaid : Prop := Claim7.holds Tryd.pinned (.plain (OpenSpec.upto fnExactFloorConvertSpec)) fnExactFloorConvertUptoCard

/-- THE SECOND FORM's CARD OF 'laws.FnExactScaleDown'. -/
def fnExactScaleDownUptoCard : Claim7 := { stood := { row := fnExactScaleDownUptoRow, standIns := [], harness := (true, "188e17bd999fbb5009611a608b6c489e3563e2c321741e69b1ece4aa626dfef7"), looks := false }, kinds := [], alts := [], laidByText := true, laidKinds := [.data, .data], laidTests := true, laidLooks := .later }
def FnExactScaleDownUptoCardSaid : Prop := Claim7.holds Tryd.pinned (.plain (OpenSpec.upto fnExactScaleDownSpec)) fnExactScaleDownUptoCard
end Rows
end Go.Proofs.YtejkejfhahmhcaaDoor
