/-
  DERIVED. GIVEN WITH THE SEED: THE CARDS: each row of YtanijpekdnkicaaGreatDoorRows.lean that lists a variable, with what it lists TIED to the program's text (the seventh form; the later family's looks); each row that meets fmt, with fmt's text TOLD by the authors' own Lean function (tested against real Go, not proved from fmt's source: count such statements apart). THE CARD IS WHAT COUNTS. Prove the row's statement (the work); the ties are given (YtanijpekdnkicaaGreatDoorTie.lean); close each card by the builder's one call (the guide's Derived/Test/ToyasCard.lean, 'card_holds'). Laid BY PROGRAM, IN A SANDBOX (cutbox-door.mjs). By AI agents, Wed Nov 11 2026. No macro, syntax, notation, axiom, sorry.
-/
import Derived.Test.YtanijpekdnkicaaGreatDoorRows
import GoSem.ClaimSeven
namespace Go.Proofs.YtanijpekdnkicaaGreatDoor
namespace Rows

/-- THE TIED CARD OF 'laws.FnExactSwitchLast'. -/
def fnExactSwitchLastCard : Claim7 := { stood := { row := fnExactSwitchLastRow, standIns := [], harness := (true, "56cdd8fecdd4f4aa27613f951a3f9f710b0ebe8a8494346d58d631e872f33dc1"), looks := true }, kinds := [], alts := [], laidByText := true, laidKinds := [.data, .data], laidTests := true, laidLooks := .later }
def FnExactSwitchLastCardSaid : Prop := Claim7.holds Tryz.pinned (.plain (OpenSpec.ofChange fnExactSwitchLastSpec)) fnExactSwitchLastCard

/-- THE TIED CARD OF 'laws.FnExactTurnCipher'. -/
def fnExactTurnCipherCard : Claim7 := { stood := { row := fnExactTurnCipherRow, standIns := [], harness := (true, "56cdd8fecdd4f4aa27613f951a3f9f710b0ebe8a8494346d58d631e872f33dc1"), looks := true }, kinds := [], alts := [], laidByText := true, laidKinds := [.data, .data], laidTests := true, laidLooks := .later }
def FnExactTurnCipherCardSaid : Prop := Claim7.holds Tryz.pinned (.plain (OpenSpec.ofChange fnExactTurnCipherSpec)) fnExactTurnCipherCard

/-- THE TIED CARD OF 'laws.FnExactWriteBox'. -/
def fnExactWriteBoxCard : Claim7 := { stood := { row := fnExactWriteBoxRow, standIns := [], harness := (true, "56cdd8fecdd4f4aa27613f951a3f9f710b0ebe8a8494346d58d631e872f33dc1"), looks := true }, kinds := [], alts := [], laidByText := true, laidKinds := [.data, .data], laidTests := true, laidLooks := .later }
def FnExactWriteBoxCardSaid : Prop := Claim7.holds Tryz.pinned (.plain (OpenSpec.ofChange fnExactWriteBoxSpec)) fnExactWriteBoxCard

/-- THE SECOND FORM's CARD OF 'laws.FnExactSwitchLast'. -/
def fnExactSwitchLastUptoCard : Claim7 := { stood := { row := fnExactSwitchLastUptoRow, standIns := [], harness := (true, "56cdd8fecdd4f4aa27613f951a3f9f710b0ebe8a8494346d58d631e872f33dc1"), looks := true }, kinds := [], alts := [], laidByText := true, laidKinds := [.data, .data], laidTests := true, laidLooks := .later }
def FnExactSwitchLastUptoCardSaid : Prop := Claim7.holds Tryz.pinned (.plain (OpenSpec.upto fnExactSwitchLastSpec)) fnExactSwitchLastUptoCard

/-- THE SECOND FORM's CARD OF 'laws.FnExactTurnCipher'. -/
def fnExactTurnCipherUptoCard : Claim7 := { stood := { row := fnExactTurnCipherUptoRow, standIns := [], harness := (true, "56cdd8fecdd4f4aa27613f951a3f9f710b0ebe8a8494346d58d631e872f33dc1"), looks := true }, kinds := [], alts := [], laidByText := true, laidKinds := [.data, .data], laidTests := true, laidLooks := .later }
def FnExactTurnCipherUptoCardSaid : Prop := Claim7.holds Tryz.pinned (.plain (OpenSpec.upto fnExactTurnCipherSpec)) fnExactTurnCipherUptoCard

/-- THE SECOND FORM's CARD OF 'laws.FnExactWriteBox'. -/
def fnExactWriteBoxUptoCard : Claim7 := { stood := { row := fnExactWriteBoxUptoRow, standIns := [], harness := (true, "56cdd8fecdd4f4aa27613f951a3f9f710b0ebe8a8494346d58d631e872f33dc1"), looks := true }, kinds := [], alts := [], laidByText := true, laidKinds := [.data, .data], laidTests := true, laidLooks := .later }
def FnExactWriteBoxUptoCardSaid : Prop := Claim7.holds Tryz.pinned (.plain (OpenSpec.upto fnExactWriteBoxSpec)) fnExactWriteBoxUptoCard
end Rows
end Go.Proofs.YtanijpekdnkicaaGreatDoor
