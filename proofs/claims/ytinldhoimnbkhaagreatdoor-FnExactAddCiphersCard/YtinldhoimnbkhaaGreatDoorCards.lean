/-
  DERIVED. GIVEN WITH THE SEED: THE CARDS: each row of YtinldhoimnbkhaaGreatDoorRows.lean that lists a variable, with what it lists TIED to the program's text (the seventh form; the later family's looks); each row that meets fmt, with fmt's text TOLD by the authors' own Lean function (tested against real Go, not proved from fmt's source: count such statements apart). THE CARD IS WHAT COUNTS. Prove the row's statement (the work); the ties are given (YtinldhoimnbkhaaGreatDoorTie.lean); close each card by the builder's one call (the guide's Derived/Test/ToyasCard.lean, 'card_holds'). Laid BY PROGRAM, IN A SANDBOX (cutbox-door.mjs). By AI agents, Wed Nov 11 2026. No macro, syntax, notation, axiom, sorry.
-/
import Derived.Test.YtinldhoimnbkhaaGreatDoorRows
import GoSem.ClaimSeven
namespace Go.Proofs.YtinldhoimnbkhaaGreatDoor
namespace Rows

/-- THE TIED CARD OF 'laws.FnExactAddCiphers'. -/
def fnExactAddCiphersCard : Claim7 := { stood := { row := fnExactAddCiphersRow, standIns := [], harness := (true, "0878b8259ccc17af94138a4253c570c43011a239d56c3ae73e5705d3db1905f5"), looks := false }, kinds := [], alts := [], laidByText := true, laidKinds := [.data, .data], laidTests := true, laidLooks := .later }
def FnExactAddCiphersCardSaid : Prop := Claim7.holds Tryz.pinned (.plain (OpenSpec.ofChange fnExactAddCiphersSpec)) fnExactAddCiphersCard

/-- THE TIED CARD OF 'laws.FnExactNegCipher'. -/
def fnExactNegCipherCard : Claim7 := { stood := { row := fnExactNegCipherRow, standIns := [], harness := (true, "0878b8259ccc17af94138a4253c570c43011a239d56c3ae73e5705d3db1905f5"), looks := false }, kinds := [], alts := [], laidByText := true, laidKinds := [.data, .data], laidTests := true, laidLooks := .later }
def FnExactNegCipherCardSaid : Prop := Claim7.holds Tryz.pinned (.plain (OpenSpec.ofChange fnExactNegCipherSpec)) fnExactNegCipherCard

/-- THE TIED CARD OF 'laws.FnExactMulPlain'. -/
def fnExactMulPlainCard : Claim7 := { stood := { row := fnExactMulPlainRow, standIns := [], harness := (true, "0878b8259ccc17af94138a4253c570c43011a239d56c3ae73e5705d3db1905f5"), looks := false }, kinds := [], alts := [], laidByText := true, laidKinds := [.data, .data], laidTests := true, laidLooks := .later }
def FnExactMulPlainCardSaid : Prop := Claim7.holds Tryz.pinned (.plain (OpenSpec.ofChange fnExactMulPlainSpec)) fnExactMulPlainCard

/-- THE SECOND FORM's CARD OF 'laws.FnExactAddCiphers'. -/
def fnExactAddCiphersUptoCard : Claim7 := { stood := { row := fnExactAddCiphersUptoRow, standIns := [], harness := (true, "0878b8259ccc17af94138a4253c570c43011a239d56c3ae73e5705d3db1905f5"), looks := false }, kinds := [], alts := [], laidByText := true, laidKinds := [.data, .data], laidTests := true, laidLooks := .later }
def FnExactAddCiphersUptoCardSaid : Prop := Claim7.holds Tryz.pinned (.plain (OpenSpec.upto fnExactAddCiphersSpec)) fnExactAddCiphersUptoCard

/-- THE SECOND FORM's CARD OF 'laws.FnExactNegCipher'. -/
def fnExactNegCipherUptoCard : Claim7 := { stood := { row := fnExactNegCipherUptoRow, standIns := [], harness := (true, "0878b8259ccc17af94138a4253c570c43011a239d56c3ae73e5705d3db1905f5"), looks := false }, kinds := [], alts := [], laidByText := true, laidKinds := [.data, .data], laidTests := true, laidLooks := .later }
def FnExactNegCipherUptoCardSaid : Prop := Claim7.holds Tryz.pinned (.plain (OpenSpec.upto fnExactNegCipherSpec)) fnExactNegCipherUptoCard

/-- THE SECOND FORM's CARD OF 'laws.FnExactMulPlain'. -/
def fnExactMulPlainUptoCard : Claim7 := { stood := { row := fnExactMulPlainUptoRow, standIns := [], harness := (true, "0878b8259ccc17af94138a4253c570c43011a239d56c3ae73e5705d3db1905f5"), looks := false }, kinds := [], alts := [], laidByText := true, laidKinds := [.data, .data], laidTests := true, laidLooks := .later }
def FnExactMulPlainUptoCardSaid : Prop := Claim7.holds Tryz.pinned (.plain (OpenSpec.upto fnExactMulPlainSpec)) fnExactMulPlainUptoCard
end Rows
end Go.Proofs.YtinldhoimnbkhaaGreatDoor
