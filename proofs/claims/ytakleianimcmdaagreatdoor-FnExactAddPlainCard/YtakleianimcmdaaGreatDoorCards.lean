/-
  DERIVED. GIVEN WITH THE SEED: THE CARDS: each row of YtakleianimcmdaaGreatDoorRows.lean that lists a variable, with what it lists TIED to the program's text (the seventh form; the later family's looks); each row that meets fmt, with fmt's text TOLD by the authors' own Lean function (tested against real Go, not proved from fmt's source: count such statements apart). THE CARD IS WHAT COUNTS. Prove the row's statement (the work); the ties are given (YtakleianimcmdaaGreatDoorTie.lean); close each card by the builder's one call (the guide's Derived/Test/ToyasCard.lean, 'card_holds'). Laid BY PROGRAM, IN A SANDBOX (cutbox-door.mjs). By AI agents, Wed Nov 11 2026. No macro, syntax, notation, axiom, sorry.
-/
import Derived.Test.YtakleianimcmdaaGreatDoorRows
import GoSem.ClaimSeven
namespace Go.Proofs.YtakleianimcmdaaGreatDoor
namespace Rows

/-- THE TIED CARD OF 'laws.FnExactDepthOf'. -/
def fnExactDepthOfCard : Claim7 := { stood := { row := fnExactDepthOfRow, standIns := [], harness := (true, "e51f2bac1bbbbd2c4d7788d999b36a4a0724c5ae56c45e928f4c3bb082c60aa6"), looks := false }, kinds := [], alts := [], laidByText := true, laidKinds := [.data, .data], laidTests := true, laidLooks := .later }
def FnExactDepthOfCardSaid : Prop := Claim7.holds Tryz.pinned (.plain (OpenSpec.ofChange fnExactDepthOfSpec)) fnExactDepthOfCard

/-- THE TIED CARD OF 'laws.FnExactGoodBox'. -/
def fnExactGoodBoxCard : Claim7 := { stood := { row := fnExactGoodBoxRow, standIns := [], harness := (true, "e51f2bac1bbbbd2c4d7788d999b36a4a0724c5ae56c45e928f4c3bb082c60aa6"), looks := false }, kinds := [], alts := [], laidByText := true, laidKinds := [.data, .data], laidTests := true, laidLooks := .later }
def FnExactGoodBoxCardSaid : Prop := Claim7.holds Tryz.pinned (.plain (OpenSpec.ofChange fnExactGoodBoxSpec)) fnExactGoodBoxCard

/-- THE TIED CARD OF 'laws.FnExactAddCiphers'. -/
def fnExactAddCiphersCard : Claim7 := { stood := { row := fnExactAddCiphersRow, standIns := [], harness := (true, "e51f2bac1bbbbd2c4d7788d999b36a4a0724c5ae56c45e928f4c3bb082c60aa6"), looks := false }, kinds := [], alts := [], laidByText := true, laidKinds := [.data, .data], laidTests := true, laidLooks := .later }
def FnExactAddCiphersCardSaid : Prop := Claim7.holds Tryz.pinned (.plain (OpenSpec.ofChange fnExactAddCiphersSpec)) fnExactAddCiphersCard

/-- THE TIED CARD OF 'laws.FnExactNegCipher'. -/
def fnExactNegCipherCard : Claim7 := { stood := { row := fnExactNegCipherRow, standIns := [], harness := (true, "e51f2bac1bbbbd2c4d7788d999b36a4a0724c5ae56c45e928f4c3bb082c60aa6"), looks := false }, kinds := [], alts := [], laidByText := true, laidKinds := [.data, .data], laidTests := true, laidLooks := .later }
def FnExactNegCipherCardSaid : Prop := Claim7.holds Tryz.pinned (.plain (OpenSpec.ofChange fnExactNegCipherSpec)) fnExactNegCipherCard

/-- THE TIED CARD OF 'laws.FnExactAddPlain'. -/
def fnExactAddPlainCard : Claim7 := { stood := { row := fnExactAddPlainRow, standIns := [], harness := (true, "e51f2bac1bbbbd2c4d7788d999b36a4a0724c5ae56c45e928f4c3bb082c60aa6"), looks := false }, kinds := [], alts := [], laidByText := true, laidKinds := [.data, .data], laidTests := true, laidLooks := .later }
def FnExactAddPlainCardSaid : Prop := Claim7.holds Tryz.pinned (.plain (OpenSpec.ofChange fnExactAddPlainSpec)) fnExactAddPlainCard

/-- THE TIED CARD OF 'laws.FnExactMulPlain'. -/
def fnExactMulPlainCard : Claim7 := { stood := { row := fnExactMulPlainRow, standIns := [], harness := (true, "e51f2bac1bbbbd2c4d7788d999b36a4a0724c5ae56c45e928f4c3bb082c60aa6"), looks := false }, kinds := [], alts := [], laidByText := true, laidKinds := [.data, .data], laidTests := true, laidLooks := .later }
def FnExactMulPlainCardSaid : Prop := Claim7.holds Tryz.pinned (.plain (OpenSpec.ofChange fnExactMulPlainSpec)) fnExactMulPlainCard

/-- THE SECOND FORM's CARD OF 'laws.FnExactDepthOf'. -/
def fnExactDepthOfUptoCard : Claim7 := { stood := { row := fnExactDepthOfUptoRow, standIns := [], harness := (true, "e51f2bac1bbbbd2c4d7788d999b36a4a0724c5ae56c45e928f4c3bb082c60aa6"), looks := false }, kinds := [], alts := [], laidByText := true, laidKinds := [.data, .data], laidTests := true, laidLooks := .later }
def FnExactDepthOfUptoCardSaid : Prop := Claim7.holds Tryz.pinned (.plain (OpenSpec.upto fnExactDepthOfSpec)) fnExactDepthOfUptoCard

/-- THE SECOND FORM's CARD OF 'laws.FnExactGoodBox'. -/
def fnExactGoodBoxUptoCard : Claim7 := { stood := { row := fnExactGoodBoxUptoRow, standIns := [], harness := (true, "e51f2bac1bbbbd2c4d7788d999b36a4a0724c5ae56c45e928f4c3bb082c60aa6"), looks := false }, kinds := [], alts := [], laidByText := true, laidKinds := [.data, .data], laidTests := true, laidLooks := .later }
def FnExactGoodBoxUptoCardSaid : Prop := Claim7.holds Tryz.pinned (.plain (OpenSpec.upto fnExactGoodBoxSpec)) fnExactGoodBoxUptoCard

/-- THE SECOND FORM's CARD OF 'laws.FnExactAddCiphers'. -/
def fnExactAddCiphersUptoCard : Claim7 := { stood := { row := fnExactAddCiphersUptoRow, standIns := [], harness := (true, "e51f2bac1bbbbd2c4d7788d999b36a4a0724c5ae56c45e928f4c3bb082c60aa6"), looks := false }, kinds := [], alts := [], laidByText := true, laidKinds := [.data, .data], laidTests := true, laidLooks := .later }
def FnExactAddCiphersUptoCardSaid : Prop := Claim7.holds Tryz.pinned (.plain (OpenSpec.upto fnExactAddCiphersSpec)) fnExactAddCiphersUptoCard

/-- THE SECOND FORM's CARD OF 'laws.FnExactNegCipher'. -/
def fnExactNegCipherUptoCard : Claim7 := { stood := { row := fnExactNegCipherUptoRow, standIns := [], harness := (true, "e51f2bac1bbbbd2c4d7788d999b36a4a0724c5ae56c45e928f4c3bb082c60aa6"), looks := false }, kinds := [], alts := [], laidByText := true, laidKinds := [.data, .data], laidTests := true, laidLooks := .later }
def FnExactNegCipherUptoCardSaid : Prop := Claim7.holds Tryz.pinned (.plain (OpenSpec.upto fnExactNegCipherSpec)) fnExactNegCipherUptoCard

/-- THE SECOND FORM's CARD OF 'laws.FnExactAddPlain'. -/
def fnExactAddPlainUptoCard : Claim7 := { stood := { row := fnExactAddPlainUptoRow, standIns := [], harness := (true, "e51f2bac1bbbbd2c4d7788d999b36a4a0724c5ae56c45e928f4c3bb082c60aa6"), looks := false }, kinds := [], alts := [], laidByText := true, laidKinds := [.data, .data], laidTests := true, laidLooks := .later }
def FnExactAddPlainUptoCardSaid : Prop := Claim7.holds Tryz.pinned (.plain (OpenSpec.upto fnExactAddPlainSpec)) fnExactAddPlainUptoCard

/-- THE SECOND FORM's CARD OF 'laws.FnExactMulPlain'. -/
def fnExactMulPlainUptoCard : Claim7 := { stood := { row := fnExactMulPlainUptoRow, standIns := [], harness := (true, "e51f2bac1bbbbd2c4d7788d999b36a4a0724c5ae56c45e928f4c3bb082c60aa6"), looks := false }, kinds := [], alts := [], laidByText := true, laidKinds := [.data, .data], laidTests := true, laidLooks := .later }
def FnExactMulPlainUptoCardSaid : Prop := Claim7.holds Tryz.pinned (.plain (OpenSpec.upto fnExactMulPlainSpec)) fnExactMulPlainUptoCard
end Rows
end Go.Proofs.YtakleianimcmdaaGreatDoor
