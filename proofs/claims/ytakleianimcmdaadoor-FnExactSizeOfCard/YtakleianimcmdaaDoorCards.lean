/-
  DERIVED. GIVEN WITH THE SEED: THE CARDS: each row of YtakleianimcmdaaDoorRows.lean that lists a variable, with what it lists TIED to the program's text (the seventh form; the later family's looks); each row that meets fmt, with fmt's text TOLD by the authors' own Lean function (tested against real Go, not proved from fmt's source: count such statements apart). THE CARD IS WHAT COUNTS. Prove the row's statement (the work); the ties are given (YtakleianimcmdaaDoorTie.lean); close each card by the builder's one call (the guide's Derived/Test/ToyasCard.lean, 'card_holds'). Laid BY PROGRAM, IN A SANDBOX (cutbox-door.mjs). By AI agents, Wed Nov 11 2026. No macro, syntax, notation, axiom, sorry.
-/
import Derived.Test.YtakleianimcmdaaDoorRows
import GoSem.ClaimSeven
namespace Go.Proofs.YtakleianimcmdaaDoor
namespace Rows

/-- THE TIED CARD OF 'laws.FnExactSizeOf'. -/
def fnExactSizeOfCard : Claim7 := { stood := { row := fnExactSizeOfRow, standIns := [], harness := (true, "9f3846b947761eff8e98c1fd09d76587973fca53309f4cf52067d54182351055"), looks := false }, kinds := [], alts := [], laidByText := true, laidKinds := [.data, .data], laidTests := true, laidLooks := .later }
def FnExactSizeOfCardSaid : Prop := Claim7.holds Tryd.pinned (.plain (OpenSpec.ofChange fnExactSizeOfSpec)) fnExactSizeOfCard

/-- THE TIED CARD OF 'laws.FnExactGoodCipher'. -/
def fnExactGoodCipherCard : Claim7 := { stood := { row := fnExactGoodCipherRow, standIns := [], harness := (true, "9f3846b947761eff8e98c1fd09d76587973fca53309f4cf52067d54182351055"), looks := false }, kinds := [], alts := [], laidByText := true, laidKinds := [.data, .data], laidTests := true, laidLooks := .later }
def FnExactGoodCipherCardSaid : Prop := Claim7.holds Tryd.pinned (.plain (OpenSpec.ofChange fnExactGoodCipherSpec)) fnExactGoodCipherCard

/-- THE SECOND FORM's CARD OF 'laws.FnExactSizeOf'. -/
def fnExactSizeOfUptoCard : Claim7 := { stood := { row := fnExactSizeOfUptoRow, standIns := [], harness := (true, "9f3846b947761eff8e98c1fd09d76587973fca53309f4cf52067d54182351055"), looks := false }, kinds := [], alts := [], laidByText := true, laidKinds := [.data, .data], laidTests := true, laidLooks := .later }
def FnExactSizeOfUptoCardSaid : Prop := Claim7.holds Tryd.pinned (.plain (OpenSpec.upto fnExactSizeOfSpec)) fnExactSizeOfUptoCard

/-- THE SECOND FORM's CARD OF 'laws.FnExactGoodCipher'. -/
def fnExactGoodCipherUptoCard : Claim7 := { stood := { row := fnExactGoodCipherUptoRow, standIns := [], harness := (true, "9f3846b947761eff8e98c1fd09d76587973fca53309f4cf52067d54182351055"), looks := false }, kinds := [], alts := [], laidByText := true, laidKinds := [.data, .data], laidTests := true, laidLooks := .later }
def FnExactGoodCipherUptoCardSaid : Prop := Claim7.holds Tryd.pinned (.plain (OpenSpec.upto fnExactGoodCipherSpec)) fnExactGoodCipherUptoCard
end Rows
end Go.Proofs.YtakleianimcmdaaDoor
