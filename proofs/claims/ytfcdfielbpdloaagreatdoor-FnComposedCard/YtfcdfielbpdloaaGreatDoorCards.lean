/-
  DERIVED. GIVEN WITH THE SEED: THE CARDS: each row of YtfcdfielbpdloaaGreatDoorRows.lean that lists a variable, with what it lists TIED to the program's text (the seventh form; the later family's looks); each row that meets fmt, with fmt's text TOLD by the authors' own Lean function (tested against real Go, not proved from fmt's source: count such statements apart). THE CARD IS WHAT COUNTS. Prove the row's statement (the work); the ties are given (YtfcdfielbpdloaaGreatDoorTie.lean); close each card by the builder's one call (the guide's Derived/Test/ToyasCard.lean, 'card_holds'). Laid BY PROGRAM, IN A SANDBOX (cutbox-door.mjs). By AI agents, Wed Nov 11 2026. No macro, syntax, notation, axiom, sorry.
-/
import Derived.Test.YtfcdfielbpdloaaGreatDoorRows
import GoSem.ClaimSeven
namespace Go.Proofs.YtfcdfielbpdloaaGreatDoor
namespace Rows

/-- THE TIED CARD OF 'laws.FnComposed'. -/
def fnComposedCard : Claim7 := { stood := { row := fnComposedRow, standIns := [], harness := (true, "2af229f8887588a05972549a96a4f0c94c4e9ee6db0b34c8802435f069895de8"), looks := false }, kinds := [], alts := [], laidByText := true, laidKinds := [.data, .data], laidTests := true, laidLooks := .later }
def FnComposedCardSaid : Prop := Claim7.holds Tryz.pinned (.plain (OpenSpec.ofChange fnComposedSpec)) fnComposedCard

/-- THE TIED CARD OF 'laws.FnFast'. -/
def fnFastCard : Claim7 := { stood := { row := fnFastRow, standIns := [], harness := (true, "2af229f8887588a05972549a96a4f0c94c4e9ee6db0b34c8802435f069895de8"), looks := false }, kinds := [], alts := [], laidByText := true, laidKinds := [.data, .data], laidTests := true, laidLooks := .later }
def FnFastCardSaid : Prop := Claim7.holds Tryz.pinned (.plain (OpenSpec.ofChange fnFastSpec)) fnFastCard

/-- THE SECOND FORM's CARD OF 'laws.FnComposed'. -/
def fnComposedUptoCard : Claim7 := { stood := { row := fnComposedUptoRow, standIns := [], harness := (true, "2af229f8887588a05972549a96a4f0c94c4e9ee6db0b34c8802435f069895de8"), looks := false }, kinds := [], alts := [], laidByText := true, laidKinds := [.data, .data], laidTests := true, laidLooks := .later }
def FnComposedUptoCardSaid : Prop := Claim7.holds Tryz.pinned (.plain (OpenSpec.upto fnComposedSpec)) fnComposedUptoCard

/-- THE SECOND FORM's CARD OF 'laws.FnFast'. -/
def fnFastUptoCard : Claim7 := { stood := { row := fnFastUptoRow, standIns := [], harness := (true, "2af229f8887588a05972549a96a4f0c94c4e9ee6db0b34c8802435f069895de8"), looks := false }, kinds := [], alts := [], laidByText := true, laidKinds := [.data, .data], laidTests := true, laidLooks := .later }
def FnFastUptoCardSaid : Prop := Claim7.holds Tryz.pinned (.plain (OpenSpec.upto fnFastSpec)) fnFastUptoCard
end Rows
end Go.Proofs.YtfcdfielbpdloaaGreatDoor
