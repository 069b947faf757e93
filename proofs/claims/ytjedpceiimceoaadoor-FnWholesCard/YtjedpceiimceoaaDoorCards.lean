/-
  DERIVED. GIVEN WITH THE SEED: THE CARDS: each row of YtjedpceiimceoaaDoorRows.lean that lists a variable, with what it lists TIED to the program's text (the seventh form; the later family's looks); each row that meets fmt, with fmt's text TOLD by the authors' own Lean function (tested against real Go, not proved from fmt's source: count such statements apart). THE CARD IS WHAT COUNTS. Prove the row's statement (the work); the ties are given (YtjedpceiimceoaaDoorTie.lean); close each card by the builder's one call (the guide's Derived/Test/ToyasCard.lean, 'card_holds'). Laid BY PROGRAM, IN A SANDBOX (cutbox-door.mjs). By AI agents, Wed Nov 11 2026. No macro, syntax, notation, axiom, sorry.
-/
import Derived.Test.YtjedpceiimceoaaDoorRows
import GoSem.ClaimSeven
namespace Go.Proofs.YtjedpceiimceoaaDoor
namespace Rows

/-- THE TIED CARD OF 'laws.FnWholes'. -/
def fnWholesCard : Claim7 := { stood := { row := fnWholesRow, standIns := [], harness := (true, "042eb85aaaa7e882af04edf702387b1f44c4c14880e173bb7d3e4ac18b8cde3c"), looks := false }, kinds := [], alts := [], laidByText := true, laidKinds := [.data, .data, .data], laidTests := true, laidLooks := .later }
def FnWholesCardSaid : Prop := Claim7.holds Tryd.pinned (.plain (OpenSpec.ofChange fnWholesSpec)) fnWholesCard

/-- THE TIED CARD OF 'laws.FnExactWholeText'. -/
def fnExactWholeTextCard : Claim7 := { stood := { row := fnExactWholeTextRow, standIns := [], harness := (true, "042eb85aaaa7e882af04edf702387b1f44c4c14880e173bb7d3e4ac18b8cde3c"), looks := false }, kinds := [], alts := [], laidByText := true, laidKinds := [.data, .data, .data], laidTests := true, laidLooks := .later }
def FnExactWholeTextCardSaid : Prop := Claim7.holds Tryd.pinned (.plain (OpenSpec.ofChange fnExactWholeTextSpec)) fnExactWholeTextCard

/-- THE SECOND FORM's CARD OF 'laws.FnWholes'. -/
def fnWholesUptoCard : Claim7 := { stood := { row := fnWholesUptoRow, standIns := [], harness := (true, "042eb85aaaa7e882af04edf702387b1f44c4c14880e173bb7d3e4ac18b8cde3c"), looks := false }, kinds := [], alts := [], laidByText := true, laidKinds := [.data, .data, .data], laidTests := true, laidLooks := .later }
def FnWholesUptoCardSaid : Prop := Claim7.holds Tryd.pinned (.plain (OpenSpec.upto fnWholesSpec)) fnWholesUptoCard

/-- THE SECOND FORM's CARD OF 'laws.FnExactWholeText'. -/
def fnExactWholeTextUptoCard : Claim7 := { stood := { row := fnExactWholeTextUptoRow, standIns := [], harness := (true, "042eb85aaaa7e882af04edf702387b1f44c4c14880e173bb7d3e4ac18b8cde3c"), looks := false }, kinds := [], alts := [], laidByText := true, laidKinds := [.data, .data, .data], laidTests := true, laidLooks := .later }
def FnExactWholeTextUptoCardSaid : Prop := Claim7.holds Tryd.pinned (.plain (OpenSpec.upto fnExactWholeTextSpec)) fnExactWholeTextUptoCard
end Rows
end Go.Proofs.YtjedpceiimceoaaDoor
