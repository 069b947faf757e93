/-
  DERIVED. GIVEN WITH THE SEED: THE CARDS: each row of YtfgooclnohnkmaaDoorRows.lean that lists a variable, with what it lists TIED to the program's text (the seventh form; the later family's looks); each row that meets fmt, with fmt's text TOLD by the authors' own Lean function (tested against real Go, not proved from fmt's source: count such statements apart). THE CARD IS WHAT COUNTS. Prove the row's statement (the work); the ties are given (YtfgooclnohnkmaaDoorTie.lean); close each card by the builder's one call (the guide's Derived/Test/ToyasCard.lean, 'card_holds'). Laid BY PROGRAM, IN A SANDBOX (cutbox-door.mjs). By AI agents, Wed Nov 11 2026. No macro, syntax, notation, axiom, sorry.
-/
import Derived.Test.YtfgooclnohnkmaaDoorRows
import GoSem.ClaimSeven
namespace Go.Proofs.YtfgooclnohnkmaaDoor
namespace Rows

/-- THE TIED CARD OF 'laws.FnExact'. -/
def fnExactCard : Claim7 := { stood := { row := fnExactRow, standIns := [], harness := (true, "66042a28722fdf56bb21bfa2c2272ed80964eab168e00dd4d66762ecabd9fe67"), looks := false }, kinds := [], alts := [], laidByText := true, laidKinds := [.data, .data], laidTests := true, laidLooks := .later }
def FnExactCardSaid : Prop := Claim7.holds Tryd.pinned (.plain (OpenSpec.ofChange fnExactSpec)) fnExactCard

/-- THE TIED CARD OF 'laws.FnExactPuncturedOf'. -/
def fnExactPuncturedOfCard : Claim7 := { stood := { row := fnExactPuncturedOfRow, standIns := [], harness := (true, "66042a28722fdf56bb21bfa2c2272ed80964eab168e00dd4d66762ecabd9fe67"), looks := false }, kinds := [], alts := [], laidByText := true, laidKinds := [.data, .data], laidTests := true, laidLooks := .later }
def FnExactPuncturedOfCardSaid : Prop := Claim7.holds Tryd.pinned (.plain (OpenSpec.ofChange fnExactPuncturedOfSpec)) fnExactPuncturedOfCard

/-- THE TIED CARD OF 'laws.FnExactRowsOf'. -/
def fnExactRowsOfCard : Claim7 := { stood := { row := fnExactRowsOfRow, standIns := [], harness := (true, "66042a28722fdf56bb21bfa2c2272ed80964eab168e00dd4d66762ecabd9fe67"), looks := false }, kinds := [], alts := [], laidByText := true, laidKinds := [.data, .data], laidTests := true, laidLooks := .later }
def FnExactRowsOfCardSaid : Prop := Claim7.holds Tryd.pinned (.plain (OpenSpec.ofChange fnExactRowsOfSpec)) fnExactRowsOfCard

/-- THE TIED CARD OF 'laws.FnExactGoodParams'. -/
def fnExactGoodParamsCard : Claim7 := { stood := { row := fnExactGoodParamsRow, standIns := [], harness := (true, "66042a28722fdf56bb21bfa2c2272ed80964eab168e00dd4d66762ecabd9fe67"), looks := false }, kinds := [], alts := [], laidByText := true, laidKinds := [.data, .data], laidTests := true, laidLooks := .later }
def FnExactGoodParamsCardSaid : Prop := Claim7.holds Tryd.pinned (.plain (OpenSpec.ofChange fnExactGoodParamsSpec)) fnExactGoodParamsCard

/-- THE TIED CARD OF 'laws.FnExactSecretFrom'. -/
def fnExactSecretFromCard : Claim7 := { stood := { row := fnExactSecretFromRow, standIns := [], harness := (true, "66042a28722fdf56bb21bfa2c2272ed80964eab168e00dd4d66762ecabd9fe67"), looks := false }, kinds := [], alts := [], laidByText := true, laidKinds := [.data, .data], laidTests := true, laidLooks := .later }
def FnExactSecretFromCardSaid : Prop := Claim7.holds Tryd.pinned (.plain (OpenSpec.ofChange fnExactSecretFromSpec)) fnExactSecretFromCard

/-- THE TIED CARD OF 'laws.FnExactGoodSecret'. -/
def fnExactGoodSecretCard : Claim7 := { stood := { row := fnExactGoodSecretRow, standIns := [], harness := (true, "66042a28722fdf56bb21bfa2c2272ed80964eab168e00dd4d66762ecabd9fe67"), looks := false }, kinds := [], alts := [], laidByText := true, laidKinds := [.data, .data], laidTests := true, laidLooks := .later }
def FnExactGoodSecretCardSaid : Prop := Claim7.holds Tryd.pinned (.plain (OpenSpec.ofChange fnExactGoodSecretSpec)) fnExactGoodSecretCard

/-- THE SECOND FORM's CARD OF 'laws.FnExact'. -/
def fnExactUptoCard : Claim7 := { stood := { row := fnExactUptoRow, standIns := [], harness := (true, "66042a28722fdf56bb21bfa2c2272ed80964eab168e00dd4d66762ecabd9fe67"), looks := false }, kinds := [], alts := [], laidByText := true, laidKinds := [.data, .data], laidTests := true, laidLooks := .later }
def FnExactUptoCardSaid : Prop := Claim7.holds Tryd.pinned (.plain (OpenSpec.upto fnExactSpec)) fnExactUptoCard

/-- THE SECOND FORM's CARD OF 'laws.FnExactPuncturedOf'. -/
def fnExactPuncturedOfUptoCard : Claim7 := { stood := { row := fnExactPuncturedOfUptoRow, standIns := [], harness := (true, "66042a28722fdf56bb21bfa2c2272ed80964eab168e00dd4d66762ecabd9fe67"), looks := false }, kinds := [], alts := [], laidByText := true, laidKinds := [.data, .data], laidTests := true, laidLooks := .later }
def FnExactPuncturedOfUptoCardSaid : Prop := Claim7.holds Tryd.pinned (.plain (OpenSpec.upto fnExactPuncturedOfSpec)) fnExactPuncturedOfUptoCard

/-- THE SECOND FORM's CARD OF 'laws.FnExactRowsOf'. -/
def fnExactRowsOfUptoCard : Claim7 := { stood := { row := fnExactRowsOfUptoRow, standIns := [], harness := (true, "66042a28722fdf56bb21bfa2c2272ed80964eab168e00dd4d66762ecabd9fe67"), looks := false }, kinds := [], alts := [], laidByText := true, laidKinds := [.data, .data], laidTests := true, laidLooks := .later }
def FnExactRowsOfUptoCardSaid : Prop := Claim7.holds Tryd.pinned (.plain (OpenSpec.upto fnExactRowsOfSpec)) fnExactRowsOfUptoCard

/-- THE SECOND FORM's CARD OF 'laws.FnExactGoodParams'. -/
def fnExactGoodParamsUptoCard : Claim7 := { stood := { row := fnExactGoodParamsUptoRow, standIns := [], harness := (true, "66042a28722fdf56bb21bfa2c2272ed80964eab168e00dd4d66762ecabd9fe67"), looks := false }, kinds := [], alts := [], laidByText := true, laidKinds := [.data, .data], laidTests := true, laidLooks := .later }
def FnExactGoodParamsUptoCardSaid : Prop := Claim7.holds Tryd.pinned (.plain (OpenSpec.upto fnExactGoodParamsSpec)) fnExactGoodParamsUptoCard

/-- THE SECOND FORM's CARD OF 'laws.FnExactSecretFrom'. -/
def fnExactSecretFromUptoCard : Claim7 := { stood := { row := fnExactSecretFromUptoRow, standIns := [], harness := (true, "66042a28722fdf56bb21bfa2c2272ed80964eab168e00dd4d66762ecabd9fe67"), looks := false }, kinds := [], alts := [], laidByText := true, laidKinds := [.data, .data], laidTests := true, laidLooks := .later }
def FnExactSecretFromUptoCardSaid : Prop := Claim7.holds Tryd.pinned (.plain (OpenSpec.upto fnExactSecretFromSpec)) fnExactSecretFromUptoCard

/-- THE SECOND FORM's CARD OF 'laws.FnExactGoodSecret'. -/
def fnExactGoodSecretUptoCard : Claim7 := { stood := { row := fnExactGoodSecretUptoRow, standIns := [], harness := (true, "66042a28722fdf56bb21bfa2c2272ed80964eab168e00dd4d66762ecabd9fe67"), looks := false }, kinds := [], alts := [], laidByText := true, laidKinds := [.data, .data], laidTests := true, laidLooks := .later }
def FnExactGoodSecretUptoCardSaid : Prop := Claim7.holds Tryd.pinned (.plain (OpenSpec.upto fnExactGoodSecretSpec)) fnExactGoodSecretUptoCard
end Rows
end Go.Proofs.YtfgooclnohnkmaaDoor
