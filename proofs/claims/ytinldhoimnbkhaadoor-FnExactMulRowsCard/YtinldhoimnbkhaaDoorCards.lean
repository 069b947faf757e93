/-
  DERIVED. GIVEN WITH THE SEED: THE CARDS: each row of YtinldhoimnbkhaaDoorRows.lean that lists a variable, with what it lists TIED to the program's text (the seventh form; the later family's looks); each row that meets fmt, with fmt's text TOLD by the authors' own Lean function (tested against real Go, not proved from fmt's source: count such statements apart). THE CARD IS WHAT COUNTS. Prove the row's statement (the work); the ties are given (YtinldhoimnbkhaaDoorTie.lean); close each card by the builder's one call (the guide's Derived/Test/ToyasCard.lean, 'card_holds'). Laid BY PROGRAM, IN A SANDBOX (cutbox-door.mjs). By AI agents, Wed Nov 11 2026. No macro, syntax, notation, axiom, sorry.
-/
import Derived.Test.YtinldhoimnbkhaaDoorRows
import GoSem.ClaimSeven
namespace Go.Proofs.YtinldhoimnbkhaaDoor
namespace Rows

/-- THE TIED CARD OF 'laws.FnExactGoodRows'. -/
def fnExactGoodRowsCard : Claim7 := { stood := { row := fnExactGoodRowsRow, standIns := [], harness := (true, "31f0944dd0abb3dfcaa2c5a4832d644800fbef7b103f4e32b7899e864321b0c1"), looks := false }, kinds := [], alts := [], laidByText := true, laidKinds := [.data, .data], laidTests := true, laidLooks := .later }
def FnExactGoodRowsCardSaid : Prop := Claim7.holds Tryd.pinned (.plain (OpenSpec.ofChange fnExactGoodRowsSpec)) fnExactGoodRowsCard

/-- THE TIED CARD OF 'laws.FnExactAddRows'. -/
def fnExactAddRowsCard : Claim7 := { stood := { row := fnExactAddRowsRow, standIns := [], harness := (true, "31f0944dd0abb3dfcaa2c5a4832d644800fbef7b103f4e32b7899e864321b0c1"), looks := false }, kinds := [], alts := [], laidByText := true, laidKinds := [.data, .data], laidTests := true, laidLooks := .later }
def FnExactAddRowsCardSaid : Prop := Claim7.holds Tryd.pinned (.plain (OpenSpec.ofChange fnExactAddRowsSpec)) fnExactAddRowsCard

/-- THE TIED CARD OF 'laws.FnExactSubRows'. -/
def fnExactSubRowsCard : Claim7 := { stood := { row := fnExactSubRowsRow, standIns := [], harness := (true, "31f0944dd0abb3dfcaa2c5a4832d644800fbef7b103f4e32b7899e864321b0c1"), looks := false }, kinds := [], alts := [], laidByText := true, laidKinds := [.data, .data], laidTests := true, laidLooks := .later }
def FnExactSubRowsCardSaid : Prop := Claim7.holds Tryd.pinned (.plain (OpenSpec.ofChange fnExactSubRowsSpec)) fnExactSubRowsCard

/-- THE TIED CARD OF 'laws.FnExactMulRows'. -/
def fnExactMulRowsCard : Claim7 := { stood := { row := fnExactMulRowsRow, standIns := [], harness := (true, "31f0944dd0abb3dfcaa2c5a4832d644800fbef7b103f4e32b7899e864321b0c1"), looks := false }, kinds := [], alts := [], laidByText := true, laidKinds := [.data, .data], laidTests := true, laidLooks := .later }
def FnExactMulRowsCardSaid : Prop := Claim7.holds Tryd.pinned (.plain (OpenSpec.ofChange fnExactMulRowsSpec)) fnExactMulRowsCard

/-- THE TIED CARD OF 'laws.FnExactGoodParams'. -/
def fnExactGoodParamsCard : Claim7 := { stood := { row := fnExactGoodParamsRow, standIns := [], harness := (true, "31f0944dd0abb3dfcaa2c5a4832d644800fbef7b103f4e32b7899e864321b0c1"), looks := false }, kinds := [], alts := [], laidByText := true, laidKinds := [.data, .data], laidTests := true, laidLooks := .later }
def FnExactGoodParamsCardSaid : Prop := Claim7.holds Tryd.pinned (.plain (OpenSpec.ofChange fnExactGoodParamsSpec)) fnExactGoodParamsCard

/-- THE TIED CARD OF 'laws.FnExactSecretFrom'. -/
def fnExactSecretFromCard : Claim7 := { stood := { row := fnExactSecretFromRow, standIns := [], harness := (true, "31f0944dd0abb3dfcaa2c5a4832d644800fbef7b103f4e32b7899e864321b0c1"), looks := false }, kinds := [], alts := [], laidByText := true, laidKinds := [.data, .data], laidTests := true, laidLooks := .later }
def FnExactSecretFromCardSaid : Prop := Claim7.holds Tryd.pinned (.plain (OpenSpec.ofChange fnExactSecretFromSpec)) fnExactSecretFromCard

/-- THE TIED CARD OF 'laws.FnExactGoodSecret'. -/
def fnExactGoodSecretCard : Claim7 := { stood := { row := fnExactGoodSecretRow, standIns := [], harness := (true, "31f0944dd0abb3dfcaa2c5a4832d644800fbef7b103f4e32b7899e864321b0c1"), looks := false }, kinds := [], alts := [], laidByText := true, laidKinds := [.data, .data], laidTests := true, laidLooks := .later }
def FnExactGoodSecretCardSaid : Prop := Claim7.holds Tryd.pinned (.plain (OpenSpec.ofChange fnExactGoodSecretSpec)) fnExactGoodSecretCard

/-- THE TIED CARD OF 'laws.FnExactGoodPlain'. -/
def fnExactGoodPlainCard : Claim7 := { stood := { row := fnExactGoodPlainRow, standIns := [], harness := (true, "31f0944dd0abb3dfcaa2c5a4832d644800fbef7b103f4e32b7899e864321b0c1"), looks := false }, kinds := [], alts := [], laidByText := true, laidKinds := [.data, .data], laidTests := true, laidLooks := .later }
def FnExactGoodPlainCardSaid : Prop := Claim7.holds Tryd.pinned (.plain (OpenSpec.ofChange fnExactGoodPlainSpec)) fnExactGoodPlainCard

/-- THE TIED CARD OF 'laws.FnExactGoodCipher'. -/
def fnExactGoodCipherCard : Claim7 := { stood := { row := fnExactGoodCipherRow, standIns := [], harness := (true, "31f0944dd0abb3dfcaa2c5a4832d644800fbef7b103f4e32b7899e864321b0c1"), looks := false }, kinds := [], alts := [], laidByText := true, laidKinds := [.data, .data], laidTests := true, laidLooks := .later }
def FnExactGoodCipherCardSaid : Prop := Claim7.holds Tryd.pinned (.plain (OpenSpec.ofChange fnExactGoodCipherSpec)) fnExactGoodCipherCard

/-- THE SECOND FORM's CARD OF 'laws.FnExactGoodRows'. -/
def fnExactGoodRowsUptoCard : Claim7 := { stood := { row := fnExactGoodRowsUptoRow, standIns := [], harness := (true, "31f0944dd0abb3dfcaa2c5a4832d644800fbef7b103f4e32b7899e864321b0c1"), looks := false }, kinds := [], alts := [], laidByText := true, laidKinds := [.data, .data], laidTests := true, laidLooks := .later }
def FnExactGoodRowsUptoCardSaid : Prop := Claim7.holds Tryd.pinned (.plain (OpenSpec.upto fnExactGoodRowsSpec)) fnExactGoodRowsUptoCard

/-- THE SECOND FORM's CARD OF 'laws.FnExactAddRows'. -/
def fnExactAddRowsUptoCard : Claim7 := { stood := { row := fnExactAddRowsUptoRow, standIns := [], harness := (true, "31f0944dd0abb3dfcaa2c5a4832d644800fbef7b103f4e32b7899e864321b0c1"), looks := false }, kinds := [], alts := [], laidByText := true, laidKinds := [.data, .data], laidTests := true, laidLooks := .later }
def FnExactAddRowsUptoCardSaid : Prop := Claim7.holds Tryd.pinned (.plain (OpenSpec.upto fnExactAddRowsSpec)) fnExactAddRowsUptoCard

/-- THE SECOND FORM's CARD OF 'laws.FnExactSubRows'. -/
def fnExactSubRowsUptoCard : Claim7 := { stood := { row := fnExactSubRowsUptoRow, standIns := [], harness := (true, "31f0944dd0abb3dfcaa2c5a4832d644800fbef7b103f4e32b7899e864321b0c1"), looks := false }, kinds := [], alts := [], laidByText := true, laidKinds := [.data, .data], laidTests := true, laidLooks := .later }
def FnExactSubRowsUptoCardSaid : Prop := Claim7.holds Tryd.pinned (.plain (OpenSpec.upto fnExactSubRowsSpec)) fnExactSubRowsUptoCard

/-- THE SECOND FORM's CARD OF 'laws.FnExactMulRows'. -/
def fnExactMulRowsUptoCard : Claim7 := { stood := { row := fnExactMulRowsUptoRow, standIns := [], harness := (true, "31f0944dd0abb3dfcaa2c5a4832d644800fbef7b103f4e32b7899e864321b0c1"), looks := false }, kinds := [], alts := [], laidByText := true, laidKinds := [.data, .data], laidTests := true, laidLooks := .later }
def FnExactMulRowsUptoCardSaid : Prop := Claim7.holds Tryd.pinned (.plain (OpenSpec.upto fnExactMulRowsSpec)) fnExactMulRowsUptoCard

/-- THE SECOND FORM's CARD OF 'laws.FnExactGoodParams'. -/
def fnExactGoodParamsUptoCard : Claim7 := { stood := { row := fnExactGoodParamsUptoRow, standIns := [], harness := (true, "31f0944dd0abb3dfcaa2c5a4832d644800fbef7b103f4e32b7899e864321b0c1"), looks := false }, kinds := [], alts := [], laidByText := true, laidKinds := [.data, .data], laidTests := true, laidLooks := .later }
def FnExactGoodParamsUptoCardSaid : Prop := Claim7.holds Tryd.pinned (.plain (OpenSpec.upto fnExactGoodParamsSpec)) fnExactGoodParamsUptoCard

/-- THE SECOND FORM's CARD OF 'laws.FnExactSecretFrom'. -/
def fnExactSecretFromUptoCard : Claim7 := { stood := { row := fnExactSecretFromUptoRow, standIns := [], harness := (true, "31f0944dd0abb3dfcaa2c5a4832d644800fbef7b103f4e32b7899e864321b0c1"), looks := false }, kinds := [], alts := [], laidByText := true, laidKinds := [.data, .data], laidTests := true, laidLooks := .later }
def FnExactSecretFromUptoCardSaid : Prop := Claim7.holds Tryd.pinned (.plain (OpenSpec.upto fnExactSecretFromSpec)) fnExactSecretFromUptoCard

/-- THE SECOND FORM's CARD OF 'laws.FnExactGoodSecret'. -/
def fnExactGoodSecretUptoCard : Claim7 := { stood := { row := fnExactGoodSecretUptoRow, standIns := [], harness := (true, "31f0944dd0abb3dfcaa2c5a4832d644800fbef7b103f4e32b7899e864321b0c1"), looks := false }, kinds := [], alts := [], laidByText := true, laidKinds := [.data, .data], laidTests := true, laidLooks := .later }
def FnExactGoodSecretUptoCardSaid : Prop := Claim7.holds Tryd.pinned (.plain (OpenSpec.upto fnExactGoodSecretSpec)) fnExactGoodSecretUptoCard

/-- THE SECOND FORM's CARD OF 'laws.FnExactGoodPlain'. -/
def fnExactGoodPlainUptoCard : Claim7 := { stood := { row := fnExactGoodPlainUptoRow, standIns := [], harness := (true, "31f0944dd0abb3dfcaa2c5a4832d644800fbef7b103f4e32b7899e864321b0c1"), looks := false }, kinds := [], alts := [], laidByText := true, laidKinds := [.data, .data], laidTests := true, laidLooks := .later }
def FnExactGoodPlainUptoCardSaid : Prop := Claim7.holds Tryd.pinned (.plain (OpenSpec.upto fnExactGoodPlainSpec)) fnExactGoodPlainUptoCard

/-- THE SECOND FORM's CARD OF 'laws.FnExactGoodCipher'. -/
def fnExactGoodCipherUptoCard : Claim7 := { stood := { row := fnExactGoodCipherUptoRow, standIns := [], harness := (true, "31f0944dd0abb3dfcaa2c5a4832d644800fbef7b103f4e32b7899e864321b0c1"), looks := false }, kinds := [], alts := [], laidByText := true, laidKinds := [.data, .data], laidTests := true, laidLooks := .later }
def FnExactGoodCipherUptoCardSaid : Prop := Claim7.holds Tryd.pinned (.plain (OpenSpec.upto fnExactGoodCipherSpec)) fnExactGoodCipherUptoCard
end Rows
end Go.Proofs.YtinldhoimnbkhaaDoor
