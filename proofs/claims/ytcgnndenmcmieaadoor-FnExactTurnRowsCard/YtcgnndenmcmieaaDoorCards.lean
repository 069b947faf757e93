/-
  DERIVED. GIVEN WITH THE SEED: THE CARDS: each row of YtcgnndenmcmieaaDoorRows.lean that lists a variable, with what it lists TIED to the program's text (the seventh form; the later family's looks); each row that meets fmt, with fmt's text TOLD by the authors' own Lean function (tested against real Go, not proved from fmt's source: count such statements apart). THE CARD IS WHAT COUNTS. Prove the row's statement (the work); the ties are given (YtcgnndenmcmieaaDoorTie.lean); close each card by the builder's one call (the guide's Derived/Test/ToyasCard.lean, 'card_holds'). Laid BY PROGRAM, IN A SANDBOX (cutbox-door.mjs). By AI agents, Wed Nov 11 2026. No macro, syntax, notation, axiom, sorry.
-/
import Derived.Test.YtcgnndenmcmieaaDoorRows
import GoSem.ClaimSeven
namespace Go.Proofs.YtcgnndenmcmieaaDoor
namespace Rows

/-- THE TIED CARD OF 'laws.FnExactMulRing'. -/
def fnExactMulRingCard : Claim7 := { stood := { row := fnExactMulRingRow, standIns := [], harness := (true, "07f27d5e35c6e2593dd73dcb3699ce5e39762db4de361e45ba224b2a4f7d6c55"), looks := false }, kinds := [], alts := [], laidByText := true, laidKinds := [.data, .data], laidTests := true, laidLooks := .later }
def FnExactMulRingCardSaid : Prop := Claim7.holds Tryd.pinned (.plain (OpenSpec.ofChange fnExactMulRingSpec)) fnExactMulRingCard

/-- THE TIED CARD OF 'laws.FnExactPuncturedOf'. -/
def fnExactPuncturedOfCard : Claim7 := { stood := { row := fnExactPuncturedOfRow, standIns := [], harness := (true, "07f27d5e35c6e2593dd73dcb3699ce5e39762db4de361e45ba224b2a4f7d6c55"), looks := false }, kinds := [], alts := [], laidByText := true, laidKinds := [.data, .data], laidTests := true, laidLooks := .later }
def FnExactPuncturedOfCardSaid : Prop := Claim7.holds Tryd.pinned (.plain (OpenSpec.ofChange fnExactPuncturedOfSpec)) fnExactPuncturedOfCard

/-- THE TIED CARD OF 'laws.FnExactRowsOf'. -/
def fnExactRowsOfCard : Claim7 := { stood := { row := fnExactRowsOfRow, standIns := [], harness := (true, "07f27d5e35c6e2593dd73dcb3699ce5e39762db4de361e45ba224b2a4f7d6c55"), looks := false }, kinds := [], alts := [], laidByText := true, laidKinds := [.data, .data], laidTests := true, laidLooks := .later }
def FnExactRowsOfCardSaid : Prop := Claim7.holds Tryd.pinned (.plain (OpenSpec.ofChange fnExactRowsOfSpec)) fnExactRowsOfCard

/-- THE TIED CARD OF 'laws.FnExactMulRows'. -/
def fnExactMulRowsCard : Claim7 := { stood := { row := fnExactMulRowsRow, standIns := [], harness := (true, "07f27d5e35c6e2593dd73dcb3699ce5e39762db4de361e45ba224b2a4f7d6c55"), looks := false }, kinds := [], alts := [], laidByText := true, laidKinds := [.data, .data], laidTests := true, laidLooks := .later }
def FnExactMulRowsCardSaid : Prop := Claim7.holds Tryd.pinned (.plain (OpenSpec.ofChange fnExactMulRowsSpec)) fnExactMulRowsCard

/-- THE TIED CARD OF 'laws.FnExactTurnRows'. -/
def fnExactTurnRowsCard : Claim7 := { stood := { row := fnExactTurnRowsRow, standIns := [], harness := (true, "07f27d5e35c6e2593dd73dcb3699ce5e39762db4de361e45ba224b2a4f7d6c55"), looks := false }, kinds := [], alts := [], laidByText := true, laidKinds := [.data, .data], laidTests := true, laidLooks := .later }
def FnExactTurnRowsCardSaid : Prop := Claim7.holds Tryd.pinned (.plain (OpenSpec.ofChange fnExactTurnRowsSpec)) fnExactTurnRowsCard

/-- THE TIED CARD OF 'laws.FnExactAheadRows'. -/
def fnExactAheadRowsCard : Claim7 := { stood := { row := fnExactAheadRowsRow, standIns := [], harness := (true, "07f27d5e35c6e2593dd73dcb3699ce5e39762db4de361e45ba224b2a4f7d6c55"), looks := false }, kinds := [], alts := [], laidByText := true, laidKinds := [.data, .data], laidTests := true, laidLooks := .later }
def FnExactAheadRowsCardSaid : Prop := Claim7.holds Tryd.pinned (.plain (OpenSpec.ofChange fnExactAheadRowsSpec)) fnExactAheadRowsCard

/-- THE TIED CARD OF 'laws.FnExactBackRows'. -/
def fnExactBackRowsCard : Claim7 := { stood := { row := fnExactBackRowsRow, standIns := [], harness := (true, "07f27d5e35c6e2593dd73dcb3699ce5e39762db4de361e45ba224b2a4f7d6c55"), looks := false }, kinds := [], alts := [], laidByText := true, laidKinds := [.data, .data], laidTests := true, laidLooks := .later }
def FnExactBackRowsCardSaid : Prop := Claim7.holds Tryd.pinned (.plain (OpenSpec.ofChange fnExactBackRowsSpec)) fnExactBackRowsCard

/-- THE SECOND FORM's CARD OF 'laws.FnExactMulRing'. -/
def fnExactMulRingUptoCard : Claim7 := { stood := { row := fnExactMulRingUptoRow, standIns := [], harness := (true, "07f27d5e35c6e2593dd73dcb3699ce5e39762db4de361e45ba224b2a4f7d6c55"), looks := false }, kinds := [], alts := [], laidByText := true, laidKinds := [.data, .data], laidTests := true, laidLooks := .later }
def FnExactMulRingUptoCardSaid : Prop := Claim7.holds Tryd.pinned (.plain (OpenSpec.upto fnExactMulRingSpec)) fnExactMulRingUptoCard

/-- THE SECOND FORM's CARD OF 'laws.FnExactPuncturedOf'. -/
def fnExactPuncturedOfUptoCard : Claim7 := { stood := { row := fnExactPuncturedOfUptoRow, standIns := [], harness := (true, "07f27d5e35c6e2593dd73dcb3699ce5e39762db4de361e45ba224b2a4f7d6c55"), looks := false }, kinds := [], alts := [], laidByText := true, laidKinds := [.data, .data], laidTests := true, laidLooks := .later }
def FnExactPuncturedOfUptoCardSaid : Prop := Claim7.holds Tryd.pinned (.plain (OpenSpec.upto fnExactPuncturedOfSpec)) fnExactPuncturedOfUptoCard

/-- THE SECOND FORM's CARD OF 'laws.FnExactRowsOf'. -/
def fnExactRowsOfUptoCard : Claim7 := { stood := { row := fnExactRowsOfUptoRow, standIns := [], harness := (true, "07f27d5e35c6e2593dd73dcb3699ce5e39762db4de361e45ba224b2a4f7d6c55"), looks := false }, kinds := [], alts := [], laidByText := true, laidKinds := [.data, .data], laidTests := true, laidLooks := .later }
def FnExactRowsOfUptoCardSaid : Prop := Claim7.holds Tryd.pinned (.plain (OpenSpec.upto fnExactRowsOfSpec)) fnExactRowsOfUptoCard

/-- THE SECOND FORM's CARD OF 'laws.FnExactMulRows'. -/
def fnExactMulRowsUptoCard : Claim7 := { stood := { row := fnExactMulRowsUptoRow, standIns := [], harness := (true, "07f27d5e35c6e2593dd73dcb3699ce5e39762db4de361e45ba224b2a4f7d6c55"), looks := false }, kinds := [], alts := [], laidByText := true, laidKinds := [.data, .data], laidTests := true, laidLooks := .later }
def FnExactMulRowsUptoCardSaid : Prop := Claim7.holds Tryd.pinned (.plain (OpenSpec.upto fnExactMulRowsSpec)) fnExactMulRowsUptoCard

/-- THE SECOND FORM's CARD OF 'laws.FnExactTurnRows'. -/
def fnExactTurnRowsUptoCard : Claim7 := { stood := { row := fnExactTurnRowsUptoRow, standIns := [], harness := (true, "07f27d5e35c6e2593dd73dcb3699ce5e39762db4de361e45ba224b2a4f7d6c55"), looks := false }, kinds := [], alts := [], laidByText := true, laidKinds := [.data, .data], laidTests := true, laidLooks := .later }
def FnExactTurnRowsUptoCardSaid : Prop := Claim7.holds Tryd.pinned (.plain (OpenSpec.upto fnExactTurnRowsSpec)) fnExactTurnRowsUptoCard

/-- THE SECOND FORM's CARD OF 'laws.FnExactAheadRows'. -/
def fnExactAheadRowsUptoCard : Claim7 := { stood := { row := fnExactAheadRowsUptoRow, standIns := [], harness := (true, "07f27d5e35c6e2593dd73dcb3699ce5e39762db4de361e45ba224b2a4f7d6c55"), looks := false }, kinds := [], alts := [], laidByText := true, laidKinds := [.data, .data], laidTests := true, laidLooks := .later }
def FnExactAheadRowsUptoCardSaid : Prop := Claim7.holds Tryd.pinned (.plain (OpenSpec.upto fnExactAheadRowsSpec)) fnExactAheadRowsUptoCard

/-- THE SECOND FORM's CARD OF 'laws.FnExactBackRows'. -/
def fnExactBackRowsUptoCard : Claim7 := { stood := { row := fnExactBackRowsUptoRow, standIns := [], harness := (true, "07f27d5e35c6e2593dd73dcb3699ce5e39762db4de361e45ba224b2a4f7d6c55"), looks := false }, kinds := [], alts := [], laidByText := true, laidKinds := [.data, .data], laidTests := true, laidLooks := .later }
def FnExactBackRowsUptoCardSaid : Prop := Claim7.holds Tryd.pinned (.plain (OpenSpec.upto fnExactBackRowsSpec)) fnExactBackRowsUptoCard
end Rows
end Go.Proofs.YtcgnndenmcmieaaDoor
