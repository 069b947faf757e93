/- Proved: at every argument the statement FnExactRootOf returns true, so the program's RootOf answers as its model, the two tables that it reads starting as the program's text lays them. -/
import Derived.Test.YtgejgkbpbikadaaDoorCards
import Derived.Test.YtgejgkbpbikadaaDoorTie
import Derived.WalkKit
import Derived.ProofKit
import Derived.OpenShut
import Derived.Handy
import Derived.Deep.DeepHandedRow
import Derived.Lib.LaidTab
import Derived.Stop.LaidErr
import Derived.Test.YtgejgkbpbikadaaDoorRoot
namespace Go.Proofs.YtgejgkbpbikadaaDoor.fnExactRootOf
open Go.ChangeShapes Go.WideShapes Go.ChangeAt Go.RowKit
set_option linter.unusedVariables false

theorem own : ownKnob Tryd.prog.godebug = none := by kernel_rfl
theorem laidOut : laidOutB Tryd.prog = true := by kernel_rfl
theorem gTab : Tryd.prog.globalNamed "math/bits.deBruijn64tab" = some 1 := by kernel_rfl
theorem gTabType : (Tryd.prog.globals[1]?).map (·.type) = some 54 := by kernel_rfl
theorem gPrs : Tryd.prog.globalNamed "loop.example/g00133/impl.smallPrimes" = some 0 := by kernel_rfl
theorem gPrsType : (Tryd.prog.globals[0]?).map (·.type) = some 46 := by kernel_rfl
theorem cells54 : Tryd.prog.cellsOf 54 = 64 := by kernel_rfl
theorem cells46 : Tryd.prog.cellsOf 46 = 12 := by kernel_rfl
theorem cells5 : Tryd.prog.cellsOf 5 = 1 := by kernel_rfl
theorem cells29 : Tryd.prog.cellsOf 29 = 1 := by kernel_rfl
theorem rowed : varsRowed Tryd.prog Rows.fnExactRootOfSpec.vars = true := by kernel_rfl
def tabI : List Int := [0, 1, 56, 2, 57, 49, 28, 3, 61, 58, 42, 50, 38, 29, 17, 4, 62, 47, 59, 36, 45, 43, 51, 22, 53, 39, 33, 30, 24, 18, 12, 5, 63, 55, 48, 27, 60, 41, 37, 16, 46, 35, 44, 21, 52, 32, 23, 11, 54, 26, 40, 15, 34, 20, 31, 10, 25, 14, 19, 9, 13, 8, 7, 6]
def prsI : List Int := [2, 3, 5, 7, 11, 13, 17, 19, 23, 29, 31, 37]
theorem laidIs : Rows.fnExactRootOfRow.laid = [("math/bits.deBruijn64tab", Lib.tabData .u8 tabI), ("loop.example/g00133/impl.smallPrimes", Lib.tabData .u64 prsI)] := by kernel_rfl
/-- what the row's list gives: the cells of the two tables -/
theorem tables {W : World} (h : laidMetH Tryd.prog Rows.fnExactRootOfRow.laid W) : TabW W ∧ PrsW W := by
  rw [laidIs] at h
  have h' : laidMet Tryd.prog [("math/bits.deBruijn64tab", Lib.tabData .u8 tabI), ("loop.example/g00133/impl.smallPrimes", Lib.tabData .u64 prsI)] W := h
  have t1 := Lib.tabIs_of_head gTab gTabType Tryd.underlying54 Tryd.underlying5 cells5 cells54 h'
  have t2 := Lib.tabIs_of_head gPrs gPrsType Tryd.underlying46 Tryd.underlying29 cells29 cells46 (laidMet.tail h')
  refine ⟨fun j hj => ?_, fun j hj => ?_⟩
  · rw [t1.cell gTab j hj]
    exact congrArg (fun z => some (Value.int .u8 z)) ((show ∀ j, j < 64 → tabI.getD j 0 = ((Lib.deBruijn64tab.getD j 0 : Nat) : Int) by decide) j hj)
  · rw [t2.cell gPrs j hj]
    exact congrArg (fun z => some (Value.int .u64 z)) ((show ∀ j, j < 12 → prsI.getD j 0 = ((smallP.getD j 0 : Nat) : Int) by decide) j hj)

theorem both (p n z : Int) (b : Bool) (w : World) (hT : TabW w) (hP : PrsW w)
    (c1 : ∀ W, Calls Tryd.prog 8 #[.int .i64 p, .int .i64 n] W fun e w' => e = .returned (.tuple #[.int .i64 z, .bool b]) ∧ Grown W w')
    (c2 : ∀ W, PrsW W → TabW W → Calls Tryd.prog 7 #[.int .i64 p, .int .i64 n] W fun e w' => e = .returned (.tuple #[.int .i64 z, .bool b]) ∧ ∃ k, w' = W.drewN k) :
    Calls Tryd.prog 5 #[.int .i64 p, .int .i64 n] w fun e w' => e = .returned (.bool true) ∧ Grown w w' := by
  have HT : Hid (TabW w) := hT
  have HP : Hid (PrsW w) := hP
  clear hT hP
  have dz : (z != z) = false := by simp
  have dB : (b != b) = false := by simp
  go_enter Tryd.func5, Tryd.ntmps5
  go_wp2_with fail
  refine (c1 _).mono ?_
  rintro e w1 ⟨rfl, g1⟩
  go_wp2_with fail
  refine (c2 _ (HP.out.grown g1) (HT.out.grown g1)).mono ?_
  rintro e w2 ⟨rfl, k, rfl⟩
  go_wp2_with fail
  go_ret
  exact ⟨rfl, g1⟩
theorem walk (a0 a1 : Int) (w0 : (Lit.int .i64 a0).wf = true) (w1 : (Lit.int .i64 a1).wf = true) (w : World) (hT : TabW w) (hP : PrsW w) :
    Calls Tryd.prog 5 #[.int .i64 a0, .int .i64 a1] w fun e w' => e = .returned (.bool true) ∧ Grown w w' := by
  by_cases h : RootOk a0 a1
  · obtain ⟨p, rfl⟩ := Int.eq_ofNat_of_zero_le (show 0 ≤ a0 by have := modB_yes h.md; omega)
    obtain ⟨n, rfl⟩ := Int.eq_ofNat_of_zero_le (show 0 ≤ a1 by have := ordB_bd h.ord; omega)
    obtain ⟨R, _, c2, c1⟩ := RootOf_both p n h
    exact both _ _ _ true w hT hP c1 c2
  · exact both _ _ _ false w hT hP (fun W => spec_RootOf_no a0 a1 W h) (fun W h1 h2 => impl_RootOf_no a0 a1 W h1 h2 h)

theorem contract (H : Type) (enc : TypeId × Value → H) (W : World) (base : Nat) (args : Array Value) (ds gs : List (DataW H)) (before : List MemPlace)
    (hval : ∀ (j : Nat) t v, Tryd.f5.params[j]? = some t → args[j]? = some v → Value.okWide Tryd.prog W .any base t v)
    (hW : DataW.Whole enc Tryd.prog Tryd.f5.params.toList Rows.fnExactRootOfSpec.vars false W args.toList ds gs before) (hL : laidMetH Tryd.prog Rows.fnExactRootOfRow.laid W) :
    Calls Tryd.prog 5 args W fun e W' => ∃ v, e = .returned v ∧ Rows.fnExactRootOfSpec.post enc Tryd.prog Tryd.f5 false true false false W args v W' := by
  have hW' := hW
  obtain ⟨p, q, hA0, hV, rfl, hfz, hnd⟩ := hW
  have hA : DataW.TrodAll enc Tryd.prog W 0 (fun _ => true) true Tryd.f5.params.toList args.toList ds p := hA0
  rw [Tryd.params5] at hA hval
  obtain ⟨v0, vs0, d0, ds0, p0, q0, hargs, rfl, rfl, h0, r0⟩ := trodAll_cons hA
  obtain ⟨v1, vs1, d1, ds1, p1, q1, rfl, rfl, rfl, h1, r1⟩ := trodAll_cons r0
  obtain ⟨rfl, rfl, rfl⟩ := trodAll_nil r1
  obtain rfl : args = #[v0, v1] := by cases args; simp_all
  obtain ⟨a0, rfl, rfl, rfl, w0⟩ := open_int Tryd.underlying3 (hval 0 3 v0 rfl rfl) h0
  obtain ⟨a1, rfl, rfl, rfl, w1⟩ := open_int Tryd.underlying3 (hval 1 3 v1 rfl rfl) h1
  clear hA0
  obtain ⟨hT, hP⟩ := tables hL
  obtain ⟨g1, rfl⟩ : ∃ g1, gs = [g1] := by
    obtain ⟨_, _, _, _, d, _, e, _⟩ := trodVars_one hV
    exact ⟨d, e⟩
  refine (walk a0 a1 w0 w1 W hT hP).mono fun e W' ⟨he, hg⟩ => ?_
  subst he
  simp only [List.nil_append] at hW'
  exact ⟨_, rfl, post_of_same (pa := []) (pv := q) hW' (fun _ _ _ => trodAll_cons_mk (shut_bool Tryd.underlying4 _) trodAll_mk0) (fun _ _ => (trodAll_cons_mk (shut_int Tryd.underlying3 w0) (trodAll_cons_mk (shut_int Tryd.underlying3 w1) trodAll_mk0))) (fun sp hsp => var_stays laidOut hg rowed hV hsp) rfl
    (hg.frame _) hg.2.1 (ok_one (by kernel_rfl) rfl (okWide_bool_mk Tryd.underlying4 _))⟩

def heapA (h : Array Obj) : Array Obj := h.modify 0 fun o => match o with
  | .cells _ t frozen => .cells #[.int .u64 2, .int .u64 3, .int .u64 5, .int .u64 7, .int .u64 11, .int .u64 13, .int .u64 17, .int .u64 19, .int .u64 23, .int .u64 29, .int .u64 31, .int .u64 37] t frozen
  | o => o
def heapB (h : Array Obj) : Array Obj := (heapA h).modify 1 fun o => match o with
  | .cells _ t frozen => .cells #[.int .u8 0, .int .u8 1, .int .u8 56, .int .u8 2, .int .u8 57, .int .u8 49, .int .u8 28, .int .u8 3, .int .u8 61, .int .u8 58, .int .u8 42, .int .u8 50, .int .u8 38, .int .u8 29, .int .u8 17, .int .u8 4, .int .u8 62, .int .u8 47, .int .u8 59, .int .u8 36, .int .u8 45, .int .u8 43, .int .u8 51, .int .u8 22, .int .u8 53, .int .u8 39, .int .u8 33, .int .u8 30, .int .u8 24, .int .u8 18, .int .u8 12, .int .u8 5, .int .u8 63, .int .u8 55, .int .u8 48, .int .u8 27, .int .u8 60, .int .u8 41, .int .u8 37, .int .u8 16, .int .u8 46, .int .u8 35, .int .u8 44, .int .u8 21, .int .u8 52, .int .u8 32, .int .u8 23, .int .u8 11, .int .u8 54, .int .u8 26, .int .u8 40, .int .u8 15, .int .u8 34, .int .u8 20, .int .u8 31, .int .u8 10, .int .u8 25, .int .u8 14, .int .u8 19, .int .u8 9, .int .u8 13, .int .u8 8, .int .u8 7, .int .u8 6] t frozen
  | o => o
def layW (w : World) : World := { w with heap := heapB w.heap }
theorem laid_met (os : Os) : laidMet Tryd.prog Rows.fnExactRootOfRow.laid ((layW (World.holding Tryd.prog os ⟨#[], #[], []⟩)).forCall (fun _ _ => 0) ⟨#[], #[.int .i64 0, .int .i64 0], []⟩).memory :=
  laidMet_of_run' 8 (by kernel_rfl) (by kernel_rfl)
theorem reads (os : Os) {H : Type} (enc : TypeId × Value → H) : ∃ places, DataW.whole enc Tryd.prog ((layW (World.holding Tryd.prog os ⟨#[], #[], []⟩)).forCall (fun _ _ => 0) ⟨#[], #[.int .i64 0, .int .i64 0], []⟩).memory Tryd.f5.params.toList Rows.fnExactRootOfSpec.vars false #[Value.int .i64 0, Value.int .i64 0].toList 8 = some ([.lit (.int .i64 0), .lit (.int .i64 0)], [Rows.laid_loop_example_g00133_impl_smallPrimes], places) :=
  ⟨MemPlace.row ⟨0, 0, none⟩ 12, by kernel_rfl⟩

set_option maxRecDepth 100000 in
theorem lifted (os : Os) (started : os.Started) (H : Type) (enc : TypeId × Value → H) (F : Stop.Interp) :
    ReturnsInHanded {} Tryd.checked os 5 .any ((OpenSpec.ofChange Rows.fnExactRootOfSpec).preRow enc Tryd.prog Tryd.f5 Rows.fnExactRootOfRow.domain false Rows.fnExactRootOfRow.laid) (((OpenSpec.ofChange Rows.fnExactRootOfSpec).at F).post enc Tryd.prog Tryd.f5 false true false false) := by
  obtain ⟨places, hx⟩ := reads os enc
  refine returnsInHanded_of_row (C := Tryd.checked) (s := OpenSpec.ofChange Rows.fnExactRootOfSpec) own started (by kernel_rfl) Tryd.func5
    (witness_row_at (enc := enc) (C := Tryd.checked) false (layW (World.holding Tryd.prog os ⟨#[], #[], []⟩)) #[.int .i64 0, .int .i64 0] rfl (by kernel_rfl) (by kernel_rfl) (by kernel_rfl)
      (OpenSpec.preRow_of_cond 8 hx (by kernel_rfl) (fun k hk => by cases hk) (by kernel_rfl) (laid_met os))) ?_
  intro W base args ds gs before hval hW _ _ _ hL _ _
  exact contract H enc W base args ds gs before hval hW hL

theorem said : Rows.FnExactRootOfSaid :=
  OpenClaim.holds_of_cond 5 Tryd.f5 rfl rfl rfl rfl rfl rfl rfl ⟨rfl, rfl, rfl, rfl, rfl⟩ rfl rfl rfl rfl rfl (by kernel_rfl) Tryd.func5 (by kernel_rfl)
    (of_decide_eq_true (by kernel_rfl)) (by unfold Func.isWrapper; first | (rw [if_pos (by decide +kernel)]; kernel_rfl) | (rw [if_neg (by decide +kernel)]; exact ⟨rfl, rfl⟩))
    (fun os started H enc _ F => by rw [OpenClaim.pre_eq_preRow]; exact lifted os started H enc F)

theorem plain (f : FuncId) (fn : Func) (hf : Tryd.pinned.checked.prog.funcNamed "loop.example/g00133/laws.FnExactRootOf" = some f) (hfn : Tryd.pinned.checked.prog.funcs[f]? = some fn) :
    false = Tryd.pinned.checked.prog.looks [] ∧ ∀ (j : Nat) t, fn.params[j]? = some t → Tryd.pinned.checked.prog.wantsStandIn t = false := by
  obtain rfl : f = 5 := Option.some.inj ((show Tryd.prog.funcNamed "loop.example/g00133/laws.FnExactRootOf" = some 5 by kernel_rfl).symm.trans hf) |>.symm
  obtain rfl : fn = Tryd.f5 := (Option.some.inj (Tryd.func5.symm.trans hfn)).symm
  refine ⟨by kernel_rfl, fun j t ht => ?_⟩
  rw [Tryd.params5] at ht
  obtain rfl : t = 3 := by simpa using Array.mem_of_getElem? ht
  exact (show Tryd.prog.wantsStandIn 3 = false by kernel_rfl)
end Go.Proofs.YtgejgkbpbikadaaDoor.fnExactRootOf
namespace Go.Proofs.YtgejgkbpbikadaaDoor
theorem fnExactRootOf_card : Rows.FnExactRootOfCardSaid :=
  Claim7.holds_tied_plain_at .later [] _ _ _ _ fnExactRootOf.said (fun _ h => by cases h) (by kernel_rfl) (fun _ h => by cases h) fnExactRootOf_row_tie rfl ⟨rfl, rfl⟩ (by kernel_rfl) rfl fnExactRootOf.plain (by kernel_rfl)
#print axioms fnExactRootOf_card
end Go.Proofs.YtgejgkbpbikadaaDoor
