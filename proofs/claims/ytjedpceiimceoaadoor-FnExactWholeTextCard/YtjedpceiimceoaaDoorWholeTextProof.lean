/- Proved: at every argument the statement FnExactWholeText returns true, the tables that it reads starting as the program's text lays them. -/
import Derived.Test.YtjedpceiimceoaaDoorT02
import Derived.Test.YtjedpceiimceoaaDoorT16
import Derived.Test.YtjedpceiimceoaaDoorFrameE
namespace Go.Proofs.YtjedpceiimceoaaDoor.fnExactWholeText
open Go.ChangeShapes Go.WideShapes Go.ChangeAt Go.RowKit Go.Joins
set_option linter.unusedVariables false
set_option maxRecDepth 100000
set_option maxHeartbeats 8000000
theorem law_text_all (n : Bool) (xs : List Int) (v : Value) (w : World) (hv : Row w v xs) (hl : xs.length ≤ 9223372036854775807) (hT : TabP w) :
    Calls Tryd.prog 4 #[.agg #[.bool n, v]] w fun e w' => e = .returned (.bool true) ∧ Old w w' := by
  obtain ⟨T, hX⟩ := txI_any n xs
  exact law_text n xs T v w hv hl (fun h v W r => spec_WholeText n xs v W T r h hX) (fun h v W r q => impl_WholeText n xs v W T r h (hT.old q) hX)
theorem laidIs : Rows.fnExactWholeTextRow.laid = [("math/bits.deBruijn32tab", Lib.tabData .u8 tabI32), ("math/bits.deBruijn64tab", Lib.tabData .u8 tabI), ("internal/strconv.uint64pow10", Lib.tabData .u64 Lib.pow10Tab)] := by kernel_rfl
theorem tables {W : World} (h : laidMetH Tryd.prog Rows.fnExactWholeTextRow.laid W) : TabP W := by
  rw [laidIs] at h
  have h' : laidMet Tryd.prog [("math/bits.deBruijn32tab", Lib.tabData .u8 tabI32), ("math/bits.deBruijn64tab", Lib.tabData .u8 tabI), ("internal/strconv.uint64pow10", Lib.tabData .u64 Lib.pow10Tab)] W := h
  exact pow_of (laidMet.tail (laidMet.tail h'))
theorem contract (H : Type) (enc : TypeId × Value → H) (W : World) (base : Nat) (args : Array Value) (ds gs : List (DataW H)) (before : List MemPlace)
    (hval : ∀ (j : Nat) t v, Tryd.f4.params[j]? = some t → args[j]? = some v → Value.okWide Tryd.prog W .any base t v)
    (hW : DataW.Whole enc Tryd.prog Tryd.f4.params.toList Rows.fnExactWholeTextSpec.vars false W args.toList ds gs before) (hL : laidMetH Tryd.prog Rows.fnExactWholeTextRow.laid W) :
    Calls Tryd.prog 4 args W fun e W' => ∃ v, e = .returned v ∧ Rows.fnExactWholeTextSpec.post enc Tryd.prog Tryd.f4 false true false false W args v W' := by
  have hW' := hW
  obtain ⟨p, q, hA0, hV, rfl, hfz, hnd⟩ := hW
  have hA : DataW.TrodAll enc Tryd.prog W 0 (fun _ => true) true Tryd.f4.params.toList args.toList ds p := hA0
  rw [Tryd.params4] at hA hval
  obtain ⟨v0, vs0, d0, ds0, p0, q0, hargs, rfl, rfl, h0, r0⟩ := trodAll_cons hA
  obtain ⟨rfl, rfl, rfl⟩ := trodAll_nil r0
  obtain rfl : args = #[v0] := by cases args; simp_all
  have k0 := h0
  have lt0 : ∀ x ∈ p0, x.block < W.heap.size := by obtain ⟨m, hm⟩ := k0; exact DataW.trod_lt m _ _ _ hm
  obtain ⟨n0, u0, es0, rfl, hr0, hl0⟩ := open_whole (hval 0 38 v0 rfl rfl) h0
  clear hA0
  have hT := tables hL
  obtain ⟨rfl, rfl⟩ := trodVars_none hV
  refine (law_text_all n0 es0 u0 W hr0 hl0 hT).mono fun e W' ⟨he, bel⟩ => ?_
  subst he
  exact ⟨_, rfl, _, _, _, [], _, [], hW', trodAll_mk1 (shut_bool Tryd.underlying4 _), (trodAll_cons_mk (Below.trod laidOut (by kernel_rfl) (of_decide_eq_true (by kernel_rfl)) k0 bel lt0) trodAll_mk0), rfl, bel.frame _, fun h => by cases h⟩
theorem laid_met (os : Os) : laidMet Tryd.prog Rows.fnExactWholeTextRow.laid ((lay (World.holding Tryd.prog os ⟨#[], #[], []⟩)).forCall (fun _ _ => 0) ⟨#[], #[.agg #[.bool false, .slice none 0 0]], []⟩).memory :=
  laidMet_of_run' 8 (by kernel_rfl) (by kernel_rfl)
theorem reads (os : Os) {H : Type} (enc : TypeId × Value → H) : ∃ ds gs places, DataW.whole enc Tryd.prog ((lay (World.holding Tryd.prog os ⟨#[], #[], []⟩)).forCall (fun _ _ => 0) ⟨#[], #[.agg #[.bool false, .slice none 0 0]], []⟩).memory Tryd.f4.params.toList Rows.fnExactWholeTextSpec.vars false #[.agg #[.bool false, .slice none 0 0]].toList 8 = some (ds, gs, places) := by
  refine ⟨[.agg [.lit (.bool false), .nil]], [], [], ?_⟩
  kernel_rfl
set_option maxRecDepth 100000 in
theorem lifted (os : Os) (started : os.Started) (H : Type) (enc : TypeId × Value → H) (F : Stop.Interp) :
    ReturnsInHanded {} Tryd.checked os 4 .any ((OpenSpec.ofChange Rows.fnExactWholeTextSpec).preRow enc Tryd.prog Tryd.f4 Rows.fnExactWholeTextRow.domain false Rows.fnExactWholeTextRow.laid) (((OpenSpec.ofChange Rows.fnExactWholeTextSpec).at F).post enc Tryd.prog Tryd.f4 false true false false) := by
  obtain ⟨ds, gs, places, hx⟩ := reads os enc
  refine returnsInHanded_of_row (C := Tryd.checked) (s := OpenSpec.ofChange Rows.fnExactWholeTextSpec) ownKnobNone started (by kernel_rfl) Tryd.func4
    (witness_row_at (enc := enc) (C := Tryd.checked) false (lay (World.holding Tryd.prog os ⟨#[], #[], []⟩)) #[.agg #[.bool false, .slice none 0 0]] rfl (by kernel_rfl) (by kernel_rfl) (by kernel_rfl)
      (OpenSpec.preRow_of_cond 8 hx (by kernel_rfl) (fun k hk => by cases hk) (by kernel_rfl) (laid_met os))) ?_
  intro W base args ds gs before hval hW _ _ _ hL _ _
  exact contract H enc W base args ds gs before hval hW hL
theorem closed : joinedFacts Tryd.prog 4 Tryd.f4 Rows.fnExactWholeTextSpec Rows.fnExactWholeTextRow = true := by
  simp only [joinedFacts, Bool.and_eq_true]
  repeat' apply And.intro
  all_goals as_aux_lemma => kernel_rfl
theorem said : Rows.FnExactWholeTextSaid :=
  OpenClaim.holds_of_cond 4 Tryd.f4 rfl rfl rfl rfl rfl rfl rfl ⟨rfl, rfl, rfl, rfl, rfl⟩ rfl rfl rfl rfl rfl (by as_aux_lemma => kernel_rfl) Tryd.func4 closed
    (of_decide_eq_true (by as_aux_lemma => kernel_rfl)) (by unfold Func.isWrapper; first | (rw [if_pos (by decide +kernel)]; kernel_rfl) | (rw [if_neg (by decide +kernel)]; exact ⟨rfl, rfl⟩))
    (fun os started H enc _ F => by rw [OpenClaim.pre_eq_preRow]; exact lifted os started H enc F)
theorem looks : false = Tryd.pinned.checked.prog.looks [] := by kernel_rfl
theorem named : Tryd.prog.funcNamed "loop.example/g00133/laws.FnExactWholeText" = some 4 := by kernel_rfl
theorem plain (f : FuncId) (fn : Func) (hf : Tryd.pinned.checked.prog.funcNamed "loop.example/g00133/laws.FnExactWholeText" = some f) (hfn : Tryd.pinned.checked.prog.funcs[f]? = some fn) :
    false = Tryd.pinned.checked.prog.looks [] ∧ ∀ (j : Nat) t, fn.params[j]? = some t → Tryd.pinned.checked.prog.wantsStandIn t = false := by
  obtain rfl : f = 4 := Option.some.inj (named.symm.trans hf) |>.symm
  obtain rfl : fn = Tryd.f4 := (Option.some.inj (Tryd.func4.symm.trans hfn)).symm
  refine ⟨looks, fun j t ht => ?_⟩
  rw [Tryd.params4] at ht
  have hm := Array.mem_of_getElem? ht
  simp only [List.mem_toArray, List.mem_cons, List.not_mem_nil, or_false] at hm
  rcases hm with rfl
  · exact (show Tryd.prog.wantsStandIn 38 = false by as_aux_lemma => kernel_rfl)
end Go.Proofs.YtjedpceiimceoaaDoor.fnExactWholeText
namespace Go.Proofs.YtjedpceiimceoaaDoor
set_option maxRecDepth 100000
set_option maxHeartbeats 8000000
theorem fnExactWholeText_card : Rows.FnExactWholeTextCardSaid :=
  Claim7.holds_tied_plain_at .later [] _ _ _ _ fnExactWholeText.said (fun _ h => by cases h) (by as_aux_lemma => kernel_rfl) (fun _ h => by cases h) fnExactWholeText_row_tie rfl ⟨rfl, rfl⟩ (by as_aux_lemma => kernel_rfl) rfl fnExactWholeText.plain (by as_aux_lemma => kernel_rfl)
#print axioms fnExactWholeText_card
end Go.Proofs.YtjedpceiimceoaaDoor
