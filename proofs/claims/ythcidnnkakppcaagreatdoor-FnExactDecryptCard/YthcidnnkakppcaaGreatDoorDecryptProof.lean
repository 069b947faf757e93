/- Proved: at every argument the statement FnExactDecrypt returns true, the tables that it reads starting as the program's text lays them. -/
import Derived.Test.YthcidnnkakppcaaGreatDoorDe43
import Derived.Test.YthcidnnkakppcaaGreatDoorDe45
set_option linter.unusedVariables false
set_option linter.unusedSimpArgs false
set_option maxRecDepth 100000
namespace Go.Proofs.YthcidnnkakppcaaGreatDoor.fnExactDecrypt
open Go.ChangeShapes Go.WideShapes Go.ChangeAt Go.RowKit Go.Joins
set_option maxRecDepth 100000
set_option maxHeartbeats 8000000
theorem laidIs : Rows.fnExactDecryptRow.laid = [("math/bits.deBruijn64tab", Lib.tabData .u8 Q3q), ("loop.example/g00133/impl.smallPrimes", Lib.tabData .u64 Q3r)] := by kernel_rfl
theorem tables {W:World} (h:laidMetH Tryz.prog Rows.fnExactDecryptRow.laid W):Qbb W/\Qe0 W:=by
 rw [laidIs] at h
 have h' : laidMet Tryz.prog [("math/bits.deBruijn64tab", Lib.tabData .u8 Q3q), ("loop.example/g00133/impl.smallPrimes", Lib.tabData .u64 Q3r)] W := h
 exact ⟨Q3n h',Q3o (laidMet.tail h')⟩
theorem contract (H:Type) (enc:TypeId×Value→H) (W:World) (base:Nat) (args:Array Value) (ds gs:List (DataW H)) (before:List MemPlace)
  (hval:∀(j:Nat) t v,Tryz.f3.params[j]? = some t->args[j]? = some v->Value.okWide Tryz.prog W .any base t v)
  (hW:DataW.Whole enc Tryz.prog Tryz.f3.params.toList Rows.fnExactDecryptSpec.vars false W args.toList ds gs before) (hL:laidMetH Tryz.prog Rows.fnExactDecryptRow.laid W) :
  Calls Tryz.prog 3 args W fun e W'=>∃v,e=.returned v/\Rows.fnExactDecryptSpec.post enc Tryz.prog Tryz.f3 false true false false W args v W':=by
 have hW':=hW;obtain ⟨p,q,hA0,hV,rfl,hfz,hnd⟩:=hW;have hA:=hA0;rw [Tryz.params3] at hA hval;obtain ⟨v0,vs0,d0,ds0,p0,q0,hargs,rfl,rfl,h0,r0⟩:=trodAll_cons hA;obtain ⟨v1,vs1,d1,ds1,p1,q1,rfl,rfl,rfl,h1,r1⟩:=trodAll_cons r0;obtain ⟨v2,vs2,d2,ds2,p2,q2,rfl,rfl,rfl,h2,r2⟩:=trodAll_cons r1;obtain ⟨rfl,rfl,rfl⟩:=trodAll_nil r2;obtain rfl:args=#[v0,v1,v2]:=by cases args;simp_all
 have k0:=h0;have lt0:∀x∈p0,x.block<W.heap.size:=by obtain ⟨m,hm⟩:=k0;exact DataW.trod_lt m _ _ _ hm
 obtain ⟨N0,T0,E0,u0,xs0,rfl,hr0,hl0,wn0,hw0⟩:=Qpd (hval 0 24 v0 rfl rfl) h0;have k1:=h1;have lt1:∀x∈p1,x.block<W.heap.size:=by obtain ⟨m,hm⟩:=k1;exact DataW.trod_lt m _ _ _ hm
 obtain ⟨xs1,hr1,hl1,hw1⟩:=open_row (hval 1 22 v1 rfl rfl) h1;have k2:=h2;have lt2:∀x∈p2,x.block<W.heap.size:=by obtain ⟨m,hm⟩:=k2;exact DataW.trod_lt m _ _ _ hm
 obtain ⟨u2,xsss2,rfl,hr2,hl2,hlr2⟩:=Qpg (hval 2 27 v2 rfl rfl) h2;clear hA0;obtain ⟨hT,hP⟩:=tables hL
 obtain ⟨g1,rfl⟩:∃g1,gs=[g1]:=by
  obtain ⟨_,_,_,_,d,_,e,_⟩:=trodVars_one hV;exact ⟨d,e⟩
 refine (Qpa N0 T0 E0 xs0 xs1 xsss2 u0 v1 u2 W hr0 hl0 (fun x hx=>bounds_i64 (hw0 x hx)) hr1 hl1 hr2 hl2 hlr2 hP hT).mono fun e W' ⟨he,bel⟩=>?_
 subst he;exact ⟨_,rfl,_,_,_,[],_,q,hW',trodAll_mk1 (shut_bool Tryz.underlying4 _),(trodAll_cons_mk (Below.trod laidOut (by kernel_rfl) (of_decide_eq_true (by kernel_rfl)) k0 bel lt0) (trodAll_cons_mk (Below.trod laidOut (by kernel_rfl) (of_decide_eq_true (by kernel_rfl)) k1 bel lt1) (trodAll_cons_mk (Below.trod laidOut (by kernel_rfl) (of_decide_eq_true (by kernel_rfl)) k2 bel lt2) trodAll_mk0))),var_stays laidOut bel Qx2 hV (fun x hx=>by simpa using hW'.lt x (by simp [hx])),bel.frame _,fun h=>by cases h⟩
theorem laid_met (os:Os):laidMet Tryz.prog Rows.fnExactDecryptRow.laid ((lay (World.holding Tryz.prog os ⟨#[],#[],[]⟩)).forCall (fun _ _=>0) ⟨#[],#[.agg #[.int .i64 0,.int .i64 0,.int .i64 0,.slice none 0 0],.slice none 0 0,.agg #[.slice none 0 0]],[]⟩).memory:=
 laidMet_of_run' 8 (by kernel_rfl) (by kernel_rfl)
theorem reads (os:Os) {H:Type} (enc:TypeId×Value->H):∃ds gs places,DataW.whole enc Tryz.prog ((lay (World.holding Tryz.prog os ⟨#[],#[],[]⟩)).forCall (fun _ _=>0) ⟨#[],#[.agg #[.int .i64 0,.int .i64 0,.int .i64 0,.slice none 0 0],.slice none 0 0,.agg #[.slice none 0 0]],[]⟩).memory Tryz.f3.params.toList Rows.fnExactDecryptSpec.vars false #[.agg #[.int .i64 0,.int .i64 0,.int .i64 0,.slice none 0 0],.slice none 0 0,.agg #[.slice none 0 0]].toList 8=some (ds,gs,places):=by
 refine ⟨[.agg [.lit (.int .i64 0),.lit (.int .i64 0),.lit (.int .i64 0),.nil],.nil,.agg [.nil]],[Rows.laid_loop_example_g00133_impl_smallPrimes],MemPlace.row ⟨0,0,none⟩ 12,?_⟩
 kernel_rfl
theorem lifted (os:Os) (started:os.Started) (H:Type) (enc:TypeId×Value→H) (F:Stop.Interp) :
  ReturnsInHanded {} Tryz.checked os 3 .any ((OpenSpec.ofChange Rows.fnExactDecryptSpec).preRow enc Tryz.prog Tryz.f3 Rows.fnExactDecryptRow.domain false Rows.fnExactDecryptRow.laid) (((OpenSpec.ofChange Rows.fnExactDecryptSpec).at F).post enc Tryz.prog Tryz.f3 false true false false):=by
 obtain ⟨ds,gs,places,hx⟩:=reads os enc
 refine returnsInHanded_of_row (C:=Tryz.checked) (s:=OpenSpec.ofChange Rows.fnExactDecryptSpec) Qpb started (by kernel_rfl) Tryz.func3
  (witness_row_at (enc:=enc) (C:=Tryz.checked) false (lay (World.holding Tryz.prog os ⟨#[],#[],[]⟩)) #[.agg #[.int .i64 0,.int .i64 0,.int .i64 0,.slice none 0 0],.slice none 0 0,.agg #[.slice none 0 0]] rfl (by kernel_rfl) (by kernel_rfl) (by kernel_rfl)
   (OpenSpec.preRow_of_cond 8 hx (by kernel_rfl) (fun k hk=>by cases hk) (by kernel_rfl) (laid_met os))) ?_
 intro W base args ds gs before hval hW _ _ _ hL _ _;exact contract H enc W base args ds gs before hval hW hL
theorem closed:joinedFacts Tryz.prog 3 Tryz.f3 Rows.fnExactDecryptSpec Rows.fnExactDecryptRow=true:=by
 simp only [joinedFacts,Bool.and_eq_true]
 repeat' apply And.intro
 all_goals as_aux_lemma=>kernel_rfl
theorem said:Rows.FnExactDecryptSaid:=
 OpenClaim.holds_of_cond 3 Tryz.f3 rfl rfl rfl rfl rfl rfl rfl ⟨rfl,rfl,rfl,rfl,rfl⟩ rfl rfl rfl rfl rfl (by as_aux_lemma=>kernel_rfl) Tryz.func3 closed
  (of_decide_eq_true (by as_aux_lemma=>kernel_rfl)) (by unfold Func.isWrapper;first | (rw [if_pos (by decide +kernel)];kernel_rfl) | (rw [if_neg (by decide +kernel)];exact ⟨rfl,rfl⟩))
  (fun os started H enc _ F=>by rw [OpenClaim.pre_eq_preRow];exact lifted os started H enc F)
theorem looks:true=Tryz.pinned.checked.prog.looks []:=by kernel_rfl
theorem named : Tryz.prog.funcNamed "loop.example/g00133/laws.FnExactDecrypt" = some 3 := by kernel_rfl
theorem plain (f : FuncId) (fn : Func) (hf : Tryz.pinned.checked.prog.funcNamed "loop.example/g00133/laws.FnExactDecrypt" = some f) (hfn : Tryz.pinned.checked.prog.funcs[f]? = some fn) :
  true=Tryz.pinned.checked.prog.looks []/\∀(j:Nat) t,fn.params[j]? = some t->Tryz.pinned.checked.prog.wantsStandIn t=false:=by
 obtain rfl:f=3:=Option.some.inj (named.symm.trans hf) |>.symm
 obtain rfl:fn=Tryz.f3:=(Option.some.inj (Tryz.func3.symm.trans hfn)).symm;refine ⟨looks,fun j t ht=>?_⟩;rw [Tryz.params3] at ht;have hm:=Array.mem_of_getElem? ht
 simp only [List.mem_toArray,List.mem_cons,List.not_mem_nil,or_false] at hm;rcases hm with rfl | rfl | rfl
 ·exact (show Tryz.prog.wantsStandIn 24=false by as_aux_lemma=>kernel_rfl)
 ·exact (show Tryz.prog.wantsStandIn 22=false by as_aux_lemma=>kernel_rfl)
 ·exact (show Tryz.prog.wantsStandIn 27=false by as_aux_lemma=>kernel_rfl)
end Go.Proofs.YthcidnnkakppcaaGreatDoor.fnExactDecrypt
namespace Go.Proofs.YthcidnnkakppcaaGreatDoor
set_option maxRecDepth 100000
set_option maxHeartbeats 8000000
theorem fnExactDecrypt_card:Rows.FnExactDecryptCardSaid:=
 Claim7.holds_tied_plain_at .later [] _ _ _ _ fnExactDecrypt.said (fun _ h=>by cases h) (by as_aux_lemma=>kernel_rfl) (fun _ h=>by cases h) fnExactDecrypt_row_tie rfl ⟨rfl,rfl⟩ (by as_aux_lemma=>kernel_rfl) rfl fnExactDecrypt.plain (by as_aux_lemma=>kernel_rfl)
#print axioms fnExactDecrypt_card
end Go.Proofs.YthcidnnkakppcaaGreatDoor
