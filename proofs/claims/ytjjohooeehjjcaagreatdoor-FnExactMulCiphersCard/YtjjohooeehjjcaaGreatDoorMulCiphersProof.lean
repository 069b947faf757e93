/- Proved: at every argument the statement FnExactMulCiphers returns true, the tables that it reads starting as the program's text lays them. -/
import Derived.Test.YtjjohooeehjjcaaGreatDoorMu40
import Derived.Test.YtjjohooeehjjcaaGreatDoorMu43
set_option linter.unusedVariables false
set_option linter.unusedSimpArgs false
set_option maxRecDepth 100000
namespace Go.Proofs.YtjjohooeehjjcaaGreatDoor.fnExactMulCiphers
open Go.ChangeShapes Go.WideShapes Go.ChangeAt Go.RowKit Go.Joins
set_option maxRecDepth 100000
set_option maxHeartbeats 8000000
theorem laidIs : Rows.fnExactMulCiphersRow.laid = [("math/bits.deBruijn64tab", Lib.tabData .u8 Qz1), ("loop.example/g00133/impl.smallPrimes", Lib.tabData .u64 Qz2)] := by kernel_rfl
theorem tables {W:World} (h:laidMetH Tryz.prog Rows.fnExactMulCiphersRow.laid W):Qbq W/\Qeu W:=by
 rw [laidIs] at h
 have h' : laidMet Tryz.prog [("math/bits.deBruijn64tab", Lib.tabData .u8 Qz1), ("loop.example/g00133/impl.smallPrimes", Lib.tabData .u64 Qz2)] W := h
 exact ⟨Qzy h',Qzz (laidMet.tail h')⟩
theorem contract (H:Type) (enc:TypeId×Value→H) (W:World) (base:Nat) (args:Array Value) (ds gs:List (DataW H)) (before:List MemPlace)
  (hval:∀(j:Nat) t v,Tryz.f3.params[j]? = some t->args[j]? = some v->Value.okWide Tryz.prog W .any base t v)
  (hW:DataW.Whole enc Tryz.prog Tryz.f3.params.toList Rows.fnExactMulCiphersSpec.vars false W args.toList ds gs before) (hL:laidMetH Tryz.prog Rows.fnExactMulCiphersRow.laid W) :
  Calls Tryz.prog 3 args W fun e W'=>∃v,e=.returned v/\Rows.fnExactMulCiphersSpec.post enc Tryz.prog Tryz.f3 false true false false W args v W':=by
 have hW':=hW;obtain ⟨p,q,hA0,hV,rfl,hfz,hnd⟩:=hW;have hA:DataW.TrodAll enc Tryz.prog W 0 (fun _=>true) true Tryz.f3.params.toList args.toList ds p:=hA0;rw [Tryz.params3] at hA hval;obtain ⟨v0,vs0,d0,ds0,p0,q0,hargs,rfl,rfl,h0,r0⟩:=trodAll_cons hA;obtain ⟨v1,vs1,d1,ds1,p1,q1,rfl,rfl,rfl,h1,r1⟩:=trodAll_cons r0;obtain ⟨v2,vs2,d2,ds2,p2,q2,rfl,rfl,rfl,h2,r2⟩:=trodAll_cons r1;obtain ⟨rfl,rfl,rfl⟩:=trodAll_nil r2;obtain rfl:args=#[v0,v1,v2]:=by cases args;simp_all
 have k0:=h0;have lt0:∀x∈p0,x.block<W.heap.size:=by obtain ⟨m,hm⟩:=k0;exact DataW.trod_lt m _ _ _ hm
 obtain ⟨N0,T0,E0,u0,xs0,rfl,hr0,hl0,wn0,hw0⟩:=Qno (hval 0 24 v0 rfl rfl) h0;have k1:=h1;have lt1:∀x∈p1,x.block<W.heap.size:=by obtain ⟨m,hm⟩:=k1;exact DataW.trod_lt m _ _ _ hm
 obtain ⟨u1,xsss1,rfl,hr1,hl1,hlr1⟩:=Qhy (hval 1 27 v1 rfl rfl) h1;have k2:=h2;have lt2:∀x∈p2,x.block<W.heap.size:=by obtain ⟨m,hm⟩:=k2;exact DataW.trod_lt m _ _ _ hm
 obtain ⟨u2,xsss2,rfl,hr2,hl2,hlr2⟩:=Qhy (hval 2 27 v2 rfl rfl) h2;clear hA0;obtain ⟨hT,hP⟩:=tables hL
 obtain ⟨g1,rfl⟩:∃g1,gs=[g1]:=by
  obtain ⟨_,_,_,_,d,_,e,_⟩:=trodVars_one hV;exact ⟨d,e⟩
 refine (Qih N0 T0 E0 xs0 xsss1 xsss2 u0 u1 u2 W hr0 hl0 (fun x hx=>bounds_i64 (hw0 x hx)) hr1 hl1 hlr1 hr2 hl2 hlr2 hP hT).mono fun e W' ⟨he,bel⟩=>?_
 subst he;exact ⟨_,rfl,_,_,_,[],_,q,hW',trodAll_mk1 (shut_bool Tryz.underlying4 _),(trodAll_cons_mk (Below.trod laidOut (by kernel_rfl) (of_decide_eq_true (by kernel_rfl)) k0 bel lt0) (trodAll_cons_mk (Below.trod laidOut (by kernel_rfl) (of_decide_eq_true (by kernel_rfl)) k1 bel lt1) (trodAll_cons_mk (Below.trod laidOut (by kernel_rfl) (of_decide_eq_true (by kernel_rfl)) k2 bel lt2) trodAll_mk0))),var_stays laidOut bel Qvb hV (fun x hx=>by simpa using hW'.lt x (by simp [hx])),bel.frame _,fun h=>by cases h⟩
theorem laid_met (os:Os):laidMet Tryz.prog Rows.fnExactMulCiphersRow.laid ((lay (World.holding Tryz.prog os ⟨#[],#[],[]⟩)).forCall (fun _ _=>0) ⟨#[],#[.agg #[.int .i64 0,.int .i64 0,.int .i64 0,.slice none 0 0],.agg #[.slice none 0 0],.agg #[.slice none 0 0]],[]⟩).memory:=
 laidMet_of_run' 8 (by kernel_rfl) (by kernel_rfl)
theorem reads (os:Os) {H:Type} (enc:TypeId×Value->H):∃ds gs places,DataW.whole enc Tryz.prog ((lay (World.holding Tryz.prog os ⟨#[],#[],[]⟩)).forCall (fun _ _=>0) ⟨#[],#[.agg #[.int .i64 0,.int .i64 0,.int .i64 0,.slice none 0 0],.agg #[.slice none 0 0],.agg #[.slice none 0 0]],[]⟩).memory Tryz.f3.params.toList Rows.fnExactMulCiphersSpec.vars false #[.agg #[.int .i64 0,.int .i64 0,.int .i64 0,.slice none 0 0],.agg #[.slice none 0 0],.agg #[.slice none 0 0]].toList 8=some (ds,gs,places):=by
 refine ⟨[.agg [.lit (.int .i64 0),.lit (.int .i64 0),.lit (.int .i64 0),.nil],.agg [.nil],.agg [.nil]],[Rows.laid_loop_example_g00133_impl_smallPrimes],MemPlace.row ⟨0,0,none⟩ 12,?_⟩
 kernel_rfl
theorem lifted (os:Os) (started:os.Started) (H:Type) (enc:TypeId×Value→H) (F:Stop.Interp) :
  ReturnsInHanded {} Tryz.checked os 3 .any ((OpenSpec.ofChange Rows.fnExactMulCiphersSpec).preRow enc Tryz.prog Tryz.f3 Rows.fnExactMulCiphersRow.domain false Rows.fnExactMulCiphersRow.laid) (((OpenSpec.ofChange Rows.fnExactMulCiphersSpec).at F).post enc Tryz.prog Tryz.f3 false true false false):=by
 obtain ⟨ds,gs,places,hx⟩:=reads os enc
 refine returnsInHanded_of_row (C:=Tryz.checked) (s:=OpenSpec.ofChange Rows.fnExactMulCiphersSpec) Qnm started (by kernel_rfl) Tryz.func3
  (witness_row_at (enc:=enc) (C:=Tryz.checked) false (lay (World.holding Tryz.prog os ⟨#[],#[],[]⟩)) #[.agg #[.int .i64 0,.int .i64 0,.int .i64 0,.slice none 0 0],.agg #[.slice none 0 0],.agg #[.slice none 0 0]] rfl (by kernel_rfl) (by kernel_rfl) (by kernel_rfl)
   (OpenSpec.preRow_of_cond 8 hx (by kernel_rfl) (fun k hk=>by cases hk) (by kernel_rfl) (laid_met os))) ?_
 intro W base args ds gs before hval hW _ _ _ hL _ _;exact contract H enc W base args ds gs before hval hW hL
theorem closed:joinedFacts Tryz.prog 3 Tryz.f3 Rows.fnExactMulCiphersSpec Rows.fnExactMulCiphersRow=true:=by
 simp only [joinedFacts,Bool.and_eq_true]
 repeat' apply And.intro
 all_goals as_aux_lemma=>kernel_rfl
theorem said:Rows.FnExactMulCiphersSaid:=
 OpenClaim.holds_of_cond 3 Tryz.f3 rfl rfl rfl rfl rfl rfl rfl ⟨rfl,rfl,rfl,rfl,rfl⟩ rfl rfl rfl rfl rfl (by as_aux_lemma=>kernel_rfl) Tryz.func3 closed
  (of_decide_eq_true (by as_aux_lemma=>kernel_rfl)) (by unfold Func.isWrapper;first | (rw [if_pos (by decide +kernel)];kernel_rfl) | (rw [if_neg (by decide +kernel)];exact ⟨rfl,rfl⟩))
  (fun os started H enc _ F=>by rw [OpenClaim.pre_eq_preRow];exact lifted os started H enc F)
theorem looks:true=Tryz.pinned.checked.prog.looks []:=by kernel_rfl
theorem named : Tryz.prog.funcNamed "loop.example/g00133/laws.FnExactMulCiphers" = some 3 := by kernel_rfl
theorem plain (f : FuncId) (fn : Func) (hf : Tryz.pinned.checked.prog.funcNamed "loop.example/g00133/laws.FnExactMulCiphers" = some f) (hfn : Tryz.pinned.checked.prog.funcs[f]? = some fn) :
  true=Tryz.pinned.checked.prog.looks []/\∀(j:Nat) t,fn.params[j]? = some t->Tryz.pinned.checked.prog.wantsStandIn t=false:=by
 obtain rfl:f=3:=Option.some.inj (named.symm.trans hf) |>.symm
 obtain rfl:fn=Tryz.f3:=(Option.some.inj (Tryz.func3.symm.trans hfn)).symm;refine ⟨looks,fun j t ht=>?_⟩;rw [Tryz.params3] at ht;have hm:=Array.mem_of_getElem? ht
 simp only [List.mem_toArray,List.mem_cons,List.not_mem_nil,or_false] at hm;rcases hm with rfl | rfl | rfl
 ·exact (show Tryz.prog.wantsStandIn 24=false by as_aux_lemma=>kernel_rfl)
 ·exact (show Tryz.prog.wantsStandIn 27=false by as_aux_lemma=>kernel_rfl)
 ·exact (show Tryz.prog.wantsStandIn 27=false by as_aux_lemma=>kernel_rfl)
end Go.Proofs.YtjjohooeehjjcaaGreatDoor.fnExactMulCiphers
namespace Go.Proofs.YtjjohooeehjjcaaGreatDoor
set_option maxRecDepth 100000
set_option maxHeartbeats 8000000
theorem fnExactMulCiphers_card:Rows.FnExactMulCiphersCardSaid:=
 Claim7.holds_tied_plain_at .later [] _ _ _ _ fnExactMulCiphers.said (fun _ h=>by cases h) (by as_aux_lemma=>kernel_rfl) (fun _ h=>by cases h) fnExactMulCiphers_row_tie rfl ⟨rfl,rfl⟩ (by as_aux_lemma=>kernel_rfl) rfl fnExactMulCiphers.plain (by as_aux_lemma=>kernel_rfl)
#print axioms fnExactMulCiphers_card
end Go.Proofs.YtjjohooeehjjcaaGreatDoor
