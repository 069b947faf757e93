/- Proved: what its theorems say. -/
import Derived.Test.YtjjohooeehjjcaaGreatDoorMu13
import Derived.Test.YtjjohooeehjjcaaGreatDoorMu16
set_option linter.unusedVariables false
set_option linter.unusedSimpArgs false
set_option maxHeartbeats 8000000
set_option maxRecDepth 100000
namespace Go.Proofs.YtjjohooeehjjcaaGreatDoor
open Go.ChangeShapes Go.WideShapes Go.ChangeAt Go.RowKit
theorem Qry (w:World) (o:Obj):(w.alloc o).heap[w.heap.size]? = some o:=by
 unfold World.alloc;simp
def Qee (i:Nat):Nat:=[10,11,12,13,14,15,9,16,17,5].getD i 0
theorem Qrz:∀i,i<10->Qee i<26:=by decide
theorem Qiz:∀i,i<10->∀j,j<10->Qee i=Qee j->i=j:=by decide
theorem Qph:∀i,i<10->Qee i≠2:=by decide
theorem Qpi:∀i,i<10->Qee i≠3:=by decide
def qSd (N T E:Int) (a3:Option Addr) (l3 c3:Nat) (a4:Option Addr) (l4 c4:Nat) (a6:Option Addr) (l6 c6 bx:Nat) (wb:Nat) (nb:Bool) (a1:Option Addr) (l1 c1:Nat) (PT:World->Value->Prop) (PM:World->Value->Prop) (PV:World->Value->Prop) (base:Nat) (i:Nat) (W:World) (x:Value):Prop:=
 match i with
 | 0=>x=.agg #[.bool nb,.slice a1 l1 c1]
 | 1=>x=.pointer (some ⟨bx,0,none⟩)
 | 2=>x=.pointer (some ⟨bx,1,none⟩)
 | 3=>x=.int .i64 T
 | 4=>PT W x
 | 5=>PM W x
 | 6=>PM W x
 | 7=>PV W x
 | 8=>x=.bool true
 | 9=>∃(g:Nat) (cs:Array Value),x=.pointer (some ⟨g,0,none⟩)/\base<=g/\g<W.heap.size/\W.heap[g]? = some (.cells cs 60 (0,0))/\cs.size=2
 | _=>True
theorem Qxf (N T E:Int) (a3:Option Addr) (l3 c3:Nat) (a4:Option Addr) (l4 c4:Nat) (a6:Option Addr) (l6 c6 bx:Nat) (wb:Nat) (nb:Bool) (a1:Option Addr) (l1 c1:Nat) (PT:World->Value->Prop) (PM:World->Value->Prop) (PV:World->Value->Prop) (base:Nat) (hM_PT:∀W W' v,PT W v->Old W W'->PT W' v) (hM_PM:∀W W' v,PM W v->Old W W'->PM W' v) (hM_PV:∀W W' v,PV W v->Old W W'->PV W' v) (i:Nat) (W W':World) (x:Value) (h:qSd N T E a3 l3 c3 a4 l4 c4 a6 l6 c6 bx wb nb a1 l1 c1 PT PM PV base i W x) (qo:Old W W'):qSd N T E a3 l3 c3 a4 l4 c4 a6 l6 c6 bx wb nb a1 l1 c1 PT PM PV base i W' x:=by
 unfold qSd at h ⊢;split at h
 case h_5=>exact hM_PT _ _ _ h qo
 case h_6=>exact hM_PM _ _ _ h qo
 case h_7=>exact hM_PM _ _ _ h qo
 case h_8=>exact hM_PV _ _ _ h qo
 case h_10=>
  obtain ⟨g,cs,e,h1,h2,h3,h4⟩:=h;exact ⟨g,cs,e,h1,Nat.lt_of_lt_of_le h2 qo.size,(qo.block g h2).trans h3,h4⟩
 all_goals first | exact h | trivial
def rSd (base:Nat) (W W':World):Prop:=∃(g:Nat) (c0 c:Array Value),base<=g/\W.heap[g]? = some (.cells c0 60 (0,0))/\c.size=2/\W'=W.setRow g c
def eSd (k:Nat):List Nat:=match k with | 0=>[7,9] | _=>[]
theorem Qxg (N T E:Int) (a3:Option Addr) (l3 c3:Nat) (a4:Option Addr) (l4 c4:Nat) (a6:Option Addr) (l6 c6 bx:Nat) (wb:Nat) (nb:Bool) (a1:Option Addr) (l1 c1:Nat) (PT:World->Value->Prop) (PM:World->Value->Prop) (PV:World->Value->Prop) (base:Nat) (hX_PT:∀W v g c0 c,PT W v->W.heap[g]? = some (.cells c0 60 (0,0))->PT (W.setRow g c) v) (hX_PM:∀W v g c0 c,PM W v->W.heap[g]? = some (.cells c0 60 (0,0))->PM (W.setRow g c) v) (hX_PV:∀W v g c0 c,PV W v->W.heap[g]? = some (.cells c0 60 (0,0))->PV (W.setRow g c) v) (i:Nat) (W W':World) (x:Value) (h:qSd N T E a3 l3 c3 a4 l4 c4 a6 l6 c6 bx wb nb a1 l1 c1 PT PM PV base i W x) (qo:rSd base W W'):qSd N T E a3 l3 c3 a4 l4 c4 a6 l6 c6 bx wb nb a1 l1 c1 PT PM PV base i W' x:=by
 obtain ⟨gg,c0,c,qb,qg,qs,rfl⟩:=qo;unfold qSd at h ⊢;split at h
 case h_5=>exact hX_PT _ _ _ _ _ h qg
 case h_6=>exact hX_PM _ _ _ _ _ h qg
 case h_7=>exact hX_PM _ _ _ _ _ h qg
 case h_8=>exact hX_PV _ _ _ _ _ h qg
 case h_10=>
  obtain ⟨g,cs,e,h1,h2,h3,h4⟩:=h
  by_cases hg:g=gg
  ·subst hg;exact ⟨g,c,e,h1,by rw [size_setRow];exact h2,Qbl qg,qs⟩
  ·exact ⟨g,cs,e,h1,by rw [size_setRow];exact h2,(Qa4 _ _ _ _ hg).trans h3,h4⟩
 all_goals first | exact h | trivial
def tSd (base:Nat) (k:Nat) (W:World) (vs:Nat->Value):Prop:=match k with | 0=>True | 1=>∃(g:Nat) (cs:Array Value),vs 9=.pointer (some ⟨g,0,none⟩)/\base<=g/\vs 7=.agg cs/\W.heap[g]? = some (.cells cs 60 (0,0)) | _=>True
theorem Qxh (base:Nat) (k:Nat) (W W':World) (vs vs':Nat->Value) (hk:k=0) (h:tSd base (k+1) W vs) (q:Old W W') (he:∀i∈eSd k,vs' i=vs i):tSd base (k+1) W' vs':=by
 subst hk;obtain ⟨g,cs,h1,h2,h3,h4⟩:=h;exact ⟨g,cs,(he 9 (by decide)).trans h1,h2,(he 7 (by decide)).trans h3,(q.block g (lt_of_some h4)).trans h4⟩
theorem Qy6 (w0:World) (N T E:Int) (a3:Option Addr) (l3 c3:Nat) (a4:Option Addr) (l4 c4:Nat) (a6:Option Addr) (l6 c6 bx:Nat) (wb:Nat) (nb:Bool) (a1:Option Addr) (l1 c1:Nat) (PT:World→Value→Prop) (PM:World→Value→Prop) (PV:World→Value→Prop) (hM_PT:∀W W' v,PT W v→Old W W'→PT W' v) (hM_PM:∀W W' v,PM W v→Old W W'→PM W' v) (hM_PV:∀W W' v,PV W v→Old W W'→PV W' v) (hT_PM:∀W x,PM W x→∃v1 v2,x=.tuple #[v1,v2]∧PV W v1∧v2=.bool true) (hA_PV:∀W x,PV W x→∃cs,x=.agg cs∧cs.size=2∧cs.all (·.oneCell')=true) (hX_PT:∀W v g c0 c,PT W v→W.heap[g]? = some (.cells c0 60 (0,0))→PT (W.setRow g c) v) (hX_PM:∀W v g c0 c,PM W v→W.heap[g]? = some (.cells c0 60 (0,0))→PM (W.setRow g c) v) (hX_PV:∀W v g c0 c,PV W v→W.heap[g]? = some (.cells c0 60 (0,0))→PV (W.setRow g c) v) (b_bx:w0.heap[bx]? = some (.cells #[.int .i64 N,.int .i64 T,.int .i64 E,.slice a3 l3 c3,.slice a4 l4 c4,.bool false,.slice a6 l6 c6] 62 (0,0))) (b_wb:w0.heap[wb]? = some (.cells #[.bool nb,.slice a1 l1 c1] 60 (0,0)))
  (KT:∀W,Old w0 W->Calls Tryz.prog 113 #[.int .i64 T] W fun e w'=>∃v,e=.returned v/\Old W w'/\PT w' v)
  (KM:∀W,Old w0 W->∀(u4:Value),PT W u4->Calls Tryz.prog 88 #[.agg #[.bool nb,.slice a1 l1 c1],u4] W fun e w'=>∃v,e=.returned v/\Old W w'/\PM w' v)
  (Q:Exit->Act->World->Prop) (b0:Act) (hsz:b0.tmps.size=26) (ha2:b0.eval (.tmp 2)=.pointer (some ⟨bx,0,none⟩)) (ha3:b0.eval (.tmp 3)=.pointer (some ⟨wb,0,none⟩))
  (HK:Hid (∀(us:Nat->Value) (W:World) (g9:Nat) (cs:Array Value),Old w0 W->us 9=.pointer (some ⟨g9,0,none⟩)->w0.heap.size<=g9->W.heap[g9]? = some (.cells cs 60 (0,0))->PV W (.agg cs)->Q .normal ((Qal b0 ((List.range 10).map fun i=>(Qee i,us i))).put (some 6) (.bool true)) W)) :
  Code.wp Tryz.prog ((Tryz.f90.body.bind (Qa2 1)).getD .skip) Q b0 w0:=by
 conv=>arg 2;whnf
 have px_bx:∀W,Old w0 W->W.heap[bx]? = some (.cells #[.int .i64 N,.int .i64 T,.int .i64 E,.slice a3 l3 c3,.slice a4 l4 c4,.bool false,.slice a6 l6 c6] 62 (0,0)):=fun W g=>(g.block bx (lt_of_some b_bx)).trans b_bx
 have px_wb:∀W,Old w0 W->W.heap[wb]? = some (.cells #[.bool nb,.slice a1 l1 c1] 60 (0,0)):=fun W g=>(g.block wb (lt_of_some b_wb)).trans b_wb
 have pc_bx_1:∀W,Old w0 W->W.cell? ⟨bx,1,none⟩=some (.int .i64 T):=fun W g=>cell_of_row W bx 1 _ _ (0,0) (px_bx W g)
 obtain ⟨z_impl_Whole,hz_impl_Whole,hzs_impl_Whole⟩:∃z,(Tryz.prog.info? 60).bind (·.zero)=some z/\z.cells.size=2:=⟨_,rfl,by kernel_rfl⟩
 refine Qg1 10 1 rfl rfl (by kernel_rfl) (by kernel_rfl) (by kernel_rfl) (by kernel_rfl) (by kernel_rfl) eSd (by kernel_rfl) Qee (fun i hi=>by rw [hsz];exact Qrz i hi) (fun i j hi hj=>Qiz i hi j hj) (qSd N T E a3 l3 c3 a4 l4 c4 a6 l6 c6 bx wb nb a1 l1 c1 PT PM PV w0.heap.size) (rSd w0.heap.size) (Qxf N T E a3 l3 c3 a4 l4 c4 a6 l6 c6 bx wb nb a1 l1 c1 PT PM PV w0.heap.size hM_PT hM_PM hM_PV) (Qxg N T E a3 l3 c3 a4 l4 c4 a6 l6 c6 bx wb nb a1 l1 c1 PT PM PV w0.heap.size hX_PT hX_PM hX_PV) [9] (fun i W v hi hq=>?_) (tSd w0.heap.size) (fun _ _=>trivial) (fun k W W' vs vs' h q he=>?_) ?_ ?_ ?_
 ·have hi2:i=9:=by simpa using hi
  subst hi2;obtain ⟨g,cs,e,_,h2,_⟩:=hq;exact ⟨g,e,h2⟩
 ·cases k with
  | zero=>exact Qxh w0.heap.size 0 W W' vs vs' rfl h q he
  | succ k=>exact trivial
 ·refine ⟨?_,?_,?_,?_,?_,?_,?_,?_,?_,?_,trivial⟩
  ·intro a W g hF hd;have e3:=(hF.same 3 Qpi).trans ha3;refine Qca (k:=wb) e3 (px_wb W g) Tryz.underlying60 rfl (by kernel_rfl) ?_
   exact ⟨_,rfl,Old.refl _,rfl,(fun h=>absurd h (by decide))⟩
  ·intro a W g hF hd;have e2:=(hF.same 2 Qph).trans ha2;obtain ⟨ρ,hρ⟩:∃ρ,a.eval=ρ:=⟨_,rfl⟩
   rw [hρ] at e2;refine Qbe ρ hρ (.pointer (some ⟨bx,0,none⟩)) ?_ ⟨_,rfl,Old.refl _,rfl,(fun h=>absurd h (by decide))⟩
   clear g hF hd hρ HK KT KM ha2 ha3 px_bx b_bx px_wb b_wb pc_bx_1
   go_simp
   all_goals (first | (rw [IntKind.wrap_i64];omega) | (rw [IntKind.wrap_u64];omega) | omega)
  ·intro a W g hF hd;have h1:a.eval (.tmp 11)=.pointer (some ⟨bx,0,none⟩):=hd ⟨1,.data⟩ (by simp) rfl;obtain ⟨ρ,hρ⟩:∃ρ,a.eval=ρ:=⟨_,rfl⟩
   rw [hρ] at h1;refine Qbe ρ hρ (.pointer (some ⟨bx,1,none⟩)) ?_ ⟨_,rfl,Old.refl _,rfl,(fun h=>absurd h (by decide))⟩
   clear g hF hd hρ HK KT KM ha2 ha3 px_bx b_bx px_wb b_wb pc_bx_1
   go_simp
   all_goals (first | (rw [IntKind.wrap_i64];omega) | (rw [IntKind.wrap_u64];omega) | omega)
  ·intro a W g hF hd;have h2:a.eval (.tmp 12)=.pointer (some ⟨bx,1,none⟩):=hd ⟨2,.data⟩ (by simp) rfl;have kk0:=pc_bx_1 W g;obtain ⟨ρ,hρ⟩:∃ρ,a.eval=ρ:=⟨_,rfl⟩
   rw [hρ] at h2;refine Qbe ρ hρ (.int .i64 T) ?_ ⟨_,rfl,Old.refl _,rfl,(fun h=>absurd h (by decide))⟩
   clear g hF hd hρ HK KT KM ha2 ha3 px_bx b_bx px_wb b_wb pc_bx_1
   go_simp
   all_goals (first | (rw [IntKind.wrap_i64];omega) | (rw [IntKind.wrap_u64];omega) | omega)
  ·intro a W g hF hd;have h3:a.eval (.tmp 13)=.int .i64 T:=hd ⟨3,.data⟩ (by simp) rfl;refine Qao (R:=fun v w'=>Old W w'∧PT w' v) Tryz.call113 (vs:=#[.int .i64 T]) (by simp [h3]) (KT W g) ?_
   rintro x w' ⟨g',hp⟩;exact ⟨_,rfl,g',hp,(fun h=>absurd h (by decide))⟩
  ·intro a W g hF hd;have h0:a.eval (.tmp 10)=.agg #[.bool nb,.slice a1 l1 c1]:=hd ⟨0,.data⟩ (by simp) rfl;have p4:PT W (a.eval (.tmp 14)):=hd ⟨4,.data⟩ (by simp) rfl;refine Qao (R:=fun v w'=>Old W w'∧PM w' v) Tryz.call88 (vs:=#[.agg #[.bool nb,.slice a1 l1 c1],a.eval (.tmp 14)]) (by simp [h0]) (KM W g _ p4) ?_
   rintro x w' ⟨g',hp⟩;exact ⟨_,rfl,g',hp,(fun h=>absurd h (by decide))⟩
  ·intro a W g hF hd;refine Qa0 ?_
   exact ⟨_,rfl,Old.refl _,hd ⟨5,.data⟩ (by simp) rfl,(fun h=>absurd h (by decide))⟩
  ·intro a W g hF hd;obtain ⟨v1,v2,ht,p1,p2⟩:=hT_PM W _ (hd ⟨6,.data⟩ (by simp) rfl);exact Qbo ht rfl ⟨_,rfl,Old.refl _,p1,(fun h=>absurd h (by decide))⟩
  ·intro a W g hF hd;obtain ⟨v1,v2,ht,p1,p2⟩:=hT_PM W _ (hd ⟨6,.data⟩ (by simp) rfl);exact Qbo ht rfl ⟨_,rfl,Old.refl _,p2,(fun h=>absurd h (by decide))⟩
  ·intro a W g hF hd;refine Qjt hz_impl_Whole ?_
   exact ⟨_,rfl,(Old.refl _).alloc _,⟨W.heap.size,z_impl_Whole.cells,rfl,g.size,by simp,Qry W _,hzs_impl_Whole⟩,(fun _=>rfl)⟩
 ·refine ⟨?_,trivial⟩;intro a W g hF _ hq hne;obtain ⟨g1,c1',hp1,hb1,hl1,hc1,hz1⟩:=hq 9 (by decide);obtain ⟨cs,ecs,hcs1,hcs2⟩:=hA_PV W _ (hq 7 (by decide));refine Qgo (k:=g1) hp1 ecs hc1 (by rw [hcs1];kernel_rfl) (by rw [hcs1];exact hz1) hcs2 ?_
  exact ⟨rfl,Qen g hb1 _,⟨g1,c1',cs,hb1,hc1,hcs1,rfl⟩,⟨g1,cs,hp1,hb1,ecs,Qbl hc1⟩⟩
 ·intro a W g hF hq ht;obtain ⟨g1,cs,hp1,hb1,ecs,hc1⟩:=ht;have hpc:=hq 7 (by decide);rw [show Qdn Qee a 7=.agg cs from ecs] at hpc;have hput:=Qcy (show Fram 10 Qee b0 a from hF) (fun i j hi hj=>Qiz i hi j hj);have hk:=HK.out (fun i=>a.eval (.tmp (Qee i))) W g1 cs g hp1 hb1 hc1 hpc;rw [← hput] at hk;refine Qea ?_
  show Q .normal (Act.put a (some 6) (a.eval (.tmp 17))) _
  rw [show a.eval (.tmp 17)=.bool true from hq 8 (by decide)];exact hk
theorem Qf2 {d:Option Tmp} {ty:TypeId} {pos:String} {af:Array Edge} {a:Act} {W:World} {K:Act→World→Prop} {Q:Exit→Act→World→Prop} {p x:Operand} {g o:Nat} {b:Bool} {u:Option Addr} {l c:Nat} {z0 z1:Value} (ha:a.eval p=.pointer (some ⟨g,o,none⟩)) (hv:a.eval x=.agg #[.bool b,.slice u l c])
  (c0:W.cell? ⟨g,o,none⟩=some z0) (c1:W.cell? ⟨g,o+1,none⟩=some z1) (f0:W.frozen? ⟨g,o,none⟩=false) (f1:W.frozen? ⟨g,o+1,none⟩=false)
  (hK:K (a.put d undef) ((W.setCell ⟨g,o,none⟩ (.bool b)).setCell ⟨g,o+1,none⟩ (.slice u l c))):Oper.wp Tryz.prog ⟨d,.store 60 p x,ty,pos,af,none⟩ a W K Q:=by
 obtain ⟨ρ,hρ⟩:∃ρ,a.eval=ρ:=⟨_,rfl⟩
 rw [hρ] at ha hv;refine Qvg ρ hρ ?_ hK
 clear hρ hK
 go_simp
def Qef (i:Nat):Nat:=[51,52,53,54,55,56,57,58,50,59,60,61].getD i 0
theorem Qr0:∀i,i<12->Qef i<65:=by decide
theorem Qi0:∀i,i<12->∀j,j<12->Qef i=Qef j->i=j:=by decide
theorem Qi1:∀i,i<12->Qef i≠6:=by decide
theorem Qm8:∀i,i<12->Qef i≠11:=by decide
theorem Qhl:∀i,i<12->Qef i≠13:=by decide
def qWp (pb pl n:Nat) (np:Bool) (ap:Option Addr) (lp cp:Nat) (kz:Nat) (nz:Bool) (az:Option Addr) (lz cz:Nat) (PT:World->Value->Prop) (PV:World->Value->Prop) (i:Nat) (W:World) (x:Value):Prop:=
 match i with
 | 0=>x=.slice (some ⟨pb,0,none⟩) n n
 | 1=>x=.int .i64 pl
 | 2=>x=.slice (some ⟨pb,0,none⟩) n n
 | 3=>x=.int .i64 pl
 | 4=>x=.pointer (some ⟨pb,pl*2,none⟩)
 | 5=>x=.agg #[.bool np,.slice ap lp cp]
 | 6=>x=.agg #[.bool nz,.slice az lz cz]
 | 7=>PT W x
 | 8=>PT W x
 | 9=>PV W x
 | 10=>x=.bool true
 | 11=>x=.pointer (some ⟨pb,pl*2,none⟩)
 | _=>True
theorem Qxi (pb pl n:Nat) (np:Bool) (ap:Option Addr) (lp cp:Nat) (kz:Nat) (nz:Bool) (az:Option Addr) (lz cz:Nat) (PT:World->Value->Prop) (PV:World->Value->Prop) (hM_PT:∀W W' v,PT W v->Old W W'->PT W' v) (hM_PV:∀W W' v,PV W v->Old W W'->PV W' v) (i:Nat) (W W':World) (x:Value) (h:qWp pb pl n np ap lp cp kz nz az lz cz PT PV i W x) (qo:Old W W'):qWp pb pl n np ap lp cp kz nz az lz cz PT PV i W' x:=by
 unfold qWp at h ⊢;split at h
 case h_8=>exact hM_PT _ _ _ h qo
 case h_9=>exact hM_PT _ _ _ h qo
 case h_10=>exact hM_PV _ _ _ h qo
 all_goals first | exact h | trivial
def rWp (pb pl n:Nat) (np:Bool) (ap:Option Addr) (lp cp:Nat) (kz:Nat) (nz:Bool) (az:Option Addr) (lz cz:Nat) (PV:World->Value->Prop) (W W':World):Prop:=∃(b_ : Bool) (u_ : Option Addr) (l_ c_ : Nat),PV W (.agg #[.bool b_,.slice u_ l_ c_])/\W'=((W.setCell ⟨pb,pl*2,none⟩ (.bool b_)).setCell ⟨pb,pl*2+1,none⟩ (.slice u_ l_ c_))
theorem Qxj (pb pl n:Nat) (np:Bool) (ap:Option Addr) (lp cp:Nat) (kz:Nat) (nz:Bool) (az:Option Addr) (lz cz:Nat) (PT:World->Value->Prop) (PV:World->Value->Prop) (hS_PT:∀W v b_ u_ l_ c_,PT W v->PV W (.agg #[.bool b_,.slice u_ l_ c_])->PT ((W.setCell ⟨pb,pl*2,none⟩ (.bool b_)).setCell ⟨pb,pl*2+1,none⟩ (.slice u_ l_ c_)) v) (hS_PV:∀W v b_ u_ l_ c_,PV W v->PV W (.agg #[.bool b_,.slice u_ l_ c_])->PV ((W.setCell ⟨pb,pl*2,none⟩ (.bool b_)).setCell ⟨pb,pl*2+1,none⟩ (.slice u_ l_ c_)) v) (i:Nat) (W W':World) (x:Value) (h:qWp pb pl n np ap lp cp kz nz az lz cz PT PV i W x) (r:rWp pb pl n np ap lp cp kz nz az lz cz PV W W'):qWp pb pl n np ap lp cp kz nz az lz cz PT PV i W' x:=by
 obtain ⟨b_,u_,l_,c_,hp,rfl⟩:=r;unfold qWp at h ⊢;split at h
 case h_8=>exact hS_PT _ _ _ _ _ _ h hp
 case h_9=>exact hS_PT _ _ _ _ _ _ h hp
 case h_10=>exact hS_PV _ _ _ _ _ _ h hp
 all_goals first | exact h | trivial
theorem Qy7 (w0:World) (pb pl n:Nat) (np:Bool) (ap:Option Addr) (lp cp:Nat) (kz:Nat) (nz:Bool) (az:Option Addr) (lz cz:Nat) (PT:World→Value→Prop) (PV:World→Value→Prop) (hM_PT:∀W W' v,PT W v→Old W W'→PT W' v) (hM_PV:∀W W' v,PV W v→Old W W'→PV W' v) (hT_PT:∀W x,PT W x→∃v1 v2,x=.tuple #[v1,v2]∧PV W v1∧v2=.bool true) (hA_PV:∀W x,PV W x→∃cs,x=.agg cs∧cs.size=2∧cs.all (·.oneCell')=true) (b_kz:w0.heap[kz]? = some (.cells #[.bool nz,.slice az lz cz] 60 (0,0)))
  (hi:(pl:Int)<(n:Int)) (hld:∀W,Old w0 W->W.cell? ⟨pb,pl*2,none⟩=some (.bool np)/\W.cell? ⟨pb,pl*2+1,none⟩=some (.slice ap lp cp)) (hcell:∀W,Old w0 W->(∃z,W.cell? ⟨pb,pl*2,none⟩=some z)/\(∃z,W.cell? ⟨pb,pl*2+1,none⟩=some z)/\W.frozen? ⟨pb,pl*2,none⟩=false/\W.frozen? ⟨pb,pl*2+1,none⟩=false) (hB2:∀W v,PV W v->∃b u l c,v=.agg #[.bool b,.slice u l c])
  (KA:∀W,Old w0 W->Calls Tryz.prog 87 #[.agg #[.bool np,.slice ap lp cp],.agg #[.bool nz,.slice az lz cz]] W fun e w'=>∃v,e=.returned v/\Old W w'/\PT w' v)
  (hS_PT:∀W v b_ u_ l_ c_,PT W v->PV W (.agg #[.bool b_,.slice u_ l_ c_])->PT ((W.setCell ⟨pb,pl*2,none⟩ (.bool b_)).setCell ⟨pb,pl*2+1,none⟩ (.slice u_ l_ c_)) v) (hS_PV:∀W v b_ u_ l_ c_,PV W v->PV W (.agg #[.bool b_,.slice u_ l_ c_])->PV ((W.setCell ⟨pb,pl*2,none⟩ (.bool b_)).setCell ⟨pb,pl*2+1,none⟩ (.slice u_ l_ c_)) v)
  (Q:Exit->Act->World->Prop) (b0:Act) (hsz:b0.tmps.size=65) (ha6:b0.eval (.tmp 6)=.slice (some ⟨pb,0,none⟩) n n) (ha11:b0.eval (.tmp 11)=.pointer (some ⟨kz,0,none⟩)) (ha13:b0.eval (.tmp 13)=.int .i64 pl)
  (HK:Hid (∀(us:Nat->Value) (W:World) (b_ : Bool) (u_ : Option Addr) (l_ c_ : Nat),Old w0 W->PV W (.agg #[.bool b_,.slice u_ l_ c_])->Q .normal (Qal b0 ((List.range 12).map fun i=>(Qef i,us i))) ((W.setCell ⟨pb,pl*2,none⟩ (.bool b_)).setCell ⟨pb,pl*2+1,none⟩ (.slice u_ l_ c_)))) :
  Code.wp Tryz.prog ((Tryz.f60.body.bind (Qa2 13)).getD .skip) Q b0 w0:=by
 conv=>arg 2;whnf
 have px_kz:∀W,Old w0 W->W.heap[kz]? = some (.cells #[.bool nz,.slice az lz cz] 60 (0,0)):=fun W g=>(g.block kz (lt_of_some b_kz)).trans b_kz
 refine Qez 12 rfl rfl (by kernel_rfl) (by kernel_rfl) (by kernel_rfl) [10] (by kernel_rfl) Qef (fun i hi=>by rw [hsz];exact Qr0 i hi) (fun i j hi hj=>Qi0 i hi j hj) (qWp pb pl n np ap lp cp kz nz az lz cz PT PV) (Qxi pb pl n np ap lp cp kz nz az lz cz PT PV hM_PT hM_PV) (rWp pb pl n np ap lp cp kz nz az lz cz PV) (fun i W W' v h _ r=>Qxj pb pl n np ap lp cp kz nz az lz cz PT PV hS_PT hS_PV i W W' v h r) ?_ ?_ ?_
 ·refine ⟨?_,?_,?_,?_,?_,?_,?_,?_,?_,?_,?_,?_,trivial⟩
  ·intro a W g0 hF hd;have g:Old w0 W:=g0.resolve_right (fun h=>absurd h.1 (by decide));have e6:=(hF.same 6 Qi1).trans ha6;refine Qa0 ?_
   exact ⟨_,rfl,Old.refl _,(fun h=>absurd h (by decide)),e6⟩
  ·intro a W g0 hF hd;have g:Old w0 W:=g0.resolve_right (fun h=>absurd h.1 (by decide));have e13:=(hF.same 13 Qhl).trans ha13;refine Qa0 ?_
   exact ⟨_,rfl,Old.refl _,(fun h=>absurd h (by decide)),e13⟩
  ·intro a W g0 hF hd;have g:Old w0 W:=g0.resolve_right (fun h=>absurd h.1 (by decide));have e6:=(hF.same 6 Qi1).trans ha6;refine Qa0 ?_
   exact ⟨_,rfl,Old.refl _,(fun h=>absurd h (by decide)),e6⟩
  ·intro a W g0 hF hd;have g:Old w0 W:=g0.resolve_right (fun h=>absurd h.1 (by decide));have e13:=(hF.same 13 Qhl).trans ha13;refine Qa0 ?_
   exact ⟨_,rfl,Old.refl _,(fun h=>absurd h (by decide)),e13⟩
  ·intro a W g0 hF hd;have g:Old w0 W:=g0.resolve_right (fun h=>absurd h.1 (by decide));have h2:a.eval (.tmp 53)=.slice (some ⟨pb,0,none⟩) n n:=hd ⟨2,.data⟩ (by simp) rfl;have h3:a.eval (.tmp 54)=.int .i64 pl:=hd ⟨3,.data⟩ (by simp) rfl;obtain ⟨ρ,hρ⟩:∃ρ,a.eval=ρ:=⟨_,rfl⟩
   rw [hρ] at h2 h3;refine Qbe ρ hρ (.pointer (some ⟨pb,pl*2,none⟩)) ?_ ⟨_,rfl,Old.refl _,(fun h=>absurd h (by decide)),rfl⟩
   clear g g0 hF hd hρ HK KA ha6 ha11 ha13 px_kz b_kz
   go_simp
   all_goals (first | (rw [IntKind.wrap_i64];omega) | (rw [IntKind.wrap_u64];omega) | omega)
  ·intro a W g0 hF hd;have g:Old w0 W:=g0.resolve_right (fun h=>absurd h.1 (by decide));have h4:a.eval (.tmp 55)=.pointer (some ⟨pb,pl*2,none⟩):=hd ⟨4,.data⟩ (by simp) rfl;obtain ⟨kk0,kk1⟩:=hld W g;obtain ⟨ρ,hρ⟩:∃ρ,a.eval=ρ:=⟨_,rfl⟩
   rw [hρ] at h4;refine Qbe ρ hρ (.agg #[.bool np,.slice ap lp cp]) ?_ ⟨_,rfl,Old.refl _,(fun h=>absurd h (by decide)),rfl⟩
   clear g g0 hF hd hρ HK KA ha6 ha11 ha13 px_kz b_kz
   go_simp
   all_goals (first | (rw [IntKind.wrap_i64];omega) | (rw [IntKind.wrap_u64];omega) | omega)
  ·intro a W g0 hF hd;have g:Old w0 W:=g0.resolve_right (fun h=>absurd h.1 (by decide));have e11:=(hF.same 11 Qm8).trans ha11;refine Qca (k:=kz) e11 (px_kz W g) Tryz.underlying60 rfl (by kernel_rfl) ?_
   exact ⟨_,rfl,Old.refl _,(fun h=>absurd h (by decide)),rfl⟩
  ·intro a W g0 hF hd;have g:Old w0 W:=g0.resolve_right (fun h=>absurd h.1 (by decide));have h5:a.eval (.tmp 56)=.agg #[.bool np,.slice ap lp cp]:=hd ⟨5,.data⟩ (by simp) rfl;have h6:a.eval (.tmp 57)=.agg #[.bool nz,.slice az lz cz]:=hd ⟨6,.data⟩ (by simp) rfl;refine Qao (R:=fun v w'=>Old W w'∧PT w' v) Tryz.call87 (vs:=#[.agg #[.bool np,.slice ap lp cp],.agg #[.bool nz,.slice az lz cz]]) (by simp [h5,h6]) (KA W g) ?_
   rintro x w' ⟨g',hp⟩;exact ⟨_,rfl,g',(fun h=>absurd h (by decide)),hp⟩
  ·intro a W g0 hF hd;have g:Old w0 W:=g0.resolve_right (fun h=>absurd h.1 (by decide));refine Qa0 ?_
   exact ⟨_,rfl,Old.refl _,(fun h=>absurd h (by decide)),hd ⟨7,.data⟩ (by simp) rfl⟩
  ·intro a W g0 hF hd;have g:Old w0 W:=g0.resolve_right (fun h=>absurd h.1 (by decide));obtain ⟨v1,v2,ht,p1,p2⟩:=hT_PT W _ (hd ⟨8,.data⟩ (by simp) rfl);exact Qbo ht rfl ⟨_,rfl,Old.refl _,(fun h=>absurd h (by decide)),p1⟩
  ·intro a W g0 hF hd;obtain ⟨v1,v2,ht,p1,p2⟩:=hT_PT W _ (hd ⟨8,.data⟩ (by simp) rfl);exact Qbo ht rfl ⟨_,rfl,Old.refl _,(fun _=>rfl),p2⟩
  ·intro a W g0 hF hd;have g:Old w0 W:=g0.resolve_right (fun h=>absurd h.1 (by decide));have h0:a.eval (.tmp 51)=.slice (some ⟨pb,0,none⟩) n n:=hd ⟨0,.data⟩ (by simp) rfl;have h1:a.eval (.tmp 52)=.int .i64 pl:=hd ⟨1,.data⟩ (by simp) rfl;obtain ⟨ρ,hρ⟩:∃ρ,a.eval=ρ:=⟨_,rfl⟩
   rw [hρ] at h0 h1;refine Qbe ρ hρ (.pointer (some ⟨pb,pl*2,none⟩)) ?_ ⟨_,rfl,Old.refl _,(fun h=>absurd h (by decide)),rfl⟩
   clear g g0 hF hd hρ HK KA ha6 ha11 ha13 px_kz b_kz
   go_simp
   all_goals (first | (rw [IntKind.wrap_i64];omega) | (rw [IntKind.wrap_u64];omega) | omega)
 ·intro a W g hF hq;obtain ⟨⟨z0_,hz0_⟩,⟨z1_,hz1_⟩,hf0_,hf1_⟩:=hcell W g;have pv_ : PV W (a.eval (.tmp 59)):=hq 9 (by decide) (by decide);obtain ⟨b_,u_,l_,c_,ex_⟩:=hB2 W _ pv_;rw [ex_] at pv_;refine Qf2 (show a.eval (.tmp 61)=.pointer (some ⟨pb,pl*2,none⟩) from hq 11 (by decide) (by decide)) ex_ hz0_ hz1_ hf0_ hf1_ ?_
  exact ⟨rfl,b_,u_,l_,c_,pv_,rfl⟩
 ·intro a W0 W g r hF hq;obtain ⟨b_,u_,l_,c_,pv_,rfl⟩:=r;have hput:=Qcy (show Fram 12 Qef b0 a from hF) (fun i j hi hj=>Qi0 i hi j hj);have hk:=HK.out (fun i=>a.eval (.tmp (Qef i))) W0 b_ u_ l_ c_ g pv_;rw [<- hput] at hk;exact hk
def Qd4 (i:Nat):Nat:=[19,20,21,22,23,24,25,26,18,27,28,29].getD i 0
theorem Qr1:∀i,i<12->Qd4 i<32:=by decide
theorem Qi2:∀i,i<12->∀j,j<12->Qd4 i=Qd4 j->i=j:=by decide
theorem Qpj:∀i,i<12->Qd4 i≠1:=by decide
theorem Qpk:∀i,i<12->Qd4 i≠5:=by decide
theorem Qi3:∀i,i<12->Qd4 i≠6:=by decide
theorem Qpl:∀i,i<12->Qd4 i≠7:=by decide
def qWs (pb n k:Nat) (kx:Nat) (nx:Bool) (ax:Option Addr) (lx cx:Nat) (b1 o1 c1:Nat) (ny:Bool) (ay:Option Addr) (ly cy:Nat) (PT:World->Value->Prop) (PV:World->Value->Prop) (i:Nat) (W:World) (x:Value):Prop:=
 match i with
 | 0=>x=.slice (some ⟨pb,0,none⟩) n n
 | 1=>x=.int .i64 k
 | 2=>x=.agg #[.bool nx,.slice ax lx cx]
 | 3=>x=.slice (some ⟨b1,o1,none⟩) n c1
 | 4=>x=.int .i64 k
 | 5=>x=.pointer (some ⟨b1,o1+k*2,none⟩)
 | 6=>x=.agg #[.bool ny,.slice ay ly cy]
 | 7=>PT W x
 | 8=>PT W x
 | 9=>PV W x
 | 10=>x=.bool true
 | 11=>x=.pointer (some ⟨pb,k*2,none⟩)
 | _=>True
theorem Qxk (pb n k:Nat) (kx:Nat) (nx:Bool) (ax:Option Addr) (lx cx:Nat) (b1 o1 c1:Nat) (ny:Bool) (ay:Option Addr) (ly cy:Nat) (PT:World->Value->Prop) (PV:World->Value->Prop) (hM_PT:∀W W' v,PT W v->Old W W'->PT W' v) (hM_PV:∀W W' v,PV W v->Old W W'->PV W' v) (i:Nat) (W W':World) (x:Value) (h:qWs pb n k kx nx ax lx cx b1 o1 c1 ny ay ly cy PT PV i W x) (qo:Old W W'):qWs pb n k kx nx ax lx cx b1 o1 c1 ny ay ly cy PT PV i W' x:=by
 unfold qWs at h ⊢;split at h
 case h_8=>exact hM_PT _ _ _ h qo
 case h_9=>exact hM_PT _ _ _ h qo
 case h_10=>exact hM_PV _ _ _ h qo
 all_goals first | exact h | trivial
def rWs (pb n k:Nat) (kx:Nat) (nx:Bool) (ax:Option Addr) (lx cx:Nat) (b1 o1 c1:Nat) (ny:Bool) (ay:Option Addr) (ly cy:Nat) (PV:World->Value->Prop) (W W':World):Prop:=∃(b_ : Bool) (u_ : Option Addr) (l_ c_ : Nat),PV W (.agg #[.bool b_,.slice u_ l_ c_])/\W'=((W.setCell ⟨pb,k*2,none⟩ (.bool b_)).setCell ⟨pb,k*2+1,none⟩ (.slice u_ l_ c_))
theorem Qxl (pb n k:Nat) (kx:Nat) (nx:Bool) (ax:Option Addr) (lx cx:Nat) (b1 o1 c1:Nat) (ny:Bool) (ay:Option Addr) (ly cy:Nat) (PT:World->Value->Prop) (PV:World->Value->Prop) (hS_PT:∀W v b_ u_ l_ c_,PT W v->PV W (.agg #[.bool b_,.slice u_ l_ c_])->PT ((W.setCell ⟨pb,k*2,none⟩ (.bool b_)).setCell ⟨pb,k*2+1,none⟩ (.slice u_ l_ c_)) v) (hS_PV:∀W v b_ u_ l_ c_,PV W v->PV W (.agg #[.bool b_,.slice u_ l_ c_])->PV ((W.setCell ⟨pb,k*2,none⟩ (.bool b_)).setCell ⟨pb,k*2+1,none⟩ (.slice u_ l_ c_)) v) (i:Nat) (W W':World) (x:Value) (h:qWs pb n k kx nx ax lx cx b1 o1 c1 ny ay ly cy PT PV i W x) (r:rWs pb n k kx nx ax lx cx b1 o1 c1 ny ay ly cy PV W W'):qWs pb n k kx nx ax lx cx b1 o1 c1 ny ay ly cy PT PV i W' x:=by
 obtain ⟨b_,u_,l_,c_,hp,rfl⟩:=r;unfold qWs at h ⊢;split at h
 case h_8=>exact hS_PT _ _ _ _ _ _ h hp
 case h_9=>exact hS_PT _ _ _ _ _ _ h hp
 case h_10=>exact hS_PV _ _ _ _ _ _ h hp
 all_goals first | exact h | trivial
theorem Qy8 (w0:World) (pb n k:Nat) (kx:Nat) (nx:Bool) (ax:Option Addr) (lx cx:Nat) (b1 o1 c1:Nat) (ny:Bool) (ay:Option Addr) (ly cy:Nat) (PT:World→Value→Prop) (PV:World→Value→Prop) (hM_PT:∀W W' v,PT W v→Old W W'→PT W' v) (hM_PV:∀W W' v,PV W v→Old W W'→PV W' v) (hT_PT:∀W x,PT W x→∃v1 v2,x=.tuple #[v1,v2]∧PV W v1∧v2=.bool true) (hA_PV:∀W x,PV W x→∃cs,x=.agg cs∧cs.size=2∧cs.all (·.oneCell')=true) (b_kx:w0.heap[kx]? = some (.cells #[.bool nx,.slice ax lx cx] 60 (0,0)))
  (hi:(k:Int)<(n:Int)) (hld:∀W,Old w0 W->W.cell? ⟨b1,o1+k*2,none⟩=some (.bool ny)/\W.cell? ⟨b1,o1+k*2+1,none⟩=some (.slice ay ly cy)) (hcell:∀W,Old w0 W->(∃z,W.cell? ⟨pb,k*2,none⟩=some z)/\(∃z,W.cell? ⟨pb,k*2+1,none⟩=some z)/\W.frozen? ⟨pb,k*2,none⟩=false/\W.frozen? ⟨pb,k*2+1,none⟩=false) (hB2:∀W v,PV W v->∃b u l c,v=.agg #[.bool b,.slice u l c])
  (KA:∀W,Old w0 W->Calls Tryz.prog 87 #[.agg #[.bool nx,.slice ax lx cx],.agg #[.bool ny,.slice ay ly cy]] W fun e w'=>∃v,e=.returned v/\Old W w'/\PT w' v)
  (hS_PT:∀W v b_ u_ l_ c_,PT W v->PV W (.agg #[.bool b_,.slice u_ l_ c_])->PT ((W.setCell ⟨pb,k*2,none⟩ (.bool b_)).setCell ⟨pb,k*2+1,none⟩ (.slice u_ l_ c_)) v) (hS_PV:∀W v b_ u_ l_ c_,PV W v->PV W (.agg #[.bool b_,.slice u_ l_ c_])->PV ((W.setCell ⟨pb,k*2,none⟩ (.bool b_)).setCell ⟨pb,k*2+1,none⟩ (.slice u_ l_ c_)) v)
  (Q:Exit->Act->World->Prop) (b0:Act) (hsz:b0.tmps.size=32) (ha1:b0.eval (.tmp 1)=.slice (some ⟨b1,o1,none⟩) n c1) (ha5:b0.eval (.tmp 5)=.slice (some ⟨pb,0,none⟩) n n) (ha6:b0.eval (.tmp 6)=.int .i64 k) (ha7:b0.eval (.tmp 7)=.pointer (some ⟨kx,0,none⟩))
  (HK:Hid (∀(us:Nat->Value) (W:World) (b_ : Bool) (u_ : Option Addr) (l_ c_ : Nat),Old w0 W->PV W (.agg #[.bool b_,.slice u_ l_ c_])->Q .normal (Qal b0 ((List.range 12).map fun i=>(Qd4 i,us i))) ((W.setCell ⟨pb,k*2,none⟩ (.bool b_)).setCell ⟨pb,k*2+1,none⟩ (.slice u_ l_ c_)))) :
  Code.wp Tryz.prog ((Tryz.f59.body.bind (Qa2 5)).getD .skip) Q b0 w0:=by
 conv=>arg 2;whnf
 have px_kx:∀W,Old w0 W->W.heap[kx]? = some (.cells #[.bool nx,.slice ax lx cx] 60 (0,0)):=fun W g=>(g.block kx (lt_of_some b_kx)).trans b_kx
 refine Qez 12 rfl rfl (by kernel_rfl) (by kernel_rfl) (by kernel_rfl) [10] (by kernel_rfl) Qd4 (fun i hi=>by rw [hsz];exact Qr1 i hi) (fun i j hi hj=>Qi2 i hi j hj) (qWs pb n k kx nx ax lx cx b1 o1 c1 ny ay ly cy PT PV) (Qxk pb n k kx nx ax lx cx b1 o1 c1 ny ay ly cy PT PV hM_PT hM_PV) (rWs pb n k kx nx ax lx cx b1 o1 c1 ny ay ly cy PV) (fun i W W' v h _ r=>Qxl pb n k kx nx ax lx cx b1 o1 c1 ny ay ly cy PT PV hS_PT hS_PV i W W' v h r) ?_ ?_ ?_
 ·refine ⟨?_,?_,?_,?_,?_,?_,?_,?_,?_,?_,?_,?_,trivial⟩
  ·intro a W g0 hF hd;have g:Old w0 W:=g0.resolve_right (fun h=>absurd h.1 (by decide));have e5:=(hF.same 5 Qpk).trans ha5;refine Qa0 ?_
   exact ⟨_,rfl,Old.refl _,(fun h=>absurd h (by decide)),e5⟩
  ·intro a W g0 hF hd;have g:Old w0 W:=g0.resolve_right (fun h=>absurd h.1 (by decide));have e6:=(hF.same 6 Qi3).trans ha6;refine Qa0 ?_
   exact ⟨_,rfl,Old.refl _,(fun h=>absurd h (by decide)),e6⟩
  ·intro a W g0 hF hd;have g:Old w0 W:=g0.resolve_right (fun h=>absurd h.1 (by decide));have e7:=(hF.same 7 Qpl).trans ha7;refine Qca (k:=kx) e7 (px_kx W g) Tryz.underlying60 rfl (by kernel_rfl) ?_
   exact ⟨_,rfl,Old.refl _,(fun h=>absurd h (by decide)),rfl⟩
  ·intro a W g0 hF hd;have g:Old w0 W:=g0.resolve_right (fun h=>absurd h.1 (by decide));have e1:=(hF.same 1 Qpj).trans ha1;refine Qa0 ?_
   exact ⟨_,rfl,Old.refl _,(fun h=>absurd h (by decide)),e1⟩
  ·intro a W g0 hF hd;have g:Old w0 W:=g0.resolve_right (fun h=>absurd h.1 (by decide));have e6:=(hF.same 6 Qi3).trans ha6;refine Qa0 ?_
   exact ⟨_,rfl,Old.refl _,(fun h=>absurd h (by decide)),e6⟩
  ·intro a W g0 hF hd;have g:Old w0 W:=g0.resolve_right (fun h=>absurd h.1 (by decide));have h3:a.eval (.tmp 22)=.slice (some ⟨b1,o1,none⟩) n c1:=hd ⟨3,.data⟩ (by simp) rfl;have h4:a.eval (.tmp 23)=.int .i64 k:=hd ⟨4,.data⟩ (by simp) rfl;obtain ⟨ρ,hρ⟩:∃ρ,a.eval=ρ:=⟨_,rfl⟩
   rw [hρ] at h3 h4;refine Qbe ρ hρ (.pointer (some ⟨b1,o1+k*2,none⟩)) ?_ ⟨_,rfl,Old.refl _,(fun h=>absurd h (by decide)),rfl⟩
   clear g g0 hF hd hρ HK KA ha1 ha5 ha6 ha7 px_kx b_kx
   go_simp
   all_goals (first | (rw [IntKind.wrap_i64];omega) | (rw [IntKind.wrap_u64];omega) | omega)
  ·intro a W g0 hF hd;have g:Old w0 W:=g0.resolve_right (fun h=>absurd h.1 (by decide));have h5:a.eval (.tmp 24)=.pointer (some ⟨b1,o1+k*2,none⟩):=hd ⟨5,.data⟩ (by simp) rfl;obtain ⟨kk0,kk1⟩:=hld W g;obtain ⟨ρ,hρ⟩:∃ρ,a.eval=ρ:=⟨_,rfl⟩
   rw [hρ] at h5;refine Qbe ρ hρ (.agg #[.bool ny,.slice ay ly cy]) ?_ ⟨_,rfl,Old.refl _,(fun h=>absurd h (by decide)),rfl⟩
   clear g g0 hF hd hρ HK KA ha1 ha5 ha6 ha7 px_kx b_kx
   go_simp
   all_goals (first | (rw [IntKind.wrap_i64];omega) | (rw [IntKind.wrap_u64];omega) | omega)
  ·intro a W g0 hF hd;have g:Old w0 W:=g0.resolve_right (fun h=>absurd h.1 (by decide));have h2:a.eval (.tmp 21)=.agg #[.bool nx,.slice ax lx cx]:=hd ⟨2,.data⟩ (by simp) rfl;have h6:a.eval (.tmp 25)=.agg #[.bool ny,.slice ay ly cy]:=hd ⟨6,.data⟩ (by simp) rfl;refine Qao (R:=fun v w'=>Old W w'∧PT w' v) Tryz.call87 (vs:=#[.agg #[.bool nx,.slice ax lx cx],.agg #[.bool ny,.slice ay ly cy]]) (by simp [h2,h6]) (KA W g) ?_
   rintro x w' ⟨g',hp⟩;exact ⟨_,rfl,g',(fun h=>absurd h (by decide)),hp⟩
  ·intro a W g0 hF hd;have g:Old w0 W:=g0.resolve_right (fun h=>absurd h.1 (by decide));refine Qa0 ?_
   exact ⟨_,rfl,Old.refl _,(fun h=>absurd h (by decide)),hd ⟨7,.data⟩ (by simp) rfl⟩
  ·intro a W g0 hF hd;have g:Old w0 W:=g0.resolve_right (fun h=>absurd h.1 (by decide));obtain ⟨v1,v2,ht,p1,p2⟩:=hT_PT W _ (hd ⟨8,.data⟩ (by simp) rfl);exact Qbo ht rfl ⟨_,rfl,Old.refl _,(fun h=>absurd h (by decide)),p1⟩
  ·intro a W g0 hF hd;obtain ⟨v1,v2,ht,p1,p2⟩:=hT_PT W _ (hd ⟨8,.data⟩ (by simp) rfl);exact Qbo ht rfl ⟨_,rfl,Old.refl _,(fun _=>rfl),p2⟩
  ·intro a W g0 hF hd;have g:Old w0 W:=g0.resolve_right (fun h=>absurd h.1 (by decide));have h0:a.eval (.tmp 19)=.slice (some ⟨pb,0,none⟩) n n:=hd ⟨0,.data⟩ (by simp) rfl;have h1:a.eval (.tmp 20)=.int .i64 k:=hd ⟨1,.data⟩ (by simp) rfl;obtain ⟨ρ,hρ⟩:∃ρ,a.eval=ρ:=⟨_,rfl⟩
   rw [hρ] at h0 h1;refine Qbe ρ hρ (.pointer (some ⟨pb,k*2,none⟩)) ?_ ⟨_,rfl,Old.refl _,(fun h=>absurd h (by decide)),rfl⟩
   clear g g0 hF hd hρ HK KA ha1 ha5 ha6 ha7 px_kx b_kx
   go_simp
   all_goals (first | (rw [IntKind.wrap_i64];omega) | (rw [IntKind.wrap_u64];omega) | omega)
 ·intro a W g hF hq;obtain ⟨⟨z0_,hz0_⟩,⟨z1_,hz1_⟩,hf0_,hf1_⟩:=hcell W g;have pv_ : PV W (a.eval (.tmp 27)):=hq 9 (by decide) (by decide);obtain ⟨b_,u_,l_,c_,ex_⟩:=hB2 W _ pv_;rw [ex_] at pv_;refine Qf2 (show a.eval (.tmp 29)=.pointer (some ⟨pb,k*2,none⟩) from hq 11 (by decide) (by decide)) ex_ hz0_ hz1_ hf0_ hf1_ ?_
  exact ⟨rfl,b_,u_,l_,c_,pv_,rfl⟩
 ·intro a W0 W g r hF hq;obtain ⟨b_,u_,l_,c_,pv_,rfl⟩:=r;have hput:=Qcy (show Fram 12 Qd4 b0 a from hF) (fun i j hi hj=>Qi2 i hi j hj);have hk:=HK.out (fun i=>a.eval (.tmp (Qd4 i))) W0 b_ u_ l_ c_ g pv_;rw [<- hput] at hk;exact hk
def Qd5 (i:Nat):Nat:=[18,19,20,21,22,23].getD i 0
theorem Qr2:∀i,i<6->Qd5 i<29:=by decide
theorem Qi4:∀i,i<6->∀j,j<6->Qd5 i=Qd5 j->i=j:=by decide
theorem Qpm:∀i,i<6->Qd5 i≠2:=by decide
theorem Qpn:∀i,i<6->Qd5 i≠5:=by decide
theorem Qpo:∀i,i<6->Qd5 i≠6:=by decide
theorem Qpp:∀i,i<6->Qd5 i≠7:=by decide
def qSr (N T E:Int) (a3:Option Addr) (l3 c3:Nat) (a4:Option Addr) (l4 c4:Nat) (a6:Option Addr) (l6 c6 bx:Nat) (kb pb n k:Nat) (kx:Nat) (nx:Bool) (ax:Option Addr) (lx cx:Nat) (PV:World->Value->Prop) (i:Nat) (W:World) (x:Value):Prop:=
 match i with
 | 0=>x=.slice (some ⟨pb,0,none⟩) n n
 | 1=>x=.int .i64 k
 | 2=>x=.agg #[.int .i64 N,.int .i64 T,.int .i64 E,.slice a3 l3 c3,.slice a4 l4 c4,.bool false,.slice a6 l6 c6]
 | 3=>x=.agg #[.bool nx,.slice ax lx cx]
 | 4=>PV W x
 | 5=>x=.pointer (some ⟨pb,k*2,none⟩)
 | _=>True
theorem Qxm (N T E:Int) (a3:Option Addr) (l3 c3:Nat) (a4:Option Addr) (l4 c4:Nat) (a6:Option Addr) (l6 c6 bx:Nat) (kb pb n k:Nat) (kx:Nat) (nx:Bool) (ax:Option Addr) (lx cx:Nat) (PV:World->Value->Prop) (hM_PV:∀W W' v,PV W v->Old W W'->PV W' v) (i:Nat) (W W':World) (x:Value) (h:qSr N T E a3 l3 c3 a4 l4 c4 a6 l6 c6 bx kb pb n k kx nx ax lx cx PV i W x) (qo:Old W W'):qSr N T E a3 l3 c3 a4 l4 c4 a6 l6 c6 bx kb pb n k kx nx ax lx cx PV i W' x:=by
 unfold qSr at h ⊢;split at h
 case h_5=>exact hM_PV _ _ _ h qo
 all_goals first | exact h | trivial
theorem Qy9 (w0:World) (N T E:Int) (a3:Option Addr) (l3 c3:Nat) (a4:Option Addr) (l4 c4:Nat) (a6:Option Addr) (l6 c6 bx:Nat) (kb pb n k:Nat) (kx:Nat) (nx:Bool) (ax:Option Addr) (lx cx:Nat) (PV:World→Value→Prop) (hM_PV:∀W W' v,PV W v→Old W W'→PV W' v) (hA_PV:∀W x,PV W x→∃cs,x=.agg cs∧cs.size=2∧cs.all (·.oneCell')=true) (b_bx:w0.heap[bx]? = some (.cells #[.int .i64 N,.int .i64 T,.int .i64 E,.slice a3 l3 c3,.slice a4 l4 c4,.bool false,.slice a6 l6 c6] 62 (0,0))) (b_kb:w0.heap[kb]? = some (.cells #[.slice (some ⟨pb,0,none⟩) n n] 105 (0,0))) (b_kx:w0.heap[kx]? = some (.cells #[.bool nx,.slice ax lx cx] 60 (0,0)))
  (hi:(k:Int)<(n:Int)) (hcell:∀W,Old w0 W->(∃z,W.cell? ⟨pb,k*2,none⟩=some z)/\(∃z,W.cell? ⟨pb,k*2+1,none⟩=some z)/\W.frozen? ⟨pb,k*2,none⟩=false/\W.frozen? ⟨pb,k*2+1,none⟩=false) (hB2:∀W v,PV W v->∃b u l c,v=.agg #[.bool b,.slice u l c])
  (KA:∀W,Old w0 W->Calls Tryz.prog 90 #[.agg #[.int .i64 N,.int .i64 T,.int .i64 E,.slice a3 l3 c3,.slice a4 l4 c4,.bool false,.slice a6 l6 c6],.agg #[.bool nx,.slice ax lx cx]] W fun e w'=>∃v,e=.returned v/\Old W w'/\PV w' v)
  (Q:Exit->Act->World->Prop) (b0:Act) (hsz:b0.tmps.size=29) (ha2:b0.eval (.tmp 2)=.pointer (some ⟨bx,0,none⟩)) (ha5:b0.eval (.tmp 5)=.pointer (some ⟨kb,0,none⟩)) (ha6:b0.eval (.tmp 6)=.int .i64 k) (ha7:b0.eval (.tmp 7)=.pointer (some ⟨kx,0,none⟩))
  (HK:Hid (∀(us:Nat->Value) (W:World) (b_ : Bool) (u_ : Option Addr) (l_ c_ : Nat),Old w0 W->PV W (.agg #[.bool b_,.slice u_ l_ c_])->Q .normal (Qal b0 ((List.range 6).map fun i=>(Qd5 i,us i))) ((W.setCell ⟨pb,k*2,none⟩ (.bool b_)).setCell ⟨pb,k*2+1,none⟩ (.slice u_ l_ c_)))) :
  Code.wp Tryz.prog ((Tryz.f61.body.bind (Qa2 5)).getD .skip) Q b0 w0:=by
 conv=>arg 2;whnf
 have px_bx:∀W,Old w0 W->W.heap[bx]? = some (.cells #[.int .i64 N,.int .i64 T,.int .i64 E,.slice a3 l3 c3,.slice a4 l4 c4,.bool false,.slice a6 l6 c6] 62 (0,0)):=fun W g=>(g.block bx (lt_of_some b_bx)).trans b_bx
 have px_kb:∀W,Old w0 W->W.heap[kb]? = some (.cells #[.slice (some ⟨pb,0,none⟩) n n] 105 (0,0)):=fun W g=>(g.block kb (lt_of_some b_kb)).trans b_kb
 have px_kx:∀W,Old w0 W->W.heap[kx]? = some (.cells #[.bool nx,.slice ax lx cx] 60 (0,0)):=fun W g=>(g.block kx (lt_of_some b_kx)).trans b_kx
 have pc_kb_0:∀W,Old w0 W->W.cell? ⟨kb,0,none⟩=some (.slice (some ⟨pb,0,none⟩) n n):=fun W g=>cell_of_row W kb 0 _ _ (0,0) (px_kb W g)
 refine Qcl 6 (by decide) (by kernel_rfl) (by kernel_rfl) (by kernel_rfl) (by kernel_rfl) (by kernel_rfl) Qd5 (fun i hi=>by rw [hsz];exact Qr2 i hi) (fun i j hi hj=>Qi4 i hi j hj) (qSr N T E a3 l3 c3 a4 l4 c4 a6 l6 c6 bx kb pb n k kx nx ax lx cx PV) (Qxm N T E a3 l3 c3 a4 l4 c4 a6 l6 c6 bx kb pb n k kx nx ax lx cx PV hM_PV) [] (fun i W v hi hq=>by cases hi) ?_ ?_
 ·refine ⟨?_,?_,?_,?_,?_,?_,trivial⟩
  ·intro a W g hF hd;refine ⟨fun _=>?_,fun h=>by rw [Qab rfl] at h;cases h⟩;have e5:=(hF.same 5 Qpn).trans ha5;have kk0:=pc_kb_0 W g;obtain ⟨ρ,hρ⟩:∃ρ,a.eval=ρ:=⟨_,rfl⟩
   rw [hρ] at e5;refine Qbe ρ hρ (.slice (some ⟨pb,0,none⟩) n n) ?_ ⟨_,rfl,Old.refl _,rfl,(fun h=>absurd h (by decide))⟩
   clear g hF hd hρ HK KA ha2 ha5 ha6 ha7 px_bx b_bx px_kb b_kb px_kx b_kx pc_kb_0
   go_simp
   all_goals (first | (rw [IntKind.wrap_i64];omega) | (rw [IntKind.wrap_u64];omega) | omega)
  ·intro a W g hF hd;refine ⟨fun _=>?_,fun h=>by rw [Qab rfl] at h;cases h⟩;have e6:=(hF.same 6 Qpo).trans ha6;refine Qa0 ?_
   exact ⟨_,rfl,Old.refl _,e6,(fun h=>absurd h (by decide))⟩
  ·intro a W g hF hd;refine ⟨fun _=>?_,fun h=>by rw [Qab rfl] at h;cases h⟩;have e2:=(hF.same 2 Qpm).trans ha2;refine Qca (k:=bx) e2 (px_bx W g) Tryz.underlying62 rfl (by kernel_rfl) ?_
   exact ⟨_,rfl,Old.refl _,rfl,(fun h=>absurd h (by decide))⟩
  ·intro a W g hF hd;refine ⟨fun _=>?_,fun h=>by rw [Qab rfl] at h;cases h⟩;have e7:=(hF.same 7 Qpp).trans ha7;refine Qca (k:=kx) e7 (px_kx W g) Tryz.underlying60 rfl (by kernel_rfl) ?_
   exact ⟨_,rfl,Old.refl _,rfl,(fun h=>absurd h (by decide))⟩
  ·intro a W g hF hd;refine ⟨fun _=>?_,fun h=>by rw [Qab rfl] at h;cases h⟩;have h2:a.eval (.tmp 20)=.agg #[.int .i64 N,.int .i64 T,.int .i64 E,.slice a3 l3 c3,.slice a4 l4 c4,.bool false,.slice a6 l6 c6]:=hd ⟨2,.data⟩ (by simp) rfl;have h3:a.eval (.tmp 21)=.agg #[.bool nx,.slice ax lx cx]:=hd ⟨3,.data⟩ (by simp) rfl;refine Qao (R:=fun v w'=>Old W w'∧PV w' v) Tryz.call90 (vs:=#[.agg #[.int .i64 N,.int .i64 T,.int .i64 E,.slice a3 l3 c3,.slice a4 l4 c4,.bool false,.slice a6 l6 c6],.agg #[.bool nx,.slice ax lx cx]]) (by simp [h2,h3]) (KA W g) ?_
   rintro x w' ⟨g',hp⟩;exact ⟨_,rfl,g',hp,(fun h=>absurd h (by decide))⟩
  ·intro a W g hF hd;refine ⟨fun _=>?_,fun h=>by rw [Qab rfl] at h;cases h⟩;have h0:a.eval (.tmp 18)=.slice (some ⟨pb,0,none⟩) n n:=hd ⟨0,.data⟩ (by simp) rfl;have h1:a.eval (.tmp 19)=.int .i64 k:=hd ⟨1,.data⟩ (by simp) rfl;obtain ⟨ρ,hρ⟩:∃ρ,a.eval=ρ:=⟨_,rfl⟩
   rw [hρ] at h0 h1;refine Qbe ρ hρ (.pointer (some ⟨pb,k*2,none⟩)) ?_ ⟨_,rfl,Old.refl _,rfl,(fun h=>absurd h (by decide))⟩
   clear g hF hd hρ HK KA ha2 ha5 ha6 ha7 px_bx b_bx px_kb b_kb px_kx b_kx pc_kb_0
   go_simp
   all_goals (first | (rw [IntKind.wrap_i64];omega) | (rw [IntKind.wrap_u64];omega) | omega)
 ·intro a W g hF hq hne;have hput:=Qcy (show Fram 6 Qd5 b0 a from hF) (fun i j hi hj=>Qi4 i hi j hj);obtain ⟨⟨z0_,hz0_⟩,⟨z1_,hz1_⟩,hf0_,hf1_⟩:=hcell W g;have pv_ : PV W (a.eval (.tmp 22)):=hq 4 (by decide);obtain ⟨b_,u_,l_,c_,ex_⟩:=hB2 W _ pv_;rw [ex_] at pv_;have hk:=HK.out (fun i=>a.eval (.tmp (Qd5 i))) W b_ u_ l_ c_ g pv_;rw [← hput] at hk;refine Qf2 (show a.eval (.tmp 23)=.pointer (some ⟨pb,k*2,none⟩) from hq 5 (by decide)) ex_ hz0_ hz1_ hf0_ hf1_ ?_
  show Qg0 _ _ _ _ _
  exact hk
end Go.Proofs.YtjjohooeehjjcaaGreatDoor
