/- Proved: what its theorems say. -/
import Derived.Test.YthcidnnkakppcaaGreatDoorDe13
import Derived.Test.YthcidnnkakppcaaGreatDoorDe14
set_option linter.unusedVariables false
set_option linter.unusedSimpArgs false
set_option maxHeartbeats 8000000
set_option maxRecDepth 100000
namespace Go.Proofs.YthcidnnkakppcaaGreatDoor
open Go.ChangeShapes Go.WideShapes Go.ChangeAt Go.RowKit
theorem Qtt (w:World) (o:Obj):(w.alloc o).heap[w.heap.size]? = some o:=by
 unfold World.alloc;simp
def Qei (i:Nat):Nat:=[10,11,12,13,14,15,9,16,17,5].getD i 0
theorem Qtu:∀i,i<10->Qei i<26:=by decide
theorem Qjg:∀i,i<10->∀j,j<10->Qei i=Qei j->i=j:=by decide
theorem Qrm:∀i,i<10->Qei i≠2:=by decide
theorem Qrn:∀i,i<10->Qei i≠3:=by decide
def qSd (N T E:Int) (a3:Option Addr) (l3 c3:Nat) (a4:Option Addr) (l4 c4:Nat) (a6:Option Addr) (l6 c6 bx:Nat) (wb:Nat) (nb:Bool) (a1:Option Addr) (l1 c1:Nat) (PT:World->Value->Prop) (PM:World->Value->Prop) (PV:World->Value->Prop) (base:Nat) (i:Nat) (W:World) (x:Value):Prop:=
 match i with
 | 0=>x=.agg #[.bool nb,.slice a1 l1 c1]
 | 1=>x=.pointer (some ⟨bx,0,none⟩)
 | 2=>x=.pointer (some ⟨bx,1,none⟩)
 | 3=>x=.int .i64 T
 | 4=>PT W x
 | 5=>PM W x
 | 6=>PM W x
 | 7=>PV W x
 | 8=>x=.bool true
 | 9=>∃(g:Nat) (cs:Array Value),x=.pointer (some ⟨g,0,none⟩)/\base<=g/\g<W.heap.size/\W.heap[g]? = some (.cells cs 65 (0,0))/\cs.size=2
 | _=>True
theorem Q0m (N T E:Int) (a3:Option Addr) (l3 c3:Nat) (a4:Option Addr) (l4 c4:Nat) (a6:Option Addr) (l6 c6 bx:Nat) (wb:Nat) (nb:Bool) (a1:Option Addr) (l1 c1:Nat) (PT:World->Value->Prop) (PM:World->Value->Prop) (PV:World->Value->Prop) (base:Nat) (hM_PT:∀W W' v,PT W v->Old W W'->PT W' v) (hM_PM:∀W W' v,PM W v->Old W W'->PM W' v) (hM_PV:∀W W' v,PV W v->Old W W'->PV W' v) (i:Nat) (W W':World) (x:Value) (h:qSd N T E a3 l3 c3 a4 l4 c4 a6 l6 c6 bx wb nb a1 l1 c1 PT PM PV base i W x) (qo:Old W W'):qSd N T E a3 l3 c3 a4 l4 c4 a6 l6 c6 bx wb nb a1 l1 c1 PT PM PV base i W' x:=by
 unfold qSd at h ⊢;split at h
 case h_5=>exact hM_PT _ _ _ h qo
 case h_6=>exact hM_PM _ _ _ h qo
 case h_7=>exact hM_PM _ _ _ h qo
 case h_8=>exact hM_PV _ _ _ h qo
 case h_10=>
  obtain ⟨g,cs,e,h1,h2,h3,h4⟩:=h;exact ⟨g,cs,e,h1,Nat.lt_of_lt_of_le h2 qo.size,(qo.block g h2).trans h3,h4⟩
 all_goals first | exact h | trivial
def rSd (base:Nat) (W W':World):Prop:=∃(g:Nat) (c0 c:Array Value),base<=g/\W.heap[g]? = some (.cells c0 65 (0,0))/\c.size=2/\W'=W.setRow g c
def eSd (k:Nat):List Nat:=match k with | 0=>[7,9] | _=>[]
theorem Q0n (N T E:Int) (a3:Option Addr) (l3 c3:Nat) (a4:Option Addr) (l4 c4:Nat) (a6:Option Addr) (l6 c6 bx:Nat) (wb:Nat) (nb:Bool) (a1:Option Addr) (l1 c1:Nat) (PT:World->Value->Prop) (PM:World->Value->Prop) (PV:World->Value->Prop) (base:Nat) (hX_PT:∀W v g c0 c,PT W v->W.heap[g]? = some (.cells c0 65 (0,0))->PT (W.setRow g c) v) (hX_PM:∀W v g c0 c,PM W v->W.heap[g]? = some (.cells c0 65 (0,0))->PM (W.setRow g c) v) (hX_PV:∀W v g c0 c,PV W v->W.heap[g]? = some (.cells c0 65 (0,0))->PV (W.setRow g c) v) (i:Nat) (W W':World) (x:Value) (h:qSd N T E a3 l3 c3 a4 l4 c4 a6 l6 c6 bx wb nb a1 l1 c1 PT PM PV base i W x) (qo:rSd base W W'):qSd N T E a3 l3 c3 a4 l4 c4 a6 l6 c6 bx wb nb a1 l1 c1 PT PM PV base i W' x:=by
 obtain ⟨gg,c0,c,qb,qg,qs,rfl⟩:=qo;unfold qSd at h ⊢;split at h
 case h_5=>exact hX_PT _ _ _ _ _ h qg
 case h_6=>exact hX_PM _ _ _ _ _ h qg
 case h_7=>exact hX_PM _ _ _ _ _ h qg
 case h_8=>exact hX_PV _ _ _ _ _ h qg
 case h_10=>
  obtain ⟨g,cs,e,h1,h2,h3,h4⟩:=h
  by_cases hg:g=gg
  ·subst hg;exact ⟨g,c,e,h1,by rw [size_setRow];exact h2,Qct qg,qs⟩
  ·exact ⟨g,cs,e,h1,by rw [size_setRow];exact h2,(Qbf _ _ _ _ hg).trans h3,h4⟩
 all_goals first | exact h | trivial
def tSd (base:Nat) (k:Nat) (W:World) (vs:Nat->Value):Prop:=match k with | 0=>True | 1=>∃(g:Nat) (cs:Array Value),vs 9=.pointer (some ⟨g,0,none⟩)/\base<=g/\vs 7=.agg cs/\W.heap[g]? = some (.cells cs 65 (0,0)) | _=>True
theorem Q0o (base:Nat) (k:Nat) (W W':World) (vs vs':Nat->Value) (hk:k=0) (h:tSd base (k+1) W vs) (q:Old W W') (he:∀i∈eSd k,vs' i=vs i):tSd base (k+1) W' vs':=by
 subst hk;obtain ⟨g,cs,h1,h2,h3,h4⟩:=h;exact ⟨g,cs,(he 9 (by decide)).trans h1,h2,(he 7 (by decide)).trans h3,(q.block g (lt_of_some h4)).trans h4⟩
theorem Q2q (w0:World) (N T E:Int) (a3:Option Addr) (l3 c3:Nat) (a4:Option Addr) (l4 c4:Nat) (a6:Option Addr) (l6 c6 bx:Nat) (wb:Nat) (nb:Bool) (a1:Option Addr) (l1 c1:Nat) (PT:World→Value→Prop) (PM:World→Value→Prop) (PV:World→Value→Prop) (hM_PT:∀W W' v,PT W v→Old W W'→PT W' v) (hM_PM:∀W W' v,PM W v→Old W W'→PM W' v) (hM_PV:∀W W' v,PV W v→Old W W'→PV W' v) (hT_PM:∀W x,PM W x→∃v1 v2,x=.tuple #[v1,v2]∧PV W v1∧v2=.bool true) (hA_PV:∀W x,PV W x→∃cs,x=.agg cs∧cs.size=2∧cs.all (·.oneCell')=true) (hX_PT:∀W v g c0 c,PT W v→W.heap[g]? = some (.cells c0 65 (0,0))→PT (W.setRow g c) v) (hX_PM:∀W v g c0 c,PM W v→W.heap[g]? = some (.cells c0 65 (0,0))→PM (W.setRow g c) v) (hX_PV:∀W v g c0 c,PV W v→W.heap[g]? = some (.cells c0 65 (0,0))→PV (W.setRow g c) v) (b_bx:w0.heap[bx]? = some (.cells #[.int .i64 N,.int .i64 T,.int .i64 E,.slice a3 l3 c3,.slice a4 l4 c4,.bool false,.slice a6 l6 c6] 67 (0,0))) (b_wb:w0.heap[wb]? = some (.cells #[.bool nb,.slice a1 l1 c1] 65 (0,0)))
  (KT:∀W,Old w0 W->Calls Tryz.prog 76 #[.int .i64 T] W fun e w'=>∃v,e=.returned v/\Old W w'/\PT w' v)
  (KM:∀W,Old w0 W->∀(u4:Value),PT W u4->Calls Tryz.prog 75 #[.agg #[.bool nb,.slice a1 l1 c1],u4] W fun e w'=>∃v,e=.returned v/\Old W w'/\PM w' v)
  (Q:Exit->Act->World->Prop) (b0:Act) (hsz:b0.tmps.size=26) (ha2:b0.eval (.tmp 2)=.pointer (some ⟨bx,0,none⟩)) (ha3:b0.eval (.tmp 3)=.pointer (some ⟨wb,0,none⟩))
  (HK:Hid (∀(us:Nat->Value) (W:World) (g9:Nat) (cs:Array Value),Old w0 W->us 9=.pointer (some ⟨g9,0,none⟩)->w0.heap.size<=g9->W.heap[g9]? = some (.cells cs 65 (0,0))->PV W (.agg cs)->Q .normal ((Qb6 b0 ((List.range 10).map fun i=>(Qei i,us i))).put (some 6) (.bool true)) W)) :
  Code.wp Tryz.prog ((Tryz.f38.body.bind (Qa6 1)).getD .skip) Q b0 w0:=by
 conv=>arg 2;whnf
 have px_bx:∀W,Old w0 W->W.heap[bx]? = some (.cells #[.int .i64 N,.int .i64 T,.int .i64 E,.slice a3 l3 c3,.slice a4 l4 c4,.bool false,.slice a6 l6 c6] 67 (0,0)):=fun W g=>(g.block bx (lt_of_some b_bx)).trans b_bx
 have px_wb:∀W,Old w0 W->W.heap[wb]? = some (.cells #[.bool nb,.slice a1 l1 c1] 65 (0,0)):=fun W g=>(g.block wb (lt_of_some b_wb)).trans b_wb
 have pc_bx_1:∀W,Old w0 W->W.cell? ⟨bx,1,none⟩=some (.int .i64 T):=fun W g=>cell_of_row W bx 1 _ _ (0,0) (px_bx W g)
 obtain ⟨z_impl_Whole,hz_impl_Whole,hzs_impl_Whole⟩:∃z,(Tryz.prog.info? 65).bind (·.zero)=some z/\z.cells.size=2:=⟨_,rfl,by kernel_rfl⟩
 refine Qh2 10 1 rfl rfl (by kernel_rfl) (by kernel_rfl) (by kernel_rfl) (by kernel_rfl) (by kernel_rfl) eSd (by kernel_rfl) Qei (fun i hi=>by rw [hsz];exact Qtu i hi) (fun i j hi hj=>Qjg i hi j hj) (qSd N T E a3 l3 c3 a4 l4 c4 a6 l6 c6 bx wb nb a1 l1 c1 PT PM PV w0.heap.size) (rSd w0.heap.size) (Q0m N T E a3 l3 c3 a4 l4 c4 a6 l6 c6 bx wb nb a1 l1 c1 PT PM PV w0.heap.size hM_PT hM_PM hM_PV) (Q0n N T E a3 l3 c3 a4 l4 c4 a6 l6 c6 bx wb nb a1 l1 c1 PT PM PV w0.heap.size hX_PT hX_PM hX_PV) [9] (fun i W v hi hq=>?_) (tSd w0.heap.size) (fun _ _=>trivial) (fun k W W' vs vs' h q he=>?_) ?_ ?_ ?_
 ·have hi2:i=9:=by simpa using hi
  subst hi2;obtain ⟨g,cs,e,_,h2,_⟩:=hq;exact ⟨g,e,h2⟩
 ·cases k with
  | zero=>exact Q0o w0.heap.size 0 W W' vs vs' rfl h q he
  | succ k=>exact trivial
 ·refine ⟨?_,?_,?_,?_,?_,?_,?_,?_,?_,?_,trivial⟩
  ·intro a W g hF hd;have e3:=(hF.same 3 Qrn).trans ha3;refine Qfa (k:=wb) e3 (px_wb W g) Tryz.underlying65 rfl (by kernel_rfl) ?_
   exact ⟨_,rfl,Old.refl _,rfl,(fun h=>absurd h (by decide))⟩
  ·intro a W g hF hd;have e2:=(hF.same 2 Qrm).trans ha2;obtain ⟨ρ,hρ⟩:∃ρ,a.eval=ρ:=⟨_,rfl⟩
   rw [hρ] at e2;refine Qal ρ hρ (.pointer (some ⟨bx,0,none⟩)) ?_ ⟨_,rfl,Old.refl _,rfl,(fun h=>absurd h (by decide))⟩
   clear g hF hd hρ HK KT KM ha2 ha3 px_bx b_bx px_wb b_wb pc_bx_1
   go_simp
   all_goals (first | (rw [IntKind.wrap_i64];omega) | (rw [IntKind.wrap_u64];omega) | omega)
  ·intro a W g hF hd;have h1:a.eval (.tmp 11)=.pointer (some ⟨bx,0,none⟩):=hd ⟨1,.data⟩ (by simp) rfl;obtain ⟨ρ,hρ⟩:∃ρ,a.eval=ρ:=⟨_,rfl⟩
   rw [hρ] at h1;refine Qal ρ hρ (.pointer (some ⟨bx,1,none⟩)) ?_ ⟨_,rfl,Old.refl _,rfl,(fun h=>absurd h (by decide))⟩
   clear g hF hd hρ HK KT KM ha2 ha3 px_bx b_bx px_wb b_wb pc_bx_1
   go_simp
   all_goals (first | (rw [IntKind.wrap_i64];omega) | (rw [IntKind.wrap_u64];omega) | omega)
  ·intro a W g hF hd;have h2:a.eval (.tmp 12)=.pointer (some ⟨bx,1,none⟩):=hd ⟨2,.data⟩ (by simp) rfl;have kk0:=pc_bx_1 W g;obtain ⟨ρ,hρ⟩:∃ρ,a.eval=ρ:=⟨_,rfl⟩
   rw [hρ] at h2;refine Qal ρ hρ (.int .i64 T) ?_ ⟨_,rfl,Old.refl _,rfl,(fun h=>absurd h (by decide))⟩
   clear g hF hd hρ HK KT KM ha2 ha3 px_bx b_bx px_wb b_wb pc_bx_1
   go_simp
   all_goals (first | (rw [IntKind.wrap_i64];omega) | (rw [IntKind.wrap_u64];omega) | omega)
  ·intro a W g hF hd;have h3:a.eval (.tmp 13)=.int .i64 T:=hd ⟨3,.data⟩ (by simp) rfl;refine Qa3 (R:=fun v w'=>Old W w'∧PT w' v) Tryz.call76 (vs:=#[.int .i64 T]) (by simp [h3]) (KT W g) ?_
   rintro x w' ⟨g',hp⟩;exact ⟨_,rfl,g',hp,(fun h=>absurd h (by decide))⟩
  ·intro a W g hF hd;have h0:a.eval (.tmp 10)=.agg #[.bool nb,.slice a1 l1 c1]:=hd ⟨0,.data⟩ (by simp) rfl;have p4:PT W (a.eval (.tmp 14)):=hd ⟨4,.data⟩ (by simp) rfl;refine Qa3 (R:=fun v w'=>Old W w'∧PM w' v) Tryz.call75 (vs:=#[.agg #[.bool nb,.slice a1 l1 c1],a.eval (.tmp 14)]) (by simp [h0]) (KM W g _ p4) ?_
   rintro x w' ⟨g',hp⟩;exact ⟨_,rfl,g',hp,(fun h=>absurd h (by decide))⟩
  ·intro a W g hF hd;refine Qgb ?_
   exact ⟨_,rfl,Old.refl _,hd ⟨5,.data⟩ (by simp) rfl,(fun h=>absurd h (by decide))⟩
  ·intro a W g hF hd;obtain ⟨v1,v2,ht,p1,p2⟩:=hT_PM W _ (hd ⟨6,.data⟩ (by simp) rfl);exact Qjc ht rfl ⟨_,rfl,Old.refl _,p1,(fun h=>absurd h (by decide))⟩
  ·intro a W g hF hd;obtain ⟨v1,v2,ht,p1,p2⟩:=hT_PM W _ (hd ⟨6,.data⟩ (by simp) rfl);exact Qjc ht rfl ⟨_,rfl,Old.refl _,p2,(fun h=>absurd h (by decide))⟩
  ·intro a W g hF hd;refine Qwn hz_impl_Whole ?_
   exact ⟨_,rfl,(Old.refl _).alloc _,⟨W.heap.size,z_impl_Whole.cells,rfl,g.size,by simp,Qtt W _,hzs_impl_Whole⟩,(fun _=>rfl)⟩
 ·refine ⟨?_,trivial⟩;intro a W g hF _ hq hne;obtain ⟨g1,c1',hp1,hb1,hl1,hc1,hz1⟩:=hq 9 (by decide);obtain ⟨cs,ecs,hcs1,hcs2⟩:=hA_PV W _ (hq 7 (by decide));refine Qqa (k:=g1) hp1 ecs hc1 (by rw [hcs1];kernel_rfl) (by rw [hcs1];exact hz1) hcs2 ?_
  exact ⟨rfl,Qjd g hb1 _,⟨g1,c1',cs,hb1,hc1,hcs1,rfl⟩,⟨g1,cs,hp1,hb1,ecs,Qct hc1⟩⟩
 ·intro a W g hF hq ht;obtain ⟨g1,cs,hp1,hb1,ecs,hc1⟩:=ht;have hpc:=hq 7 (by decide);rw [show Qds Qei a 7=.agg cs from ecs] at hpc;have hput:=Qeu (show Fram 10 Qei b0 a from hF) (fun i j hi hj=>Qjg i hi j hj);have hk:=HK.out (fun i=>a.eval (.tmp (Qei i))) W g1 cs g hp1 hb1 hc1 hpc;rw [← hput] at hk;refine Qeh ?_
  show Q .normal (Act.put a (some 6) (a.eval (.tmp 17))) _
  rw [show a.eval (.tmp 17)=.bool true from hq 8 (by decide)];exact hk
end Go.Proofs.YthcidnnkakppcaaGreatDoor
