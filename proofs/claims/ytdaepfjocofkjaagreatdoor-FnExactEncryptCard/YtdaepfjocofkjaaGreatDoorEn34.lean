/- Proved: what its theorems say. -/
import Derived.Test.YtdaepfjocofkjaaGreatDoorEn33
set_option linter.unusedVariables false
set_option linter.unusedSimpArgs false
set_option maxHeartbeats 8000000
set_option maxRecDepth 100000
namespace Go.Proofs.YtdaepfjocofkjaaGreatDoor
open Go.ChangeShapes Go.WideShapes Go.ChangeAt Go.RowKit
def Qg0 (i:Nat):Nat:=[9,10,11,12,13,14,15,8,16,17,18,5,6].getD i 0
theorem Qtv:∀i,i<13->Qg0 i<25:=by decide
theorem Qj7:∀i,i<13->∀j,j<13->Qg0 i=Qg0 j->i=j:=by decide
theorem Qtw:∀s,s<5->∀i,i<13->Qg0 i≠s:=by decide
def qLf (rb:Nat) (T:Int) (a6:Option Addr) (l6 c6 lt ld:Nat) (ts ds:List Int) (base:Nat) (i:Nat) (W:World) (x:Value):Prop:=
 match i with
 | 0=>x=.pointer (some ⟨rb,5,none⟩)
 | 1=>x=.agg #[.bool false,.slice a6 l6 c6]
 | 2=>x=.pointer (some ⟨rb,0,none⟩)
 | 3=>x=.pointer (some ⟨rb,1,none⟩)
 | 4=>x=.int .i64 T
 | 5=>∃a c,x=.agg #[.bool false,.slice a lt c]/\Own W base (.slice a lt c) ts
 | 6=>∃a1 c1 a2 l2 c2,x=.tuple #[.agg #[.bool false,.slice a1 ld c1],.agg #[.bool false,.slice a2 l2 c2],.bool true]/\Own W base (.slice a1 ld c1) ds
 | 7=>∃a1 c1 a2 l2 c2,x=.tuple #[.agg #[.bool false,.slice a1 ld c1],.agg #[.bool false,.slice a2 l2 c2],.bool true]/\Own W base (.slice a1 ld c1) ds
 | 8=>∃a1 c1,x=.agg #[.bool false,.slice a1 ld c1]/\Own W base (.slice a1 ld c1) ds
 | 9=>∃a2 l2 c2,x=.agg #[.bool false,.slice a2 l2 c2]
 | 10=>x=.bool true
 | 11=>∃g,x=.pointer (some ⟨g,0,none⟩)/\base<=g/\∃cs,W.heap[g]? = some (.cells cs 67 (0,0))/\cs.size=2
 | 12=>∃g,x=.pointer (some ⟨g,0,none⟩)/\base<=g/\∃cs,W.heap[g]? = some (.cells cs 67 (0,0))/\cs.size=2
 | _=>True
theorem Q0l (rb:Nat) (T:Int) (a6:Option Addr) (l6 c6 lt ld:Nat) (ts ds:List Int) (base:Nat) (i:Nat) (W W':World) (x:Value) (h:qLf rb T a6 l6 c6 lt ld ts ds base i W x) (q:Old W W'):qLf rb T a6 l6 c6 lt ld ts ds base i W' x:=by
 unfold qLf at h ⊢;split at h
 case h_6=>
  obtain ⟨a,c,e,o⟩:=h;exact ⟨a,c,e,o.old q⟩
 case h_7=>
  obtain ⟨a1,c1,a2,l2,c2,e,o⟩:=h;exact ⟨a1,c1,a2,l2,c2,e,o.old q⟩
 case h_8=>
  obtain ⟨a1,c1,a2,l2,c2,e,o⟩:=h;exact ⟨a1,c1,a2,l2,c2,e,o.old q⟩
 case h_9=>
  obtain ⟨a1,c1,e,o⟩:=h;exact ⟨a1,c1,e,o.old q⟩
 case h_12=>
  obtain ⟨g,e,hb,cs,hg,hc⟩:=h;exact ⟨g,e,hb,cs,(q.block g (lt_of_some hg)).trans hg,hc⟩
 case h_13=>
  obtain ⟨g,e,hb,cs,hg,hc⟩:=h;exact ⟨g,e,hb,cs,(q.block g (lt_of_some hg)).trans hg,hc⟩
 all_goals first | exact h | trivial
theorem Qhf {W:World} {lo g:Nat} {v:Value} {xs:List Int} {cs:Array Value} {fr:Nat×Nat} (h:Own W lo v xs) (hg:W.heap[g]? = some (.cells cs 67 fr)) (c:Array Value):Own (W.setRow g c) lo v xs:=by
 refine ⟨h.1,?_⟩;rcases h.2 with hn | ⟨p,cap,cur,rfl,hb,hgg,rest⟩
 ·exact .inl hn
 ·refine .inr ⟨p,cap,cur,rfl,hb,?_,rest⟩;rw [Qax _ _ _ _ (fun e=>by rw [e,hg] at hgg;simp at hgg)];exact hgg
def Q37 (base:Nat) (W W':World):Prop:=∃g cs0 cs,base<=g/\W.heap[g]? = some (.cells cs0 67 (0,0))/\cs.size=2/\W'=W.setRow g cs
theorem Q0m (rb:Nat) (T:Int) (a6:Option Addr) (l6 c6 lt ld:Nat) (ts ds:List Int) (base:Nat) (i:Nat) (W W':World) (x:Value) (h:qLf rb T a6 l6 c6 lt ld ts ds base i W x) (q:Q37 base W W'):qLf rb T a6 l6 c6 lt ld ts ds base i W' x:=by
 obtain ⟨b,cs0,cs,qb,qg,qs,rfl⟩:=q;unfold qLf at h ⊢;split at h
 case h_6=>
  obtain ⟨a,c,e,o⟩:=h;exact ⟨a,c,e,Qhf o qg _⟩
 case h_7=>
  obtain ⟨a1,c1,a2,l2,c2,e,o⟩:=h;exact ⟨a1,c1,a2,l2,c2,e,Qhf o qg _⟩
 case h_8=>
  obtain ⟨a1,c1,a2,l2,c2,e,o⟩:=h;exact ⟨a1,c1,a2,l2,c2,e,Qhf o qg _⟩
 case h_9=>
  obtain ⟨a1,c1,e,o⟩:=h;exact ⟨a1,c1,e,Qhf o qg _⟩
 case h_12=>
  obtain ⟨g,e,hb,c,hg,hc⟩:=h
  by_cases hgb:g=b
  ·subst hgb;exact ⟨g,e,hb,cs,Qa8 qg,qs⟩
  ·exact ⟨g,e,hb,c,(Qax _ _ _ _ hgb).trans hg,hc⟩
 case h_13=>
  obtain ⟨g,e,hb,c,hg,hc⟩:=h
  by_cases hgb:g=b
  ·subst hgb;exact ⟨g,e,hb,cs,Qa8 qg,qs⟩
  ·exact ⟨g,e,hb,c,(Qax _ _ _ _ hgb).trans hg,hc⟩
 all_goals first | exact h | trivial
def tLf (ld:Nat) (k:Nat) (W:World) (vs:Nat->Value):Prop:=match k with
 | 0=>True
 | _ + 1=>∃g a1 c1,vs 11=.pointer (some ⟨g,0,none⟩)/\vs 8=.agg #[.bool false,.slice a1 ld c1]/\W.heap[g]? = some (.cells #[.bool false,.slice a1 ld c1] 67 (0,0))
def eLf (k:Nat):List Nat:=if k=0 then [8,11] else [8,9,11,12]
theorem Q2k (k:Nat):8∈eLf k/\11∈eLf k:=by
 unfold eLf;split <;> simp
theorem Q0n (ld:Nat) (k:Nat) (W W':World) (vs vs':Nat->Value) (h:tLf ld (k+1) W vs) (q:Old W W') (he:∀i∈eLf k,vs' i=vs i):tLf ld (k+1) W' vs':=by
 obtain ⟨g,a1,c1,h1,h2,h3⟩:=h;exact ⟨g,a1,c1,(he 11 (Q2k k).2).trans h1,(he 8 (Q2k k).1).trans h2,(q.block g (lt_of_some h3)).trans h3⟩
theorem Q2l (w0:World) (rb:Nat) (T:Int) (a6:Option Addr) (l6 c6 lt ld:Nat) (ts ds:List Int)
 (cT:w0.cell? ⟨rb,1,none⟩=some (.int .i64 T)) (c5:w0.cell? ⟨rb,5,none⟩=some (.bool false)) (c6':w0.cell? ⟨rb,6,none⟩=some (.slice a6 l6 c6))
 (KW:∀W,Old w0 W->Calls Tryz.prog 74 #[.int .i64 T] W fun e w'=>∃v',e=.returned v'/\Old W w'/\∃a c,v'=.agg #[.bool false,.slice a lt c]/\Own w' W.heap.size (.slice a lt c) ts)
 (KD:∀W a c,Old w0 W->Row W (.slice a lt c) ts->Calls Tryz.prog 73 #[.agg #[.bool false,.slice a6 l6 c6],.agg #[.bool false,.slice a lt c]] W fun e w'=>∃v',e=.returned v'/\Old W w'/\∃a1 c1 a2 l2 c2,v'=.tuple #[.agg #[.bool false,.slice a1 ld c1],.agg #[.bool false,.slice a2 l2 c2],.bool true]/\Own w' W.heap.size (.slice a1 ld c1) ds)
 (Q:Exit->Act->World->Prop) (a0:Act) (hsz:a0.tmps.size=25) (ha2:a0.eval (.tmp 2)=.pointer (some ⟨rb,0,none⟩))
 (HK:Hid (∀(us:Nat->Value) W g a1 c1,Old w0 W->w0.heap.size<=g->us 11=.pointer (some ⟨g,0,none⟩)->W.heap[g]? = some (.cells #[.bool false,.slice a1 ld c1] 67 (0,0))->Own W w0.heap.size (.slice a1 ld c1) ds->Q .normal ((Qah a0 ((List.range 13).map fun i=>(Qg0 i,us i))).put (some 7) (.bool true)) W)) :
 Code.wp Tryz.prog ((Tryz.f41.body.bind (Qa0 1)).getD .skip) Q a0 w0:=by
 conv=>arg 2;whnf
 have un:=Qtw;have pT:∀W,Old w0 W->W.cell? ⟨rb,1,none⟩=some (.int .i64 T):=fun W q=>(q.cell (p:=⟨rb,1,none⟩) (block_lt_of_cell cT)).trans cT
 have p5:∀W,Old w0 W->W.cell? ⟨rb,5,none⟩=some (.bool false):=fun W q=>(q.cell (p:=⟨rb,5,none⟩) (block_lt_of_cell c5)).trans c5
 have p6:∀W,Old w0 W->W.cell? ⟨rb,6,none⟩=some (.slice a6 l6 c6):=fun W q=>(q.cell (p:=⟨rb,6,none⟩) (block_lt_of_cell c6')).trans c6'
 refine Qhp 13 2 rfl rfl (by kernel_rfl) (by kernel_rfl) (by kernel_rfl) (by kernel_rfl) (by kernel_rfl) eLf (by kernel_rfl) Qg0 (fun i hi=>by rw [hsz];exact Qtv i hi) (fun i j hi hj=>Qj7 i hi j hj) (qLf rb T a6 l6 c6 lt ld ts ds w0.heap.size) (Q37 w0.heap.size) (Q0l rb T a6 l6 c6 lt ld ts ds w0.heap.size) (Q0m rb T a6 l6 c6 lt ld ts ds w0.heap.size) [11,12] (fun i W v hi h=>?_) (tLf ld) (fun _ _=>trivial) (Q0n ld) ?_ ?_ ?_
 ·have:i=11∨i=12:=by simpa using hi
  rcases this with rfl | rfl
  ·obtain ⟨g,e,_,cs,hg,_⟩:=h;exact ⟨g,e,lt_of_some hg⟩
  ·obtain ⟨g,e,_,cs,hg,_⟩:=h;exact ⟨g,e,lt_of_some hg⟩
 ·refine ⟨?_,?_,?_,?_,?_,?_,?_,?_,?_,?_,?_,?_,?_,trivial⟩
  ·intro a W g hF hd;have g2:=(hF.same 2 (un 2 (by decide))).trans ha2;obtain ⟨ρ,hρ⟩:∃ρ,a.eval=ρ:=⟨_,rfl⟩
   rw [hρ] at g2;refine Qai ρ hρ (.pointer (some ⟨rb,5,none⟩)) ?_ ⟨_,rfl,Old.refl _,rfl,(fun e=>by cases e)⟩
   clear g hF hd hρ ha2 HK un KW KD cT c5 c6' pT p5 p6
   go_simp
  ·intro a W g hF hd;have h0:a.eval (.tmp 9)=.pointer (some ⟨rb,5,none⟩):=hd ⟨0,.data⟩ (by simp) rfl;have k5:=p5 W g;have k6:=p6 W g;obtain ⟨ρ,hρ⟩:∃ρ,a.eval=ρ:=⟨_,rfl⟩
   rw [hρ] at h0;refine Qai ρ hρ (.agg #[.bool false,.slice a6 l6 c6]) ?_ ⟨_,rfl,Old.refl _,rfl,(fun e=>by cases e)⟩
   clear g hF hd hρ ha2 HK un KW KD cT c5 c6' pT p5 p6
   go_simp
  ·intro a W g hF hd;have g2:=(hF.same 2 (un 2 (by decide))).trans ha2;obtain ⟨ρ,hρ⟩:∃ρ,a.eval=ρ:=⟨_,rfl⟩
   rw [hρ] at g2;refine Qai ρ hρ (.pointer (some ⟨rb,0,none⟩)) ?_ ⟨_,rfl,Old.refl _,rfl,(fun e=>by cases e)⟩
   clear g hF hd hρ ha2 HK un KW KD cT c5 c6' pT p5 p6
   go_simp
  ·intro a W g hF hd;have h2:a.eval (.tmp 11)=.pointer (some ⟨rb,0,none⟩):=hd ⟨2,.data⟩ (by simp) rfl;obtain ⟨ρ,hρ⟩:∃ρ,a.eval=ρ:=⟨_,rfl⟩
   rw [hρ] at h2;refine Qai ρ hρ (.pointer (some ⟨rb,1,none⟩)) ?_ ⟨_,rfl,Old.refl _,rfl,(fun e=>by cases e)⟩
   clear g hF hd hρ ha2 HK un KW KD cT c5 c6' pT p5 p6
   go_simp
  ·intro a W g hF hd;have h3:a.eval (.tmp 12)=.pointer (some ⟨rb,1,none⟩):=hd ⟨3,.data⟩ (by simp) rfl;have kT:=pT W g;obtain ⟨ρ,hρ⟩:∃ρ,a.eval=ρ:=⟨_,rfl⟩
   rw [hρ] at h3;refine Qai ρ hρ (.int .i64 T) ?_ ⟨_,rfl,Old.refl _,rfl,(fun e=>by cases e)⟩
   clear g hF hd hρ ha2 HK un KW KD cT c5 c6' pT p5 p6
   go_simp
  ·intro a W g hF hd;have h4:a.eval (.tmp 13)=.int .i64 T:=hd ⟨4,.data⟩ (by simp) rfl;refine Qal Tryz.call74 (vs:=#[.int .i64 T]) (by simp [h4]) (KW W g) ?_
   rintro x w' ⟨g',a5,c5',rfl,o'⟩;exact ⟨_,rfl,g',⟨a5,c5',rfl,o'.low g.size⟩,(fun e=>by cases e)⟩
  ·intro a W g hF hd;have h1:a.eval (.tmp 10)=.agg #[.bool false,.slice a6 l6 c6]:=hd ⟨1,.data⟩ (by simp) rfl;obtain ⟨a5,c5',h5,o5⟩:∃a' c,a.eval (.tmp 14)=.agg #[.bool false,.slice a' lt c]∧Own W w0.heap.size (.slice a' lt c) ts:=hd ⟨5,.data⟩ (by simp) rfl
   refine Qal Tryz.call73 (vs:=#[.agg #[.bool false,.slice a6 l6 c6],.agg #[.bool false,.slice a5 lt c5']]) (by simp [h1,h5]) (KD W a5 c5' g (Own.row o5)) ?_
   rintro x w' ⟨g',a1,c1,a2,l2,c2,rfl,o'⟩;exact ⟨_,rfl,g',⟨a1,c1,a2,l2,c2,rfl,o'.low g.size⟩,(fun e=>by cases e)⟩
  ·intro a W g hF hd;have h6:∃a1 c1 a2 l2 c2,a.eval (.tmp 15)=.tuple #[.agg #[.bool false,.slice a1 ld c1],.agg #[.bool false,.slice a2 l2 c2],.bool true]∧Own W w0.heap.size (.slice a1 ld c1) ds:=hd ⟨6,.data⟩ (by simp) rfl
   refine Qbo ?_
   exact ⟨_,rfl,Old.refl _,h6,(fun e=>by cases e)⟩
  ·intro a W g hF hd;obtain ⟨a1,c1,a2,l2,c2,h7,o7⟩:∃a1 c1 a2 l2 c2,a.eval (.tmp 8)=.tuple #[.agg #[.bool false,.slice a1 ld c1],.agg #[.bool false,.slice a2 l2 c2],.bool true]∧Own W w0.heap.size (.slice a1 ld c1) ds:=hd ⟨7,.data⟩ (by simp) rfl
   exact Qbj h7 rfl ⟨_,rfl,Old.refl _,⟨a1,c1,rfl,o7⟩,(fun e=>by cases e)⟩
  ·intro a W g hF hd;obtain ⟨a1,c1,a2,l2,c2,h7,o7⟩:∃a1 c1 a2 l2 c2,a.eval (.tmp 8)=.tuple #[.agg #[.bool false,.slice a1 ld c1],.agg #[.bool false,.slice a2 l2 c2],.bool true]∧Own W w0.heap.size (.slice a1 ld c1) ds:=hd ⟨7,.data⟩ (by simp) rfl
   exact Qbj h7 rfl ⟨_,rfl,Old.refl _,⟨a2,l2,c2,rfl⟩,(fun e=>by cases e)⟩
  ·intro a W g hF hd;obtain ⟨a1,c1,a2,l2,c2,h7,o7⟩:∃a1 c1 a2 l2 c2,a.eval (.tmp 8)=.tuple #[.agg #[.bool false,.slice a1 ld c1],.agg #[.bool false,.slice a2 l2 c2],.bool true]∧Own W w0.heap.size (.slice a1 ld c1) ds:=hd ⟨7,.data⟩ (by simp) rfl
   exact Qbj h7 rfl ⟨_,rfl,Old.refl _,rfl,(fun e=>by cases e)⟩
  ·intro a W g hF hd;refine Qg5 (z:=.agg #[.bool false,.slice none 0 0]) (by kernel_rfl) ?_
   exact ⟨_,rfl,(Old.refl W).alloc _,⟨W.heap.size,rfl,g.size,_,heap_alloc_new W _,rfl⟩,fun _=>rfl⟩
  ·intro a W g hF hd;refine Qg5 (z:=.agg #[.bool false,.slice none 0 0]) (by kernel_rfl) ?_
   exact ⟨_,rfl,(Old.refl W).alloc _,⟨W.heap.size,rfl,g.size,_,heap_alloc_new W _,rfl⟩,fun _=>rfl⟩
 ·refine ⟨?_,?_,trivial⟩
  ·intro a W g hF _ hq hne;obtain ⟨a1,c1,h8,o8⟩:∃a1 c1,a.eval (.tmp 16)=.agg #[.bool false,.slice a1 ld c1]∧Own W w0.heap.size (.slice a1 ld c1) ds:=hq 8 (by decide)
   obtain ⟨g1,h11,b1,cs,z1,zs⟩:∃gg,a.eval (.tmp 5)=.pointer (some ⟨gg,0,none⟩)/\w0.heap.size<=gg/\∃cs,W.heap[gg]? = some (.cells cs 67 (0,0))/\cs.size=2:=hq 11 (by decide)
   refine Qfn (k:=g1) h11 h8 z1 (by kernel_rfl) zs (by simp [Value.oneCell']) ?_
   exact ⟨rfl,Qdm g b1 _,⟨g1,cs,_,b1,z1,rfl,rfl⟩,⟨g1,a1,c1,h11,h8,Qa8 z1⟩⟩
  ·intro a W g hF ht hq hne;obtain ⟨g1,a1,c1,h11,h8,z1⟩:=ht;have h11':a.eval (.tmp 5)=.pointer (some ⟨g1,0,none⟩):=h11;obtain ⟨a2,l2,c2,h9⟩:∃a2 l2 c2,a.eval (.tmp 17)=.agg #[.bool false,.slice a2 l2 c2]:=hq 9 (by decide)
   obtain ⟨g2,h12,b2,cs,z2,zs⟩:∃gg,a.eval (.tmp 6)=.pointer (some ⟨gg,0,none⟩)/\w0.heap.size<=gg/\∃cs,W.heap[gg]? = some (.cells cs 67 (0,0))/\cs.size=2:=hq 12 (by decide)
   have hg12:g1≠g2:=fun e=>hne 11 (by decide) 12 (by decide) (by decide) (by decide) (by decide) (by show a.eval (.tmp 5)=a.eval (.tmp 6);rw [h11',h12,e])
   refine Qfn (k:=g2) h12 h9 z2 (by kernel_rfl) zs (by simp [Value.oneCell']) ?_
   exact ⟨rfl,Qdm g b2 _,⟨g2,cs,_,b2,z2,rfl,rfl⟩,⟨g1,a1,c1,h11,h8,(Qax _ _ _ _ hg12).trans z1⟩⟩
 ·intro a W g hF hq ht;obtain ⟨g1,a1,c1,h11,h8,z1⟩:=ht;obtain ⟨a1',c1',h8',o8⟩:∃a1 c1,a.eval (.tmp 16)=.agg #[.bool false,.slice a1 ld c1]∧Own W w0.heap.size (.slice a1 ld c1) ds:=hq 8 (by decide)
  obtain ⟨g1',h11',b1,_⟩:∃gg,a.eval (.tmp 5)=.pointer (some ⟨gg,0,none⟩)/\w0.heap.size<=gg/\∃cs,W.heap[gg]? = some (.cells cs 67 (0,0))/\cs.size=2:=hq 11 (by decide)
  have h8a:a.eval (.tmp 16)=.agg #[.bool false,.slice a1 ld c1]:=h8;have h11a:a.eval (.tmp 5)=.pointer (some ⟨g1,0,none⟩):=h11;have e8:=h8'.symm.trans h8a;have e11:=h11'.symm.trans h11a;obtain ⟨rfl,rfl⟩:a1'=a1/\c1'=c1:=by simpa using e8
  obtain rfl:g1'=g1:=by simpa using e11
  have h10:a.eval (.tmp 18)=.bool true:=hq 10 (by decide);have hp:=Qda hF (fun i j hi hj=>Qj7 i hi j hj);have hk:=HK.out (fun i=>a.eval (.tmp (Qg0 i))) W g1' a1' c1' g b1 h11a z1 o8;rw [<- hp] at hk;refine Qbi ?_
  show Q .normal (Act.put a (some 7) (a.eval (.tmp 18))) _
  rw [h10];exact hk
theorem Q0o {P:Program} {a:Act} {W W':World} {K:Act->World->Prop} {Q:Exit->Act->World->Prop} {o:Oper} (ρ:Operand->Value) (hρ:a.eval=ρ) (v:Value) (hr:(execOp ρ o).run P W=.ok (.value v) W') (hK:K (a.put o.dst v) W'):o.wp P a W K Q:=by
 unfold Oper.wp;rw [hρ,hr];exact hK
theorem Qm8 {P:Program} {o:Oper} {a:Act} {w:World} {K:Act->World->Prop} {Q:Exit->Act->World->Prop} (s x:Operand) (t:TypeId)
 (ho:o.op=.call {callee:=.builtin .append,args:=#[s,x],argTypes:=#[t,t]})
 (base:Nat) (e:TypeId) (i:TypeInfo) (z:Value) (size bytes:Nat) (ht:P.underlying t=some (.slice e)) (hi:P.info? e=some i) (hz:i.zero=some z)
 (hsize:i.size=size) (hby:i.bytes=bytes) (hzs:z.cells.size=size) (hsz:0<size)
 (v:Value) (n:Nat) (xs:List Value) (hs:a.eval s=v) (hown:w.ownsRow base e size v n xs)
 (ad:Addr) (m c:Nat) (news:List Value) (hx:a.eval x=.slice (some ad) m c) (hl:news.length=m*size) (hnews:∀j u,news[j]? = some u->w.cell? (ad.add j)=some u) (h1:∀u∈news,u.oneCell'=true)
 (h63:n+m<=maxLen) (hbytes:(n+m)*bytes<=140737488355328) (hbase:base<=w.heap.size)
 (h:∀v' w',w'.ownsRow base e size v' (n+m) (xs++news)->w.grownBy w' v.ownBlock->(v'=.slice none 0 0↔v=.slice none 0 0/\m=0)->(v'.ownBlock=v.ownBlock∨v'.ownBlock=some w.heap.size)->K (a.put o.dst v') w') :
 o.wp P a w K Q:=by
 obtain ⟨v',w',hr,h2,h3,h4,h5⟩:=run_append_own_at (P:=P) w base t o.type e i z size bytes ht hi hz hsize hby hzs hsz v n xs hown ad m c news hl hnews h1 h63 hbytes hbase;unfold Oper.wp execOp;simp only [ho,resolve,invoke,builtin,Sem.run_bind,Sem.run_pure,Result.andThen_ok,List.map_toArray,List.map_cons,List.map_nil,hs,hx,hr];exact h v' w' h2 h3 h4 h5
theorem Q0p {W:World} {base:Nat} {v:Value} {zs:List Int} (h:Own W base v zs):∃ra rc,v=.slice ra zs.length rc/\zs.length<=rc:=by
 rcases h.2 with ⟨e,hn⟩ | ⟨_,_,_,e,_,_,hn,_⟩
 ·exact ⟨none,0,by rw [e,hn],by omega⟩
 ·exact ⟨_,_,e,hn⟩
def Qcf (i:Nat):Nat:=[18,19,20,21,22,23,24,25,26,27,28,29,30,31,32,33,7].getD i 0
theorem Qrj:∀i,i<17->Qcf i<36:=by decide
theorem Qij:∀i,i<17->∀j,j<17->Qcf i=Qcf j->i=j:=by decide
theorem Qrk:∀s,s<18->∀i,i<16->Qcf i≠s:=by decide
def Qu8 (sb b1 o1 b2 o2 L cap1 cap2 k:Nat) (aa:Option Addr) (cap:Nat) (p N:Int) (x1 x2:Option Addr) (n1 y1 n2 y2:Nat) (zs:List Int) (base:Nat) (i:Nat) (W:World) (xv:Value):Prop:=
 match i with
 | 0=>xv=.slice aa k cap
 | 1=>xv=.int .i64 p
 | 2=>xv=.pointer (some ⟨sb,0,none⟩)
 | 3=>xv=.int .i64 N
 | 4=>xv=.agg #[.int .i64 p,.int .i64 N,.int .i64 0]
 | 5=>xv=.slice (some ⟨b1,o1,none⟩) L cap1
 | 6=>xv=.int .i64 k
 | 7=>xv=.pointer (some ⟨b1,o1+k,none⟩)
 | 8=>xv=.slice x1 n1 y1
 | 9=>xv=.slice (some ⟨b2,o2,none⟩) L cap2
 | 10=>xv=.int .i64 k
 | 11=>xv=.pointer (some ⟨b2,o2+k,none⟩)
 | 12=>xv=.slice x2 n2 y2
 | 13=>∃ra rc,xv=.slice ra zs.length rc/\zs.length<=rc/\Own W base xv zs
 | 14=>∃ra rc g,xv=.slice (some ⟨g,0,none⟩) 1 1/\zs.length<=rc/\Own W base (.slice ra zs.length rc) zs/\W.cell? ⟨g,0,none⟩=some (.slice ra zs.length rc)/\g<W.heap.size
 | _=>True
theorem Qwn (sb b1 o1 b2 o2 L cap1 cap2 k:Nat) (aa:Option Addr) (cap:Nat) (p N:Int) (x1 x2:Option Addr) (n1 y1 n2 y2:Nat) (zs:List Int) (base:Nat) (i:Nat) (W W':World) (xv:Value) (h:Qu8 sb b1 o1 b2 o2 L cap1 cap2 k aa cap p N x1 x2 n1 y1 n2 y2 zs base i W xv) (qo:Old W W'):Qu8 sb b1 o1 b2 o2 L cap1 cap2 k aa cap p N x1 x2 n1 y1 n2 y2 zs base i W' xv:=by
 unfold Qu8 at h ⊢;split at h
 case h_14=>
  obtain ⟨ra,rc,e,hc,ow⟩:=h;exact ⟨ra,rc,e,hc,ow.old qo⟩
 case h_15=>
  obtain ⟨ra,rc,g,e,hc,ow,hcell,hlt⟩:=h;exact ⟨ra,rc,g,e,hc,ow.old qo,(qo.cell (p:=⟨g,0,none⟩) hlt).trans hcell,Nat.lt_of_lt_of_le hlt qo.size⟩
 all_goals first | exact h | trivial
theorem Q0q (w0:World) (sb b1 o1 b2 o2 L cap1 cap2 k:Nat) (aa:Option Addr) (cap:Nat) (p N:Int) (x1 x2:Option Addr) (n1 y1 n2 y2:Nat) (zs:List Int) (base:Nat) (hbase:base<=w0.heap.size) (FIN:World->Value->Prop)
 (cN:w0.cell? ⟨sb,0,none⟩=some (.int .i64 N)) (c1:w0.cell? ⟨b1,o1+k,none⟩=some (.slice x1 n1 y1)) (c2:w0.cell? ⟨b2,o2+k,none⟩=some (.slice x2 n2 y2))
 (hk:k<L) (hk6:k<=6) (hL:L<=1048576) (hkL:(k:Int)<(L:Int))
 (KF:∀W,Old w0 W->Calls Tryz.prog 56 #[.agg #[.int .i64 p,.int .i64 N,.int .i64 0],.slice x1 n1 y1,.slice x2 n2 y2] W fun e w'=>∃v',e=.returned v'/\Old W w'/\Own w' W.heap.size v' zs)
 (HEM:∀(W:World) (ra:Option Addr) (rc:Nat),Old w0 W->Own W w0.heap.size (.slice ra zs.length rc) zs->zs.length<=rc->∃vs,W.ownsRow base 22 1 (.slice aa k cap) k vs/\(∀v' w',w'.ownsRow base 22 1 v' (k+1) (vs++[.slice ra zs.length rc])->W.grownBy w' (Value.slice aa k cap).ownBlock->(v'.ownBlock=(Value.slice aa k cap).ownBlock∨v'.ownBlock=some W.heap.size)->FIN w' v'))
 (Q:Exit->Act->World->Prop) (a0:Act) (hsz:a0.tmps.size=36)
 (ha1:a0.eval (.tmp 1)=.slice (some ⟨b1,o1,none⟩) L cap1) (ha2:a0.eval (.tmp 2)=.slice (some ⟨b2,o2,none⟩) L cap2) (ha3:a0.eval (.tmp 3)=.pointer (some ⟨sb,0,none⟩)) (ha7:a0.eval (.tmp 7)=.slice aa k cap) (ha8:a0.eval (.tmp 8)=.int .i64 k) (ha9:a0.eval (.tmp 9)=.int .i64 p)
 (HK:Hid (∀(us:Nat->Value) W,FIN W (us 16)->Q .normal (Qah a0 ((List.range 17).map fun i=>(Qcf i,us i))) W)) :
 Code.wp Tryz.prog ((Tryz.f31.body.bind (Qa0 5)).getD .skip) Q a0 w0:=by
 conv=>arg 2;whnf
 obtain ⟨i0,ii,iz0,iz1,iz2⟩:=info_parts Tryz.infoInt;obtain ⟨j0,ji,jz0,jz1,jz2⟩:=info_parts Tryz.infoInts;have hsb:=block_lt_of_cell cN;have hb1:=block_lt_of_cell c1;have hb2:=block_lt_of_cell c2;have un:=Qrk;refine Qi8 15 rfl rfl rfl (by kernel_rfl) (by kernel_rfl) (by kernel_rfl) (by kernel_rfl) (by kernel_rfl) Qcf (fun i hi=>by rw [hsz];exact Qrj i hi) (fun i j hi hj=>Qij i hi j hj) (Qu8 sb b1 o1 b2 o2 L cap1 cap2 k aa cap p N x1 x2 n1 y1 n2 y2 zs w0.heap.size) (Qwn sb b1 o1 b2 o2 L cap1 cap2 k aa cap p N x1 x2 n1 y1 n2 y2 zs w0.heap.size) FIN ?_ ?_ ?_ ?_
 ·refine ⟨?_,?_,?_,?_,?_,?_,?_,?_,?_,?_,?_,?_,?_,?_,?_,trivial⟩
  ·intro a W g hF hd;have e1:=(hF.same 1 (un 1 (by decide))).trans ha1;have e2:=(hF.same 2 (un 2 (by decide))).trans ha2;have e3:=(hF.same 3 (un 3 (by decide))).trans ha3;have e7:=(hF.same 7 (un 7 (by decide))).trans ha7;have e8:=(hF.same 8 (un 8 (by decide))).trans ha8;have e9:=(hF.same 9 (un 9 (by decide))).trans ha9;obtain ⟨ρ,hρ⟩:∃ρ,a.eval=ρ:=⟨_,rfl⟩
   rw [hρ] at e1 e2 e3 e7 e8 e9;refine Qai ρ hρ (.slice aa k cap) ?_ ⟨_,rfl,Old.refl _,rfl⟩
   clear g hF hd hρ HK un ha1 ha2 ha3 ha7 ha8 ha9 cN c1 c2 KF HEM
   go_simp
   all_goals (rw [IntKind.wrap_i64];omega)
  ·intro a W g hF hd;have e1:=(hF.same 1 (un 1 (by decide))).trans ha1;have e2:=(hF.same 2 (un 2 (by decide))).trans ha2;have e3:=(hF.same 3 (un 3 (by decide))).trans ha3;have e7:=(hF.same 7 (un 7 (by decide))).trans ha7;have e8:=(hF.same 8 (un 8 (by decide))).trans ha8;have e9:=(hF.same 9 (un 9 (by decide))).trans ha9;obtain ⟨ρ,hρ⟩:∃ρ,a.eval=ρ:=⟨_,rfl⟩
   rw [hρ] at e1 e2 e3 e7 e8 e9;refine Qai ρ hρ (.int .i64 p) ?_ ⟨_,rfl,Old.refl _,rfl⟩
   clear g hF hd hρ HK un ha1 ha2 ha3 ha7 ha8 ha9 cN c1 c2 KF HEM
   go_simp
   all_goals (rw [IntKind.wrap_i64];omega)
  ·intro a W g hF hd;have e1:=(hF.same 1 (un 1 (by decide))).trans ha1;have e2:=(hF.same 2 (un 2 (by decide))).trans ha2;have e3:=(hF.same 3 (un 3 (by decide))).trans ha3;have e7:=(hF.same 7 (un 7 (by decide))).trans ha7;have e8:=(hF.same 8 (un 8 (by decide))).trans ha8;have e9:=(hF.same 9 (un 9 (by decide))).trans ha9;obtain ⟨ρ,hρ⟩:∃ρ,a.eval=ρ:=⟨_,rfl⟩
   rw [hρ] at e1 e2 e3 e7 e8 e9;refine Qai ρ hρ (.pointer (some ⟨sb,0,none⟩)) ?_ ⟨_,rfl,Old.refl _,rfl⟩
   clear g hF hd hρ HK un ha1 ha2 ha3 ha7 ha8 ha9 cN c1 c2 KF HEM
   go_simp
   all_goals (rw [IntKind.wrap_i64];omega)
  ·intro a W g hF hd;have e1:=(hF.same 1 (un 1 (by decide))).trans ha1;have e2:=(hF.same 2 (un 2 (by decide))).trans ha2;have e3:=(hF.same 3 (un 3 (by decide))).trans ha3;have e7:=(hF.same 7 (un 7 (by decide))).trans ha7;have e8:=(hF.same 8 (un 8 (by decide))).trans ha8;have e9:=(hF.same 9 (un 9 (by decide))).trans ha9;have h2:=hd ⟨2,.data⟩ (by simp) rfl;simp only [Qu8,Qcf,List.getD_cons_zero,List.getD_cons_succ] at h2;have kcN:=(g.cell (p:=⟨sb,0,none⟩) hsb).trans cN;obtain ⟨ρ,hρ⟩:∃ρ,a.eval=ρ:=⟨_,rfl⟩
   rw [hρ] at h2 e1 e2 e3 e7 e8 e9;refine Qai ρ hρ (.int .i64 N) ?_ ⟨_,rfl,Old.refl _,rfl⟩
   clear g hF hd hρ HK un ha1 ha2 ha3 ha7 ha8 ha9 cN c1 c2 KF HEM
   go_simp
   all_goals (rw [IntKind.wrap_i64];omega)
  ·intro a W g hF hd;have e1:=(hF.same 1 (un 1 (by decide))).trans ha1;have e2:=(hF.same 2 (un 2 (by decide))).trans ha2;have e3:=(hF.same 3 (un 3 (by decide))).trans ha3;have e7:=(hF.same 7 (un 7 (by decide))).trans ha7;have e8:=(hF.same 8 (un 8 (by decide))).trans ha8;have e9:=(hF.same 9 (un 9 (by decide))).trans ha9;have h1:=hd ⟨1,.data⟩ (by simp) rfl;have h3:=hd ⟨3,.data⟩ (by simp) rfl;simp only [Qu8,Qcf,List.getD_cons_zero,List.getD_cons_succ] at h1 h3;obtain ⟨ρ,hρ⟩:∃ρ,a.eval=ρ:=⟨_,rfl⟩
   rw [hρ] at h1 h3 e1 e2 e3 e7 e8 e9;refine Qai ρ hρ (.agg #[.int .i64 p,.int .i64 N,.int .i64 0]) ?_ ⟨_,rfl,Old.refl _,rfl⟩
   clear g hF hd hρ HK un ha1 ha2 ha3 ha7 ha8 ha9 cN c1 c2 KF HEM
   go_simp
   all_goals (rw [IntKind.wrap_i64];omega)
  ·intro a W g hF hd;have e1:=(hF.same 1 (un 1 (by decide))).trans ha1;have e2:=(hF.same 2 (un 2 (by decide))).trans ha2;have e3:=(hF.same 3 (un 3 (by decide))).trans ha3;have e7:=(hF.same 7 (un 7 (by decide))).trans ha7;have e8:=(hF.same 8 (un 8 (by decide))).trans ha8;have e9:=(hF.same 9 (un 9 (by decide))).trans ha9;obtain ⟨ρ,hρ⟩:∃ρ,a.eval=ρ:=⟨_,rfl⟩
   rw [hρ] at e1 e2 e3 e7 e8 e9;refine Qai ρ hρ (.slice (some ⟨b1,o1,none⟩) L cap1) ?_ ⟨_,rfl,Old.refl _,rfl⟩
   clear g hF hd hρ HK un ha1 ha2 ha3 ha7 ha8 ha9 cN c1 c2 KF HEM
   go_simp
   all_goals (rw [IntKind.wrap_i64];omega)
  ·intro a W g hF hd;have e1:=(hF.same 1 (un 1 (by decide))).trans ha1;have e2:=(hF.same 2 (un 2 (by decide))).trans ha2;have e3:=(hF.same 3 (un 3 (by decide))).trans ha3;have e7:=(hF.same 7 (un 7 (by decide))).trans ha7;have e8:=(hF.same 8 (un 8 (by decide))).trans ha8;have e9:=(hF.same 9 (un 9 (by decide))).trans ha9;obtain ⟨ρ,hρ⟩:∃ρ,a.eval=ρ:=⟨_,rfl⟩
   rw [hρ] at e1 e2 e3 e7 e8 e9;refine Qai ρ hρ (.int .i64 k) ?_ ⟨_,rfl,Old.refl _,rfl⟩
   clear g hF hd hρ HK un ha1 ha2 ha3 ha7 ha8 ha9 cN c1 c2 KF HEM
   go_simp
   all_goals (rw [IntKind.wrap_i64];omega)
  ·intro a W g hF hd;have e1:=(hF.same 1 (un 1 (by decide))).trans ha1;have e2:=(hF.same 2 (un 2 (by decide))).trans ha2;have e3:=(hF.same 3 (un 3 (by decide))).trans ha3;have e7:=(hF.same 7 (un 7 (by decide))).trans ha7;have e8:=(hF.same 8 (un 8 (by decide))).trans ha8;have e9:=(hF.same 9 (un 9 (by decide))).trans ha9;have h5:=hd ⟨5,.data⟩ (by simp) rfl;have h6:=hd ⟨6,.data⟩ (by simp) rfl;simp only [Qu8,Qcf,List.getD_cons_zero,List.getD_cons_succ] at h5 h6;obtain ⟨ρ,hρ⟩:∃ρ,a.eval=ρ:=⟨_,rfl⟩
   rw [hρ] at h5 h6 e1 e2 e3 e7 e8 e9;refine Qai ρ hρ (.pointer (some ⟨b1,o1+k,none⟩)) ?_ ⟨_,rfl,Old.refl _,rfl⟩
   clear g hF hd hρ HK un ha1 ha2 ha3 ha7 ha8 ha9 cN c1 c2 KF HEM
   go_simp
   all_goals (rw [IntKind.wrap_i64];omega)
  ·intro a W g hF hd;have e1:=(hF.same 1 (un 1 (by decide))).trans ha1;have e2:=(hF.same 2 (un 2 (by decide))).trans ha2;have e3:=(hF.same 3 (un 3 (by decide))).trans ha3;have e7:=(hF.same 7 (un 7 (by decide))).trans ha7;have e8:=(hF.same 8 (un 8 (by decide))).trans ha8;have e9:=(hF.same 9 (un 9 (by decide))).trans ha9;have h7:=hd ⟨7,.data⟩ (by simp) rfl;simp only [Qu8,Qcf,List.getD_cons_zero,List.getD_cons_succ] at h7;have kc1:=(g.cell (p:=⟨b1,o1+k,none⟩) hb1).trans c1;obtain ⟨ρ,hρ⟩:∃ρ,a.eval=ρ:=⟨_,rfl⟩
   rw [hρ] at h7 e1 e2 e3 e7 e8 e9;refine Qai ρ hρ (.slice x1 n1 y1) ?_ ⟨_,rfl,Old.refl _,rfl⟩
   clear g hF hd hρ HK un ha1 ha2 ha3 ha7 ha8 ha9 cN c1 c2 KF HEM
   go_simp
   all_goals (rw [IntKind.wrap_i64];omega)
  ·intro a W g hF hd;have e1:=(hF.same 1 (un 1 (by decide))).trans ha1;have e2:=(hF.same 2 (un 2 (by decide))).trans ha2;have e3:=(hF.same 3 (un 3 (by decide))).trans ha3;have e7:=(hF.same 7 (un 7 (by decide))).trans ha7;have e8:=(hF.same 8 (un 8 (by decide))).trans ha8;have e9:=(hF.same 9 (un 9 (by decide))).trans ha9;obtain ⟨ρ,hρ⟩:∃ρ,a.eval=ρ:=⟨_,rfl⟩
   rw [hρ] at e1 e2 e3 e7 e8 e9;refine Qai ρ hρ (.slice (some ⟨b2,o2,none⟩) L cap2) ?_ ⟨_,rfl,Old.refl _,rfl⟩
   clear g hF hd hρ HK un ha1 ha2 ha3 ha7 ha8 ha9 cN c1 c2 KF HEM
   go_simp
   all_goals (rw [IntKind.wrap_i64];omega)
  ·intro a W g hF hd;have e1:=(hF.same 1 (un 1 (by decide))).trans ha1;have e2:=(hF.same 2 (un 2 (by decide))).trans ha2;have e3:=(hF.same 3 (un 3 (by decide))).trans ha3;have e7:=(hF.same 7 (un 7 (by decide))).trans ha7;have e8:=(hF.same 8 (un 8 (by decide))).trans ha8;have e9:=(hF.same 9 (un 9 (by decide))).trans ha9;obtain ⟨ρ,hρ⟩:∃ρ,a.eval=ρ:=⟨_,rfl⟩
   rw [hρ] at e1 e2 e3 e7 e8 e9;refine Qai ρ hρ (.int .i64 k) ?_ ⟨_,rfl,Old.refl _,rfl⟩
   clear g hF hd hρ HK un ha1 ha2 ha3 ha7 ha8 ha9 cN c1 c2 KF HEM
   go_simp
   all_goals (rw [IntKind.wrap_i64];omega)
  ·intro a W g hF hd;have e1:=(hF.same 1 (un 1 (by decide))).trans ha1;have e2:=(hF.same 2 (un 2 (by decide))).trans ha2;have e3:=(hF.same 3 (un 3 (by decide))).trans ha3;have e7:=(hF.same 7 (un 7 (by decide))).trans ha7;have e8:=(hF.same 8 (un 8 (by decide))).trans ha8;have e9:=(hF.same 9 (un 9 (by decide))).trans ha9;have h9:=hd ⟨9,.data⟩ (by simp) rfl;have h10:=hd ⟨10,.data⟩ (by simp) rfl;simp only [Qu8,Qcf,List.getD_cons_zero,List.getD_cons_succ] at h9 h10;obtain ⟨ρ,hρ⟩:∃ρ,a.eval=ρ:=⟨_,rfl⟩
   rw [hρ] at h9 h10 e1 e2 e3 e7 e8 e9;refine Qai ρ hρ (.pointer (some ⟨b2,o2+k,none⟩)) ?_ ⟨_,rfl,Old.refl _,rfl⟩
   clear g hF hd hρ HK un ha1 ha2 ha3 ha7 ha8 ha9 cN c1 c2 KF HEM
   go_simp
   all_goals (rw [IntKind.wrap_i64];omega)
  ·intro a W g hF hd;have e1:=(hF.same 1 (un 1 (by decide))).trans ha1;have e2:=(hF.same 2 (un 2 (by decide))).trans ha2;have e3:=(hF.same 3 (un 3 (by decide))).trans ha3;have e7:=(hF.same 7 (un 7 (by decide))).trans ha7;have e8:=(hF.same 8 (un 8 (by decide))).trans ha8;have e9:=(hF.same 9 (un 9 (by decide))).trans ha9;have h11:=hd ⟨11,.data⟩ (by simp) rfl;simp only [Qu8,Qcf,List.getD_cons_zero,List.getD_cons_succ] at h11;have kc2:=(g.cell (p:=⟨b2,o2+k,none⟩) hb2).trans c2;obtain ⟨ρ,hρ⟩:∃ρ,a.eval=ρ:=⟨_,rfl⟩
   rw [hρ] at h11 e1 e2 e3 e7 e8 e9;refine Qai ρ hρ (.slice x2 n2 y2) ?_ ⟨_,rfl,Old.refl _,rfl⟩
   clear g hF hd hρ HK un ha1 ha2 ha3 ha7 ha8 ha9 cN c1 c2 KF HEM
   go_simp
   all_goals (rw [IntKind.wrap_i64];omega)
  ·intro a W g hF hd;have h4:a.eval (.tmp 22)=.agg #[.int .i64 p,.int .i64 N,.int .i64 0]:=hd ⟨4,.data⟩ (by simp) rfl;have h8:a.eval (.tmp 26)=.slice x1 n1 y1:=hd ⟨8,.data⟩ (by simp) rfl;have h12:a.eval (.tmp 30)=.slice x2 n2 y2:=hd ⟨12,.data⟩ (by simp) rfl;refine Qal Tryz.call56 (vs:=#[.agg #[.int .i64 p,.int .i64 N,.int .i64 0],.slice x1 n1 y1,.slice x2 n2 y2]) (by simp [h4,h8,h12]) (KF W g) ?_
   rintro x w' ⟨g',o'⟩;obtain ⟨ra,rc,e,hc⟩:=Q0p o';subst e;exact ⟨_,rfl,g',ra,rc,rfl,hc,o'.low g.size⟩
  ·intro a W g hF hd;obtain ⟨ra,rc,h7,hc,ow⟩:∃ra rc,a.eval (.tmp 31)=.slice ra zs.length rc∧zs.length≤rc∧Own W w0.heap.size (a.eval (.tmp 31)) zs:=hd ⟨13,.data⟩ (by simp) rfl
   rw [h7] at ow;obtain ⟨ρ,hρ⟩:∃ρ,a.eval=ρ:=⟨_,rfl⟩
   rw [hρ] at h7;refine Q0o (W':=W.alloc (.cells #[.slice ra zs.length rc] 22)) ρ hρ (.slice (some ⟨W.heap.size,0,none⟩) 1 1) ?_ ⟨_,rfl,(Old.refl W).alloc _,ra,rc,W.heap.size,rfl,hc,ow.alloc _,Qae _ _ _ _ _ rfl,by simp⟩
   clear g hF hd hρ HK un ha1 ha2 ha3 ha7 ha8 ha9 cN c1 c2 KF HEM ow hc
   go_simp
 ·intro a W g hF hq;have h0:a.eval (.tmp 18)=.slice aa k cap:=hq 0 (by decide);obtain ⟨ra,rc,gg,h8,hc,ow,hcell,hlt⟩:∃ra rc gg,a.eval (.tmp 32)=.slice (some ⟨gg,0,none⟩) 1 1∧zs.length≤rc∧Own W w0.heap.size (.slice ra zs.length rc) zs∧W.cell? ⟨gg,0,none⟩=some (.slice ra zs.length rc)∧gg<W.heap.size:=hq 14 (by decide)
  obtain ⟨vs,ov,hem⟩:=HEM W ra rc g ow hc;refine Qm8 _ _ 25 rfl base 22 j0 (.slice none 0 0) 1 24 Tryz.underlying25 ji jz0 jz1 jz2 rfl (by decide) _ k vs h0 ov ⟨gg,0,none⟩ 1 1 [.slice ra zs.length rc] h8 rfl ?_ (Qqh _ _ _) (by unfold maxLen;omega) (by omega) (Nat.le_trans hbase g.size) ?_
  ·intro j u hj
   match j,hj with
   | 0,hj=>
     have:Value.slice ra zs.length rc=u:=by simpa using hj
     subst this;exact hcell
   | j+1,hj=>simp at hj
  ·intro v' w' o5 g5 x5 l5;exact ⟨v',rfl,hem v' w' o5 g5 l5⟩
 ·intro a W v hv;exact Qbi (by rw [show a.eval (.tmp 33)=v from hv];exact ⟨rfl,rfl⟩)
 ·intro a W hF hq;have hp:=Qda hF (fun i j hi hj=>Qij i hi j hj);have hk:=HK.out (fun i=>a.eval (.tmp (Qcf i))) W hq;rw [<- hp] at hk;exact hk
end Go.Proofs.YtdaepfjocofkjaaGreatDoor
namespace Go.Proofs.YtdaepfjocofkjaaGreatDoor
open Go.ChangeShapes Go.WideShapes Go.ChangeAt Go.RowKit
open M1
theorem Qrl (N:Int) (ps:List Int) (xss yss zss:List (List Int)) (v u1 u2:Value) (w:World) (hv:Row w v ps) (h1:Qci w u1 xss) (h2:Qci w u2 yss) (hps:1<=ps.length/\ps.length<=6) (hx:xss.length=ps.length) (hy:yss.length=ps.length) (hzl:zss.length=ps.length)
 (KF:∀k,k<ps.length->∀W u t,Row W u (xss.getD k [])->Row W t (yss.getD k [])->Calls Tryz.prog 56 #[.agg #[.int .i64 (ps.getD k 0),.int .i64 N,.int .i64 0],u,t] W fun e w'=>∃v',e=.returned v'/\Old W w'/\Own w' W.heap.size v' (zss.getD k [])) :
 Calls Tryz.prog 31 #[.agg #[.int .i64 N,v],u1,u2] w fun e w'=>∃v',e=.returned v'/\Old w w'/\OwS zss w' w.heap.size w'.heap.size v':=by
 have HKF:=Qaa KF;clear KF;obtain ⟨a0,cap0,ev⟩:=hv.slice;obtain ⟨a1,cap1,e1⟩:=h1.slice;obtain ⟨a2,cap2,e2⟩:=h2.slice;rw [hx] at e1;rw [hy] at e2;subst ev e1 e2;rcases hv with ⟨a,cap,e,e'⟩ | ⟨b,o,cap,e,hb,h0,hc⟩
 ·subst e';simp at hps
 rcases h1 with ⟨a,cap,e,e'⟩ | ⟨b1,o1,cap,us1,e_1,hb1,h01,hc1⟩
 ·subst e';simp at hx;omega
 rcases h2 with ⟨a,cap,e,e'⟩ | ⟨b2,o2,cap,us2,e_2,hb2,h02,hc2⟩
 ·subst e';simp at hy;omega
 simp only [Value.slice.injEq,true_and] at e e_1 e_2;obtain ⟨rfl,rfl⟩:=e;obtain ⟨rfl,hq1,rfl⟩:=e_1;obtain ⟨rfl,hq2,rfl⟩:=e_2;have HC:=Qaa hc;have HC1:Hid (∀j,j<ps.length->w.cell? ⟨b1,o1+j,none⟩=some (us1 j)/\Row w (us1 j) (xss.getD j [])):=fun j hj=>hc1 j (by omega)
 have HC2:Hid (∀j,j<ps.length->w.cell? ⟨b2,o2+j,none⟩=some (us2 j)/\Row w (us2 j) (yss.getD j [])):=fun j hj=>hc2 j (by omega)
 have HZ:Hid (∀k,k<ps.length->zss.take (k+1)=zss.take k++[zss.getD k []]):=fun k hk=>Qej _ _ (by omega)
 have HZL:=Qaa hzl;obtain ⟨wB,hwB⟩:∃wB,wB=w.alloc (.cells #[.int .i64 N,.slice (some ⟨b,o,none⟩) ps.length cap0] 60):=⟨_,rfl⟩
 have HAO:Hid (Old w wB):=by rw [hwB];exact (Old.refl w).alloc _
 have hq0:wB.cell? ⟨w.heap.size,0,none⟩=some (.int .i64 N):=by rw [hwB];exact Qae _ _ _ _ _ rfl
 have hqs:w.heap.size<wB.heap.size:=by rw [hwB];simp
 clear hc hc1 hc2 hzl hq1 hq2 h0 h01 h02 hx hy;go_enter Tryz.func31,Tryz.ntmps31;go_wp2_with fail;rw [<- hwB];clear hwB
 go_loopw [7,13] (fun x i W=>∃(k:Nat) (a:Option Addr) (cap:Nat),k<=ps.length/\i=.int .i64 k/\x=.slice a k cap/\Hid (OwS (zss.take k) W wB.heap.size W.heap.size (.slice a k cap))/\Hid (Old wB W)) (fun _ i _=>ps.length - (intOf i).toNat)
 case atStart=>exact ⟨0,none,0,by omega,rfl,rfl,⟨Nat.le_refl _,Or.inl ⟨rfl,by simp⟩⟩,Old.refl _⟩
 case round=>
  obtain ⟨k,a,cap,hk,rfl,rfl,HO,HG⟩:=hrel;have hsr:=HG.out.size
  by_cases hlt:k<ps.length
  ·have hkL:(k:Int)<(ps.length:Int):=by omega
   have HGW:=Qaa (Old.trans HAO.out HG.out);have c0:=(HGW.out.cell (p:=⟨b,o+k,none⟩) hb).trans (HC.out k hlt);obtain ⟨p1,p2⟩:=HC1.out k hlt;obtain ⟨xa,ya,f1⟩:=p2.slice;rw [f1] at p1 p2;obtain ⟨p3,p4⟩:=HC2.out k hlt;obtain ⟨xb,yb,f2⟩:=p4.slice;rw [f2] at p3 p4;have c1:=(HGW.out.cell (p:=⟨b1,o1+k,none⟩) hb1).trans p1;have c2:=(HGW.out.cell (p:=⟨b2,o2+k,none⟩) hb2).trans p3;have R1:=Qaa (p2.old HGW.out);have R2:=Qaa (p4.old HGW.out);have n0:=(HG.out.cell (p:=⟨w.heap.size,0,none⟩) hqs).trans hq0;have HZK:=Qaa (HZ.out k hlt);have KFk:=HKF.out k hlt;clear p1 p2 p3 p4 f1 f2;generalize zss.getD k []=zs at *;generalize xss.getD k []=xs at *;generalize yss.getD k []=ys at *;generalize ps.getD k 0=p at *
   have HEMB:Hid (∀(W:World) (ra:Option Addr) (rc:Nat),Old wr W->Own W wr.heap.size (.slice ra zs.length rc) zs->zs.length<=rc->∃vs,W.ownsRow wB.heap.size 22 1 (.slice a k cap) k vs/\(∀v' w',w'.ownsRow wB.heap.size 22 1 v' (k+1) (vs++[.slice ra zs.length rc])->W.grownBy w' (Value.slice a k cap).ownBlock->(v'.ownBlock=(Value.slice a k cap).ownBlock∨v'.ownBlock=some W.heap.size)->OwS (zss.take (k+1)) w' wB.heap.size w'.heap.size v'/\Below (wB.heap.size) wr w')):=fun W ra rc g o hc=>by
    have hl:(zss.take k).length=k:=by rw [List.length_take];have:=HZL.out;omega
    have:=OwS.app HO.out hsr g o hc;rw [hl] at this;rw [HZK.out];obtain ⟨vs,t1,t2⟩:=this;refine ⟨vs,t1,fun v' w' q1 q2 q3=>⟨t2 v' w' q1 q2 q3,?_⟩⟩;refine Below.grown (g.mono hsr) q2 (Nat.le_trans hsr g.size) (fun p hp=>?_);obtain ⟨hh,⟨e,e2⟩ | ⟨p',cap',vs,e,hcap,hl,hhi,_⟩⟩:=HO.out
    ·rw [e] at hp
     cases hp
    ·rw [e] at hp;simp only [Value.ownBlock,Option.some.injEq] at hp;omega
   go_wp2_with fail
   refine Q0q wr w.heap.size b1 o1 b2 o2 ps.length cap1 cap2 k a cap p N xa xb xs.length ya ys.length yb zs wB.heap.size hsr (fun W v=>OwS (zss.take (k+1)) W wB.heap.size W.heap.size v/\Old wB W) n0 c1 c2 hlt (by omega) (by omega) hkL (fun W g=>KFk W _ _ (R1.out.old g) (R2.out.old g)) (fun W ra rc g o hc=>by
    obtain ⟨vs,t1,t2⟩:=HEMB.out W ra rc g o hc;exact ⟨vs,t1,fun v' w' q1 q2 q3=>⟨(t2 v' w' q1 q2 q3).1,Below.trans HG.out (t2 v' w' q1 q2 q3).2⟩⟩) _ _ ?_ ?_ ?_ ?_ ?_ ?_ ?_ ?_
   iterate 7 (·exact rfl)
   intro us W' hfin;obtain ⟨O5,G5⟩:=hfin;have HO5:=Qaa O5;have HG5:=Qaa G5;clear O5 G5 c0 c1 c2 n0 KFk HEMB;simp only [Qah,Act.put,Qcf,List.range,List.range.loop,List.map_cons,List.map_nil,List.getD_cons_zero,List.getD_cons_succ,List.setIfInBounds_toArray,List.set_cons_succ,List.set_cons_zero];have hl1:(zss.take (k+1)).length=k+1:=by rw [List.length_take];have:=HZL.out;omega
   obtain ⟨a5,cap5,e5⟩:=HO5.out.slice;rw [hl1] at e5;rw [e5] at HO5;generalize us 16=u10 at *;subst e5;go_wp2_with fail;exact ⟨⟨k+1,_,_,by omega,by go_num,rfl,HO5,HG5⟩,by simp [intOf];omega⟩
  ·have d1:decide ((k:Int)<(ps.length:Int))=false:=by simp;omega
   obtain rfl:k=ps.length:=by omega
   have HF:Hid (OwS zss wr wB.heap.size wr.heap.size (.slice a ps.length cap)):=by
    have:=HO.out;rw [List.take_of_length_le (by have:=HZL.out;omega)] at this;exact this
   go_wp2_with fail;go_ret;exact ⟨_,rfl,Old.trans HAO.out HG.out,HF.out.low HAO.out.size⟩
end Go.Proofs.YtdaepfjocofkjaaGreatDoor
