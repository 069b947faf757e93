/- Proved: what its theorems say. -/
import Derived.Test.YtdaepfjocofkjaaGreatDoorEn11
import Derived.Test.YtdaepfjocofkjaaGreatDoorEn17
import Derived.Test.YtdaepfjocofkjaaGreatDoorEn18
import Derived.Test.YtdaepfjocofkjaaGreatDoorEn27
import Derived.Test.YtdaepfjocofkjaaGreatDoorEn35
import Derived.Test.YtdaepfjocofkjaaGreatDoorEn37
import Derived.Test.YtdaepfjocofkjaaGreatDoorLenW
set_option linter.unusedVariables false
set_option linter.unusedSimpArgs false
set_option maxHeartbeats 8000000
set_option maxRecDepth 100000
namespace Go.Proofs.YtdaepfjocofkjaaGreatDoor
open Go.ChangeShapes Go.WideShapes Go.ChangeAt Go.RowKit
abbrev rk0:Array Value:=#[.int .i64 0,.int .i64 0,.int .i64 0,.slice none 0 0,.slice none 0 0,.bool false,.slice none 0 0]
def Qgx (i:Nat):Nat:=[14,15,16,17,18,19,20].getD i 0
theorem Qtj:∀i,i<7->Qgx i<21:=by decide
theorem Qj4:∀i,i<7->∀j,j<7->Qgx i=Qgx j->i=j:=by decide
theorem Qtk:∀s,s<14->∀i,i<7->Qgx i≠s:=by decide
def qRk (N T E:Int) (v3 R:Value) (SZ:Array Value) (ds:List Int) (k base:Nat) (i:Nat) (W:World) (x:Value):Prop:=
 match i with
 | 0=>x=.agg #[.int .i64 N,.int .i64 T,.int .i64 E,v3]
 | 1=>x=R
 | 2=>x=.pointer (some ⟨k,3,none⟩)
 | 3=>x=v3
 | 4=>x=.agg SZ
 | 5=>∃a c,x=.agg #[.bool false,.slice a ds.length c]/\Own W base (.slice a ds.length c) ds
 | 6=>∃a c,x=.agg #[.int .i64 N,.int .i64 T,.int .i64 E,v3,R,.bool false,.slice a ds.length c]/\Own W base (.slice a ds.length c) ds
 | _=>True
theorem Qz8 (N T E:Int) (v3 R:Value) (SZ:Array Value) (ds:List Int) (k base:Nat) (i:Nat) (W W':World) (x:Value) (h:qRk N T E v3 R SZ ds k base i W x) (q:Old W W'):qRk N T E v3 R SZ ds k base i W' x:=by
 unfold qRk at h ⊢;split at h
 case h_6=>
  obtain ⟨a,c,e,o⟩:=h;exact ⟨a,c,e,o.old q⟩
 case h_7=>
  obtain ⟨a,c,e,o⟩:=h;exact ⟨a,c,e,o.old q⟩
 all_goals first | exact h | trivial
theorem Qz9 (w0:World) (k kr:Nat) (N T E:Int) (a3:Option Addr) (l3 c3:Nat) (ar:Option Addr) (lr cr:Nat) (SZ:Array Value) (ds:List Int) (bA:w0.heap[k]? = some (.cells #[.int .i64 N,.int .i64 T,.int .i64 E,.slice a3 l3 c3] 35 (0,0))) (bK:w0.heap[kr]? = some (.cells rk0 69 (0,0)))
 (KP:∀W,Old w0 W->Calls Tryz.prog 63 #[.slice a3 l3 c3] W fun e w'=>∃v,e=.returned v/\v=.agg SZ/\Old W w')
 (KW:∀W,Calls Tryz.prog 62 #[.bool false,.agg SZ] W fun e w'=>∃v,e=.returned v/\∃a c,v=.agg #[.bool false,.slice a ds.length c]/\Old W w'/\Own w' W.heap.size (.slice a ds.length c) ds)
 (Q:Exit->Act->World->Prop) (a0:Act) (hsz:a0.tmps.size=21)
 (ha1:a0.eval (.tmp 1)=.pointer (some ⟨k,0,none⟩)) (ha2:a0.eval (.tmp 2)=.pointer (some ⟨kr,0,none⟩)) (ha4:a0.eval (.tmp 4)=.slice ar lr cr)
 (HK:Hid (∀(us:Nat->Value) W a c,Old w0 W->Own W w0.heap.size (.slice a ds.length c) ds->Q .normal ((Qah a0 ((List.range 7).map fun i=>(Qgx i,us i))).put (some 3) (.bool true)) (W.setRow kr #[.int .i64 N,.int .i64 T,.int .i64 E,.slice a3 l3 c3,.slice ar lr cr,.bool false,.slice a ds.length c]))) :
 Code.wp Tryz.prog ((Tryz.f34.body.bind (Qa0 4)).getD .skip) Q a0 w0:=by
 conv=>arg 2;whnf
 have un:=Qtk;have pa:∀W,Old w0 W->W.heap[k]? = some (.cells #[.int .i64 N,.int .i64 T,.int .i64 E,.slice a3 l3 c3] 35 (0,0)):=fun W g=>(g.block k (lt_of_some bA)).trans bA
 have pk:∀W,Old w0 W->W.heap[kr]? = some (.cells rk0 69 (0,0)):=fun W g=>(g.block kr (lt_of_some bK)).trans bK
 have iA:(Tryz.prog.info? 35).map (·.size)=some 4:=by kernel_rfl
 refine Qi9 7 rfl rfl rfl (by kernel_rfl) (by kernel_rfl) (by kernel_rfl) (by kernel_rfl) (by kernel_rfl) Qgx (fun i hi=>by rw [hsz];exact Qtj i hi) (fun i j hi hj=>Qj4 i hi j hj) (qRk N T E (.slice a3 l3 c3) (.slice ar lr cr) SZ ds k w0.heap.size) (Qz8 N T E (.slice a3 l3 c3) (.slice ar lr cr) SZ ds k w0.heap.size) ?_ ?_
 ·refine ⟨?_,?_,?_,?_,?_,?_,?_,trivial⟩
  ·intro a W g hF hd;refine Qcr (k:=k) ((hF.same 1 (un 1 (by decide))).trans ha1) (pa W g) Tryz.underlying35 rfl iA ?_
   exact ⟨_,rfl,Old.refl _,rfl⟩
  ·intro a W g hF hd;refine Qbo ?_
   exact ⟨_,rfl,Old.refl _,(hF.same 4 (un 4 (by decide))).trans ha4⟩
  ·intro a W g hF hd;have h1:a.eval (.tmp 1)=.pointer (some ⟨k,0,none⟩):=(hF.same 1 (un 1 (by decide))).trans ha1;obtain ⟨ρ,hρ⟩:∃ρ,a.eval=ρ:=⟨_,rfl⟩
   rw [hρ] at h1;refine Qai ρ hρ (.pointer (some ⟨k,3,none⟩)) ?_ ⟨_,rfl,Old.refl _,rfl⟩
   clear g hF hd hρ ha1 ha2 ha4 HK un KP KW bA bK pa pk
   go_simp
  ·intro a W g hF hd;have h1:a.eval (.tmp 16)=.pointer (some ⟨k,3,none⟩):=hd ⟨2,.data⟩ (by simp) rfl;have hc:W.cell? ⟨k,3,none⟩=some (.slice a3 l3 c3):=by rw [cell_of_row _ _ _ _ _ _ (pa W g)];rfl
   obtain ⟨ρ,hρ⟩:∃ρ,a.eval=ρ:=⟨_,rfl⟩
   rw [hρ] at h1;refine Qai ρ hρ (.slice a3 l3 c3) ?_ ⟨_,rfl,Old.refl _,rfl⟩
   clear g hF hd hρ ha1 ha2 ha4 HK un KP KW bA bK pa pk
   go_simp
  ·intro a W g hF hd;have h1:a.eval (.tmp 17)=.slice a3 l3 c3:=hd ⟨3,.data⟩ (by simp) rfl;refine Qal Tryz.call63 (vs:=#[.slice a3 l3 c3]) (by simp [h1]) (KP W g) ?_
   rintro x w' ⟨rfl,g'⟩;exact ⟨_,rfl,g',rfl⟩
  ·intro a W g hF hd;have h1:a.eval (.tmp 18)=.agg SZ:=hd ⟨4,.data⟩ (by simp) rfl;refine Qal Tryz.call62 (vs:=#[.bool false,.agg SZ]) (by simp [h1];rfl) (KW W) ?_
   rintro x w' ⟨a6,c6,rfl,g',o'⟩;exact ⟨_,rfl,g',a6,c6,rfl,o'.low g.size⟩
  ·intro a W g hF hd;have h0:a.eval (.tmp 14)=.agg #[.int .i64 N,.int .i64 T,.int .i64 E,.slice a3 l3 c3]:=hd ⟨0,.data⟩ (by simp) rfl;have h1:a.eval (.tmp 15)=.slice ar lr cr:=hd ⟨1,.data⟩ (by simp) rfl;obtain ⟨a6,c6,h5,o6⟩:∃a6 c6,a.eval (.tmp 19)=.agg #[.bool false,.slice a6 ds.length c6]∧Own W w0.heap.size (.slice a6 ds.length c6) ds:=hd ⟨5,.data⟩ (by simp) rfl
   obtain ⟨ρ,hρ⟩:∃ρ,a.eval=ρ:=⟨_,rfl⟩
   rw [hρ] at h0 h1 h5;refine Qai ρ hρ (.agg #[.int .i64 N,.int .i64 T,.int .i64 E,.slice a3 l3 c3,.slice ar lr cr,.bool false,.slice a6 ds.length c6]) ?_ ⟨_,rfl,Old.refl _,a6,c6,rfl,o6⟩
   clear g hF hd hρ ha1 ha2 ha4 HK un KP KW bA bK pa pk o6
   go_simp
 ·intro a W g hF hq;obtain ⟨a6,c6,h6,o6⟩:∃a6 c6,a.eval (.tmp 20)=.agg #[.int .i64 N,.int .i64 T,.int .i64 E,.slice a3 l3 c3,.slice ar lr cr,.bool false,.slice a6 ds.length c6]∧Own W w0.heap.size (.slice a6 ds.length c6) ds:=hq 6 (by decide)
  have h2:a.eval (.tmp 2)=.pointer (some ⟨kr,0,none⟩):=(hF.same 2 (un 2 (by decide))).trans ha2;have hp:=Qda hF (fun i j hi hj=>Qj4 i hi j hj);have hk2:=HK.out (fun i=>a.eval (.tmp (Qgx i))) W a6 c6 g o6;rw [<- hp] at hk2;refine Qfn (k:=kr) h2 h6 (pk W g) (by kernel_rfl) rfl (by simp [Value.oneCell']) ?_
  exact Qbi hk2
end Go.Proofs.YtdaepfjocofkjaaGreatDoor
namespace Go.Proofs.YtdaepfjocofkjaaGreatDoor
open Go.ChangeShapes Go.WideShapes Go.ChangeAt Go.RowKit
open M2
theorem Qox (n:Nat) (w:World) (hn:cnt n<=80) :
 Calls Tryz.prog 62 #[.bool false,.agg (szV n)] w fun e w'=>∃v,e=.returned (.agg #[.bool false,v])/\Old w w'/\Own w' w.heap.size v (toI (dig n)):=by
 by_cases h0:n=0
 ·subst h0;refine (Qgi false w).mono ?_
  rintro e w1 ⟨rfl,g1⟩;refine ⟨_,rfl,g1,?_⟩;rw [Qa5];exact Qz3 _ _
 ·exact Qel false n w h0 hn
theorem Q0a {w:World} {k:Nat} {x0 x1 x2 x3 x4 x5 x6:Value} {t:TypeId} (h:Bk w k #[x0,x1,x2,x3,x4,x5,x6] t) (y0 y1 y2 y3 y4 y5 y6:Value):Bk (((((((w.setCell ⟨k,0,none⟩ y0).setCell ⟨k,1,none⟩ y1).setCell ⟨k,2,none⟩ y2).setCell ⟨k,3,none⟩ y3).setCell ⟨k,4,none⟩ y4).setCell ⟨k,5,none⟩ y5).setCell ⟨k,6,none⟩ y6) k #[y0,y1,y2,y3,y4,y5,y6] t:=by
 have h0:Bk (w.setCell ⟨k,0,none⟩ y0) k #[y0,x1,x2,x3,x4,x5,x6] t:=(heap_setCell_same w k 0 _ _ y0 h).trans rfl;have h1:Bk ((w.setCell ⟨k,0,none⟩ y0).setCell ⟨k,1,none⟩ y1) k #[y0,y1,x2,x3,x4,x5,x6] t:=(heap_setCell_same (w.setCell ⟨k,0,none⟩ y0) k 1 _ _ y1 h0).trans rfl;have h2:Bk (((w.setCell ⟨k,0,none⟩ y0).setCell ⟨k,1,none⟩ y1).setCell ⟨k,2,none⟩ y2) k #[y0,y1,y2,x3,x4,x5,x6] t:=(heap_setCell_same ((w.setCell ⟨k,0,none⟩ y0).setCell ⟨k,1,none⟩ y1) k 2 _ _ y2 h1).trans rfl;have h3:Bk ((((w.setCell ⟨k,0,none⟩ y0).setCell ⟨k,1,none⟩ y1).setCell ⟨k,2,none⟩ y2).setCell ⟨k,3,none⟩ y3) k #[y0,y1,y2,y3,x4,x5,x6] t:=(heap_setCell_same (((w.setCell ⟨k,0,none⟩ y0).setCell ⟨k,1,none⟩ y1).setCell ⟨k,2,none⟩ y2) k 3 _ _ y3 h2).trans rfl;have h4:Bk (((((w.setCell ⟨k,0,none⟩ y0).setCell ⟨k,1,none⟩ y1).setCell ⟨k,2,none⟩ y2).setCell ⟨k,3,none⟩ y3).setCell ⟨k,4,none⟩ y4) k #[y0,y1,y2,y3,y4,x5,x6] t:=(heap_setCell_same ((((w.setCell ⟨k,0,none⟩ y0).setCell ⟨k,1,none⟩ y1).setCell ⟨k,2,none⟩ y2).setCell ⟨k,3,none⟩ y3) k 4 _ _ y4 h3).trans rfl;have h5:Bk ((((((w.setCell ⟨k,0,none⟩ y0).setCell ⟨k,1,none⟩ y1).setCell ⟨k,2,none⟩ y2).setCell ⟨k,3,none⟩ y3).setCell ⟨k,4,none⟩ y4).setCell ⟨k,5,none⟩ y5) k #[y0,y1,y2,y3,y4,y5,x6] t:=(heap_setCell_same (((((w.setCell ⟨k,0,none⟩ y0).setCell ⟨k,1,none⟩ y1).setCell ⟨k,2,none⟩ y2).setCell ⟨k,3,none⟩ y3).setCell ⟨k,4,none⟩ y4) k 5 _ _ y5 h4).trans rfl;have h6:Bk (((((((w.setCell ⟨k,0,none⟩ y0).setCell ⟨k,1,none⟩ y1).setCell ⟨k,2,none⟩ y2).setCell ⟨k,3,none⟩ y3).setCell ⟨k,4,none⟩ y4).setCell ⟨k,5,none⟩ y5).setCell ⟨k,6,none⟩ y6) k #[y0,y1,y2,y3,y4,y5,y6] t:=(heap_setCell_same ((((((w.setCell ⟨k,0,none⟩ y0).setCell ⟨k,1,none⟩ y1).setCell ⟨k,2,none⟩ y2).setCell ⟨k,3,none⟩ y3).setCell ⟨k,4,none⟩ y4).setCell ⟨k,5,none⟩ y5) k 6 _ _ y6 h5).trans rfl;exact h6
def RkA (N T E:Int) (xs:List Int) (Rf:Nat->Int) (v:Value) (w:World) (e:Ending) (w':World):Prop:=
 Old w w'/\((prB N T E xs=false/\e=.returned (.tuple #[.agg rk0,.bool false]))∨(prB N T E xs=true/\∃g a l c,w.heap.size<=g/\e=.returned (.tuple #[.agg #[.int .i64 N,.int .i64 T,.int .i64 E,v,.slice (some ⟨g,0,none⟩) xs.length xs.length,.bool false,.slice a l c],.bool true])/\Rgs w' g N xs Rf xs.length/\∃ps,xs=toZ ps/\Bas ps/\l=(dig (Qap ps)).length/\Own w' w.heap.size (.slice a l c) (toI (dig (Qap ps)))))
theorem Qif (N T E:Int) (xs:List Int) (Rf:Nat->Int) (v:Value) (w:World) (hP:Qer w) (hT:Qbh w) (hv:Row w v xs) (hf:Fit v) (hl:xs.length<=9223372036854775807)
 (hRf:∀k,RingOk (xs.getD k 0) N->(0<=Rf k/\Rf k<xs.getD k 0)/\(∀W,Qer W->Qbh W->Calls Tryz.prog 122 #[.int .i64 (xs.getD k 0),.int .i64 N] W fun e w'=>e=.returned (.tuple #[.agg #[.int .i64 (xs.getD k 0),.int .i64 N,.int .i64 (Rf k)],.bool true])/\Old W w')) :
 Calls Tryz.prog 34 #[.agg #[.int .i64 N,.int .i64 T,.int .i64 E,v]] w (RkA N T E xs Rf v w):=by
 obtain ⟨a0,c0,rfl⟩:=hv.slice;have K1:=fun W (g:Old w W)=>Qfs N T E xs Rf _ W (hP.old g) (hT.old g) (hv.old g) hf hl hRf
 have HA:Hid (Old w ((w.alloc (.cells #[.int .i64 N,.int .i64 T,.int .i64 E,.slice a0 xs.length c0] 35)).alloc (.cells rk0 69))):=((Old.refl w).alloc _).alloc _;have BA:Hid (Bk ((w.alloc (.cells #[.int .i64 N,.int .i64 T,.int .i64 E,.slice a0 xs.length c0] 35)).alloc (.cells rk0 69)) w.heap.size #[.int .i64 N,.int .i64 T,.int .i64 E,.slice a0 xs.length c0] 35):=(Bk.new' w _ _ rfl).alloc _;have BB:Hid (Bk ((w.alloc (.cells #[.int .i64 N,.int .i64 T,.int .i64 E,.slice a0 xs.length c0] 35)).alloc (.cells rk0 69)) (w.heap.size+1) rk0 69):=Bk.new' _ _ _ (by simp);have HV:=Qaa hv;clear hP hT hv hf hRf;go_enter Tryz.func34,Tryz.ntmps34;go_wp2_with fail;refine (K1 _ HA.out).mono ?_
 rintro e w1 ⟨g1,h⟩;have HG1:=Qaa (Old.trans HA.out g1);have B1:=Qaa (BA.out.old g1);have B2:=Qaa (BB.out.old g1);have hs1:w.heap.size+2<=w1.heap.size:=by have:=g1.size;simp at this;omega
 clear g1 K1 BA BB;rcases h with ⟨hB,rfl⟩ | ⟨hB,g,hg,rfl,hrg⟩
 ·have HB:=Qaa hB;have y0:=B2.out.c (i:=0) rfl;have y1:=B2.out.c (i:=1) rfl;have y2:=B2.out.c (i:=2) rfl;have y3:=B2.out.c (i:=3) rfl;have y4:=B2.out.c (i:=4) rfl;have y5:=B2.out.c (i:=5) rfl;have y6:=B2.out.c (i:=6) rfl;have f0:w1.frozen? ⟨w.heap.size+1,0,none⟩=false:=frozen_of_row _ _ _ _ _ B2.out
  have f1:w1.frozen? ⟨w.heap.size+1,1,none⟩=false:=frozen_of_row _ _ _ _ _ B2.out
  have f2:w1.frozen? ⟨w.heap.size+1,2,none⟩=false:=frozen_of_row _ _ _ _ _ B2.out
  have f3:w1.frozen? ⟨w.heap.size+1,3,none⟩=false:=frozen_of_row _ _ _ _ _ B2.out
  have f4:w1.frozen? ⟨w.heap.size+1,4,none⟩=false:=frozen_of_row _ _ _ _ _ B2.out
  have f5:w1.frozen? ⟨w.heap.size+1,5,none⟩=false:=frozen_of_row _ _ _ _ _ B2.out
  have f6:w1.frozen? ⟨w.heap.size+1,6,none⟩=false:=frozen_of_row _ _ _ _ _ B2.out
  clear hB;go_wp2_with fail;have HF:=Q0a B2.out (.int .i64 0) (.int .i64 0) (.int .i64 0) (.slice none 0 0) (.slice none 0 0) (.bool false) (.slice none 0 0);have q0:=HF.c (i:=0) rfl;have q1:=HF.c (i:=1) rfl;have q2:=HF.c (i:=2) rfl;have q3:=HF.c (i:=3) rfl;have q4:=HF.c (i:=4) rfl;have q5:=HF.c (i:=5) rfl;have q6:=HF.c (i:=6) rfl;refine bodyPost_ret (v:=.tuple #[.agg rk0,.bool false]) (by simp [results,Tryz.results34,go_sem,q0,q1,q2,q3,q4,q5,q6]) rfl ⟨?_,.inl ⟨HB.out,rfl⟩⟩;exact ((((((HG1.out.own (p:=⟨w.heap.size+1,0,none⟩) (by simp) _).own (p:=⟨w.heap.size+1,1,none⟩) (by simp) _).own (p:=⟨w.heap.size+1,2,none⟩) (by simp) _).own (p:=⟨w.heap.size+1,3,none⟩) (by simp) _).own (p:=⟨w.heap.size+1,4,none⟩) (by simp) _).own (p:=⟨w.heap.size+1,5,none⟩) (by simp) _).own (p:=⟨w.heap.size+1,6,none⟩) (by simp) _
 ·have hsp:spB N xs=true:=by
   unfold prB at hB;rw [Bool.and_eq_true] at hB;exact hB.1
  obtain ⟨ps,exs,hbas⟩:=Qqa (Qc3 hsp).2.1;have c2:∀W,Row W (.slice a0 xs.length c0) xs->Calls Tryz.prog 63 #[.slice a0 xs.length c0] W fun e w'=>e=.returned (.agg (szV (Qap ps)))/\Old W w':=fun W h=>Qjl ps _ W (by rw [<- exs];exact h) hbas.len6 hbas.hi
  have c3:=fun W=>Qox (Qap ps) W (Nat.le_trans hbas.cnt (by omega))
  have HPS:Hid (xs=toZ ps/\Bas ps):=⟨exs,hbas⟩;have HB:=Qaa hB;have HRG:=Qaa hrg;have hg2:w.heap.size+2<=g:=by simp at hg;omega
  have hgn:g≠w.heap.size+1:=by omega
  have HLN:Hid ((toI (dig (Qap ps))).length=(dig (Qap ps)).length):=Qav _;obtain ⟨ds,hds⟩:∃ds,toI (dig (Qap ps))=ds:=⟨_,rfl⟩
  have HDS:=Qaa hds;rw [hds] at c3 HLN;clear hds;clear hB exs hbas hrg hg hsp;generalize szV (Qap ps)=SZ at *;go_wp2_with fail
  refine Qz9 w1 w.heap.size (w.heap.size+1) N T E a0 xs.length c0 (some ⟨g,0,none⟩) xs.length xs.length SZ ds B1.out B2.out (fun W q=>(c2 W (HV.out.old (Old.trans HG1.out q))).mono fun e w' h=>⟨_,h.1,rfl,h.2⟩) (fun W=>(c3 W).mono fun e w' h=>by
   obtain ⟨v,rfl,q,o⟩:=h;obtain ⟨a,c,rfl⟩:=(Own.row o).slice;exact ⟨_,rfl,a,c,rfl,q,o⟩) _ _ ?_ ?_ ?_ ?_ ?_
  iterate 4 (·exact rfl)
  intro us W a6 c6 q6 o6;simp only [Qah,Act.put,Qgx,List.range,List.range.loop,List.map_cons,List.map_nil,List.getD_cons_zero,List.getD_cons_succ,List.setIfInBounds_toArray,List.set_cons_succ,List.set_cons_zero];have hz:W.heap[w.heap.size+1]? = some (.cells rk0 69 (0,0)):=B2.out.old q6
  have HF:Bk (W.setRow (w.heap.size+1) #[.int .i64 N,.int .i64 T,.int .i64 E,.slice a0 xs.length c0,.slice (some ⟨g,0,none⟩) xs.length xs.length,.bool false,.slice a6 ds.length c6]) (w.heap.size+1) #[.int .i64 N,.int .i64 T,.int .i64 E,.slice a0 xs.length c0,.slice (some ⟨g,0,none⟩) xs.length xs.length,.bool false,.slice a6 ds.length c6] 69:=Qa8 hz;have HO:Hid (Own (W.setRow (w.heap.size+1) #[.int .i64 N,.int .i64 T,.int .i64 E,.slice a0 xs.length c0,.slice (some ⟨g,0,none⟩) xs.length xs.length,.bool false,.slice a6 ds.length c6]) w.heap.size (.slice a6 ds.length c6) ds):=Qpq (Own.low o6 (by omega)) (fun b hb=>Qax _ _ _ _ (by have:=(o6.lt b hb).1;omega));have HRG6:Hid (Rgs (W.setRow (w.heap.size+1) #[.int .i64 N,.int .i64 T,.int .i64 E,.slice a0 xs.length c0,.slice (some ⟨g,0,none⟩) xs.length xs.length,.bool false,.slice a6 ds.length c6]) g N xs Rf xs.length):=(HRG.out.old q6).same (Qax _ _ _ _ (by omega));have HOL:Hid (Old w (W.setRow (w.heap.size+1) #[.int .i64 N,.int .i64 T,.int .i64 E,.slice a0 xs.length c0,.slice (some ⟨g,0,none⟩) xs.length xs.length,.bool false,.slice a6 ds.length c6])):=Qdm (Old.trans HG1.out q6) (by omega) _;have q0:=HF.c (i:=0) rfl;have q1:=HF.c (i:=1) rfl;have q2:=HF.c (i:=2) rfl;have q3:=HF.c (i:=3) rfl;have q4:=HF.c (i:=4) rfl;have q5:=HF.c (i:=5) rfl;have q7:=HF.c (i:=6) rfl;clear HF hz o6 q6 c2 c3;generalize (W.setRow (w.heap.size+1) #[.int .i64 N,.int .i64 T,.int .i64 E,.slice a0 xs.length c0,.slice (some ⟨g,0,none⟩) xs.length xs.length,.bool false,.slice a6 ds.length c6])=WF at *;go_wp2_with fail;refine bodyPost_ret (v:=.tuple #[.agg #[.int .i64 N,.int .i64 T,.int .i64 E,.slice a0 xs.length c0,.slice (some ⟨g,0,none⟩) xs.length xs.length,.bool false,.slice a6 ds.length c6],.bool true]) (by simp [results,Tryz.results34,go_sem,q0,q1,q2,q3,q4,q5,q7]) rfl ⟨HOL.out,.inr ⟨HB.out,g,a6,ds.length,c6,by omega,rfl,HRG6.out,ps,HPS.out.1,HPS.out.2,HLN.out,?_⟩⟩;rw [HDS.out];exact HO.out
end Go.Proofs.YtdaepfjocofkjaaGreatDoor
namespace Go.Proofs.YtdaepfjocofkjaaGreatDoor
open Go.ChangeShapes Go.WideShapes Go.ChangeAt Go.RowKit
def smR (p:Int) (ss:List Int):List Int:=ss.map (fun x=>x%p)
theorem Qfa (p:Int) (ss:List Int):(smR p ss).length=ss.length:=by simp [smR]
theorem Qig (p:Int) (ss:List Int) (k:Nat) (h:k<ss.length):(smR p ss).getD k 0=ss.getD k 0%p:=by simp [smR,List.getD,h]
def smS (ps ss:List Int):List (List Int):=ps.map (fun p=>smR p ss)
theorem Qfb (ps ss:List Int):(smS ps ss).length=ps.length:=by simp [smS]
theorem Qfc (ps ss:List Int) (k:Nat) (h:k<ps.length):(smS ps ss).getD k []=smR (ps.getD k 0) ss:=by simp [smS,List.getD,h]
theorem Qtl (p:Int) (ss:List Int) (kb:Nat) (sa:Option Addr) (sc:Nat) (w:World) (bK:Bk w kb #[.slice sa ss.length sc] 22) (hv:Row w (.slice sa ss.length sc) ss) (hl:1<=ss.length/\ss.length<=1000) (hs:∀i,i<ss.length->-9223372036854775808<=ss.getD i 0/\ss.getD i 0<=9223372036854775807) (hp:1<=p/\p<=4294967296) :
 Calls Tryz.prog 69 #[.int .i64 p,.pointer (some ⟨kb,0,none⟩)] w fun e w'=>∃v',e=.returned v'/\Old w w'/\Own w' w.heap.size v' (smR p ss):=by
 obtain ⟨i0,hi,hz0,hz1,hz2⟩:=info_parts Tryz.infoInt;rcases hv with ⟨_,_,e,e'⟩ | ⟨b1,o1,cap1,e,hb1,h01,hc1⟩
 ·subst e';simp at hl
 simp only [Value.slice.injEq,true_and] at e;obtain ⟨rfl,e8⟩:=e;have HC1:=Qaa hc1;have HE:=Qaa (Qig p ss);have HLZ:=Qaa (Qfa p ss);have HS:=Qaa hs;have HB:=Qaa bK;have z0:=bK.c (i:=0) rfl;generalize smR p ss=zs at *;clear hc1 hs bK e8 h01;go_enter Tryz.func69,Tryz.ntmps69;go_wp2_with (at_make;refine wpList_make_full _ rfl _ _ 22 rfl w.heap.size 3 i0 (.int .i64 0) 1 Tryz.underlying22 hi hz0 hz1 .i64 .i64 _ _ ss.length rfl rfl rfl rfl (by rw [hz2];omega) (by unfold maxLen;omega) (Nat.le_refl _) ?_;intro w1 hown hgrow;have z1:=(HB.out.old (Old.by_ (Old.refl _) hgrow (fun b hb=>by cases hb))).c (i:=0) rfl)
 have HO:Hid (Qbn w1 w.heap.size w.heap.size ss.length (List.replicate ss.length 0)):=by
  rw [Qbk] at hown;exact hown
 have HG:=Qaa (Old.by_ (Old.refl _) hgrow (fun b hb=>by cases hb));clear hown hgrow z1 z0
 go_loopw [12,5,6] (fun i _ _ W=>∃k:Nat,k<=ss.length/\i=.int .i64 k/\Hid (Qbn W w.heap.size w.heap.size ss.length (Qb9 zs k))/\Hid (Old w W)) (fun i _ _ _=>ss.length - (intOf i).toNat)
 case atStart=>exact ⟨0,by omega,rfl,(by show Qbn _ _ _ _ _;rw [Qdi,HLZ.out];exact HO.out),HG⟩
 case round=>
  obtain ⟨k,hk,rfl,HO1,HG1⟩:=hrel;clear HO HG
  by_cases hlt:k<ss.length
  ·have i1:(k:Int)<(ss.length:Int):=by omega
   have c1:=(HG1.out.cell (p:=⟨b1,o1+k,none⟩) hb1).trans (HC1.out k hlt);have c3:=HO1.out.get (Qca zs k (by have:=HLZ.out;omega) |>.trans HLZ.out) k hlt;have c4:=HO1.out.free k;have hx:=HS.out k hlt;have HX:=Qaa (HE.out k hlt);generalize ss.getD k 0=x at *;generalize (Qb9 zs k).getD k 0=oldv at *;have cr:=fun W=>Qcn x p W hx hp
   have HP:Hid (Qbn (wr.setCell ⟨w.heap.size,k,none⟩ (.int .i64 (x%p))) w.heap.size w.heap.size ss.length (Qb9 zs (k+1))):=by
    have:=HO1.out.put k (x%p);rw [<- HX.out,Qec zs k (by have:=HLZ.out;omega)] at this;rw [<- HX.out];exact this
   have HN2:Hid (Old w (wr.setCell ⟨w.heap.size,k,none⟩ (.int .i64 (x%p)))):=HG1.out.own (p:=⟨w.heap.size,k,none⟩) (Nat.le_refl _) _;obtain ⟨q,hq⟩:∃q,x%p=q:=⟨_,rfl⟩
   rw [hq] at cr HP HN2;clear hq HX HO1 HG1;go_wp2_with fail;refine (cr _).mono ?_
   rintro e w2 ⟨rfl,hw⟩;obtain rfl:=hw.symm;clear hw;go_wp2_with fail;exact ⟨⟨k+1,by omega,by go_num,HP,HN2⟩,by simp [intOf];omega⟩
  ·have d1:decide ((k:Int)<(ss.length:Int))=false:=by simp;omega
   obtain rfl:k=ss.length:=by omega
   have HF:Hid (Own wr w.heap.size (.slice (some ⟨w.heap.size,0,none⟩) ss.length ss.length) zs):=by
    have:=HO1.out.own ((Qca zs ss.length (by have:=HLZ.out;omega)).trans HLZ.out);rw [show Qb9 zs ss.length=zs by rw [<- HLZ.out];exact Qeb zs] at this;exact this
   go_wp2_with fail;go_ret;exact ⟨_,rfl,HG1.out,HF.out⟩
theorem Qm1 (N:Int) (ps:List Int) (Rf:Nat->Int) (gr kb:Nat) (w:World) (hr:Rgs w gr N ps Rf ps.length) (hm:1<=ps.length/\ps.length<=1000) (zss:List (List Int))
 (cj:∀k,k<ps.length->∀W,Old w W->Calls Tryz.prog 69 #[.int .i64 (ps.getD k 0),.pointer (some ⟨kb,0,none⟩)] W fun e w'=>∃v',e=.returned v'/\Old W w'/\Own w' W.heap.size v' (zss.getD k [])) :
 Calls Tryz.prog 68 #[.slice (some ⟨gr,0,none⟩) ps.length ps.length,.func (.func 69) #[] #[.pointer (some ⟨kb,0,none⟩)]] w fun e w'=>e=.returned (.slice (some ⟨w.heap.size,0,none⟩) ps.length ps.length)/\Old w w'/\Ows (TS 91 5 ps.length (elR N false ps Rf zss)) w' w.heap.size w'.heap.size [.slice (some ⟨w.heap.size,0,none⟩) ps.length ps.length]:=by
 obtain ⟨i0,hi,hz0,hz1,hz2⟩:=info_parts Tryz.infoRingRow;have HC:=Qaa (fun k hk=>hr.at k hk hk);have hb:=hr.lt;have HCJ:=Qaa cj;have HEL:Hid (∀k,elR N false ps Rf zss k=TR (ps.getD k 0) N (Rf k) false (TI (zss.getD k []))):=fun k=>rfl
 have HGD:=Qaa (Qcv N false ps Rf zss);generalize elR N false ps Rf zss=Es at *;clear hr cj;go_enter Tryz.func68,Tryz.ntmps68;go_wp2_with (at_make;refine wpList_make_full _ rfl _ _ 72 rfl 0 91 i0 (.agg #[.int .i64 0,.int .i64 0,.int .i64 0,.bool false,.slice none 0 0]) 5 Tryz.underlying72 hi hz0 hz1 .i64 .i64 _ _ ps.length rfl rfl rfl rfl (by rw [hz2];omega) (by unfold maxLen;omega) (Nat.zero_le _) ?_;intro w1 hown hgrow);have HO:Hid (TSc 91 5 ps.length 0 Es w1 w.heap.size ps.length _ (fun _ _=>False)):=TSc.start hown;have HG:Hid (Old w w1):=Below.grown (Below.refl _ _) hgrow (Nat.le_refl _) (fun _ h=>by cases h);clear hown hgrow
 go_loopw [13,6,7] (fun i _ _ W=>∃(k:Nat) (vs:List Value) (Bs:Nat->Nat->Prop),k<=ps.length/\i=.int .i64 k/\Hid (TSc 91 5 ps.length k Es W w.heap.size ps.length vs Bs)/\Hid (∀j b,j<k->Bs j b->w.heap.size<b)/\Hid (Old w W)) (fun i _ _ _=>ps.length - (intOf i).toNat)
 case atStart=>exact ⟨0,_,_,by omega,rfl,HO,(fun j b hj=>by omega),HG⟩
 case round=>
  obtain ⟨k,vs,Bs,hk,rfl,H1,HB,HG1⟩:=hrel;clear HO HG
  by_cases hlt:k<ps.length
  ·have ilt:(k:Int)<(ps.length:Int):=by omega
   obtain ⟨c0,c1,c2⟩:=HC.out k hlt;have cj:=HCJ.out k hlt;have q0:=(HG1.out.cell (p:=⟨gr,k*3,none⟩) hb).trans c0;have q1:=(HG1.out.cell (p:=⟨gr,k*3+1,none⟩) hb).trans c1;have q2:=(HG1.out.cell (p:=⟨gr,k*3+2,none⟩) hb).trans c2;have hsr:=Qa1 H1.out.row;have HEK:=Qaa (HEL.out k);clear c0 c1 c2;generalize ps.getD k 0=P at *;generalize Rf k=R at *;generalize zss.getD k []=zs at *
   have HAS5:Hid (∀W',Old (wr.alloc (.cells #[.int .i64 P,.int .i64 N,.int .i64 R] 89)) W'->(W'.cell? ⟨wr.heap.size,0,none⟩=some (.int .i64 P)/\W'.cell? ⟨wr.heap.size,1,none⟩=some (.int .i64 N)/\W'.cell? ⟨wr.heap.size,2,none⟩=some (.int .i64 R))):=fun W' q=>
    ⟨(q.cell (p:=⟨wr.heap.size,0,none⟩) (by simp)).trans (Qae _ _ _ _ _ rfl),(q.cell (p:=⟨wr.heap.size,1,none⟩) (by simp)).trans (Qae _ _ _ _ _ rfl),(q.cell (p:=⟨wr.heap.size,2,none⟩) (by simp)).trans (Qae _ _ _ _ _ rfl)⟩
   have HAS6:Hid (∀W' y0 y1 y2 y3 y4,Old (wr.alloc (.cells #[.int .i64 P,.int .i64 N,.int .i64 R] 89)) W'->((fun W'=>W'.cell? ⟨wr.heap.size,0,none⟩=some (.int .i64 P)/\W'.cell? ⟨wr.heap.size,1,none⟩=some (.int .i64 N)/\W'.cell? ⟨wr.heap.size,2,none⟩=some (.int .i64 R)) (((((W'.setCell ⟨w.heap.size,k*5,none⟩ y0).setCell ⟨w.heap.size,k*5+1,none⟩ y1).setCell ⟨w.heap.size,k*5+2,none⟩ y2).setCell ⟨w.heap.size,k*5+3,none⟩ y3).setCell ⟨w.heap.size,k*5+4,none⟩ y4))):=fun W' y0 y1 y2 y3 y4 q=>by
    obtain ⟨s0,s1,s2⟩:=HAS5.out W' q
    have key:∀(bb j:Nat) (z:Value),bb≠w.heap.size->W'.cell? ⟨bb,j,none⟩=some z->(((((W'.setCell ⟨w.heap.size,k*5,none⟩ y0).setCell ⟨w.heap.size,k*5+1,none⟩ y1).setCell ⟨w.heap.size,k*5+2,none⟩ y2).setCell ⟨w.heap.size,k*5+3,none⟩ y3).setCell ⟨w.heap.size,k*5+4,none⟩ y4).cell? ⟨bb,j,none⟩=some z:=fun bb j z hb hz=>by
     rw [Qbr _ _ _ _ hb,Qbr _ _ _ _ hb,Qbr _ _ _ _ hb,Qbr _ _ _ _ hb,Qbr _ _ _ _ hb];exact hz
    exact ⟨key _ _ _ (by omega) s0,key _ _ _ (by omega) s1,key _ _ _ (by omega) s2⟩
   have HGA:Hid (Old w (wr.alloc (.cells #[.int .i64 P,.int .i64 N,.int .i64 R] 89))):=HG1.out.alloc _
   have HX:Hid (∀w6 y n c Bz,Old (wr.alloc (.cells #[.int .i64 P,.int .i64 N,.int .i64 R] 89)) w6->TI zs w6 Bz [.slice y n c]->(∀b,Bz b->wr.heap.size+1<=b)->(∃vs',TSc 91 5 ps.length (k+1) Es (((((w6.setCell ⟨w.heap.size,k*5,none⟩ (.int .i64 P)).setCell ⟨w.heap.size,k*5+1,none⟩ (.int .i64 N)).setCell ⟨w.heap.size,k*5+2,none⟩ (.int .i64 R)).setCell ⟨w.heap.size,k*5+3,none⟩ (.bool false)).setCell ⟨w.heap.size,k*5+4,none⟩ (.slice y n c)) w.heap.size ps.length vs' (fun q=>if q=k then Bz else Bs q))/\(∀j b,j<k+1->(fun q=>if q=k then Bz else Bs q) j b->w.heap.size<b)/\Old w (((((w6.setCell ⟨w.heap.size,k*5,none⟩ (.int .i64 P)).setCell ⟨w.heap.size,k*5+1,none⟩ (.int .i64 N)).setCell ⟨w.heap.size,k*5+2,none⟩ (.int .i64 R)).setCell ⟨w.heap.size,k*5+3,none⟩ (.bool false)).setCell ⟨w.heap.size,k*5+4,none⟩ (.slice y n c))):=fun w6 y n c Bz g6 hTI hlo=>by
    have g7:=Old.trans ((Old.refl wr).alloc _) g6;refine ⟨(H1.out.old HGD.out g7).store5 HGD.out hlt _ _ _ _ _ (B:=Bz) (fun W' hW'=>?_) (fun hb=>by have:=hlo _ hb;omega) (fun j hj b h1 h2=>?_),fun j b hj hb=>?_,?_⟩
    ·rw [HEK.out];exact ⟨_,rfl,(Qcg zs).far hTI (fun b hb=>hW' b (by have:=hlo b hb;omega))⟩
    ·have h4:=H1.out.lt HGD.out j b hj h1;have:=hlo b h2;omega
    ·by_cases e:j=k
     ·simp only [e,if_true] at hb;have:=hlo b hb;omega
     ·simp only [e,if_false] at hb;exact HB.out j b (by omega) hb
    ·exact (((((Old.trans HG1.out g7).own (p:=⟨w.heap.size,k*5,none⟩) (Nat.le_refl _) _).own (p:=⟨w.heap.size,k*5+1,none⟩) (Nat.le_refl _) _).own (p:=⟨w.heap.size,k*5+2,none⟩) (Nat.le_refl _) _).own (p:=⟨w.heap.size,k*5+3,none⟩) (Nat.le_refl _) _).own (p:=⟨w.heap.size,k*5+4,none⟩) (Nat.le_refl _) _
   have HCE:Hid (∀w6,Old (wr.alloc (.cells #[.int .i64 P,.int .i64 N,.int .i64 R] 89)) w6->∀i,i<5->(∃z,w6.cell? ⟨w.heap.size,k*5+i,none⟩=some z)/\w6.frozen? ⟨w.heap.size,k*5+i,none⟩=false):=fun w6 g6 i hi5=>by
    have H2:=H1.out.old HGD.out (Old.trans ((Old.refl wr).alloc _) g6);have h5:=H2.cell k i hlt hi5;have h6:=Qbm H2.row.1 k hlt;exact ⟨⟨_,h5.trans (List.getElem?_eq_getElem (by omega))⟩,H2.frozen _⟩
   clear H1 HB HEK;go_wp2_with fail
   go_region_held3 (fun W'=>W'.cell? ⟨wr.heap.size,0,none⟩=some (.int .i64 P)/\W'.cell? ⟨wr.heap.size,1,none⟩=some (.int .i64 N)/\W'.cell? ⟨wr.heap.size,2,none⟩=some (.int .i64 R)) (first | with_reducible exact HAS5.out _ Q5.out | with_reducible exact HAS5.out _ (Below.drew (Old.refl _)) | with_reducible exact HAS6.out _ _ _ _ _ _ Q5.out | with_reducible exact HAS5.out _ (Old.refl _)) (first
    | (go_at_call 69;refine (cj _ (Below.drew HGA.out)).mono ?_;rintro e w5 ⟨v5,rfl,q5,o5⟩;obtain ⟨x5,c5,rfl⟩:=(Own.row o5).slice;have Q5:=Qaa (Old.trans (Below.drew (Old.refl _)) q5);have O5:=Qaa (by simp at o5;exact o5);clear q5 o5;obtain ⟨⟨z0,hz0⟩,hf0⟩:=HCE.out w5 Q5.out 0 (by omega);obtain ⟨⟨z1,hz1⟩,hf1⟩:=HCE.out w5 Q5.out 1 (by omega);obtain ⟨⟨z2,hz2⟩,hf2⟩:=HCE.out w5 Q5.out 2 (by omega);obtain ⟨⟨z3,hz3⟩,hf3⟩:=HCE.out w5 Q5.out 3 (by omega);obtain ⟨⟨z4,hz4⟩,hf4⟩:=HCE.out w5 Q5.out 4 (by omega);rw [Nat.add_zero] at hz0 hf0)
    | fail)
   all_goals
    obtain ⟨Bz,hTI,hlo⟩:=TI.of O5.out;obtain ⟨⟨vs',n1⟩,n2,n3⟩:=HX.out w5 x5 zs.length c5 Bz Q5.out hTI hlo;have N1:=Qaa n1;have N2:Hid (∀j b,j<k+1->(fun q=>if q=k then Bz else Bs q) j b->w.heap.size<b):=n2;have N3:=Qaa n3;clear n1 n2 n3 hTI hlo HX;go_wp2_with fail;exact ⟨⟨k+1,vs',_,by omega,by go_num,N1,N2,N3⟩,by simp [intOf];omega⟩
  ·have d1:decide ((k:Int)<(ps.length:Int))=false:=by simp;omega
   obtain rfl:k=ps.length:=by omega
   have HE:=Qaa (H1.out.done HGD.out (Nat.le_refl _) (fun j b hj hb=>Nat.le_of_lt (HB.out j b hj hb)));go_wp2_with fail;go_ret;exact ⟨rfl,HG1.out,HE.out⟩
def SmA (N:Int) (ps ss:List Int) (Rf:Nat->Int) (w:World) (e:Ending) (w':World):Prop:=
 ∃g,w.heap.size<=g/\e=.returned (.slice (some ⟨g,0,none⟩) ps.length ps.length)/\Old w w'/\Ows (TS 91 5 ps.length (elR N false ps Rf (smS ps ss))) w' w.heap.size w'.heap.size [.slice (some ⟨g,0,none⟩) ps.length ps.length]
theorem Qev (N:Int) (ps ss:List Int) (Rf:Nat->Int) (gr:Nat) (v:Value) (w:World) (hr:Rgs w gr N ps Rf ps.length) (hm:1<=ps.length/\ps.length<=1000) (hv:Row w v ss) (hl:1<=ss.length/\ss.length<=1000) (hs:∀i,i<ss.length->-9223372036854775808<=ss.getD i 0/\ss.getD i 0<=9223372036854775807) (hp:∀k,k<ps.length->1<=ps.getD k 0/\ps.getD k 0<=4294967296) :
 Calls Tryz.prog 38 #[.slice (some ⟨gr,0,none⟩) ps.length ps.length,v] w (SmA N ps ss Rf w):=by
 obtain ⟨sa,sc,ev⟩:=hv.slice;subst ev;have BB:Bk (w.alloc (.cells #[.slice sa ss.length sc] 22)) w.heap.size #[.slice sa ss.length sc] 22:=Bk.new' w _ _ rfl
 have K:=Qm1 N ps Rf gr w.heap.size (w.alloc (.cells #[.slice sa ss.length sc] 22)) (hr.old ((Old.refl w).alloc _)) hm (smS ps ss) (fun k hk W g=>by
  rw [Qfc ps ss k hk];exact Qtl (ps.getD k 0) ss w.heap.size sa sc W (BB.old g) (hv.old (Old.trans ((Old.refl w).alloc _) g)) hl hs (hp k hk))
 have HK:Hid (Calls Tryz.prog 68 #[.slice (some ⟨gr,0,none⟩) ps.length ps.length,.func (.func 69) #[] #[.pointer (some ⟨w.heap.size,0,none⟩)]] (w.alloc (.cells #[.slice sa ss.length sc] 22)) fun e w'=>e=.returned (.slice (some ⟨w.heap.size+1,0,none⟩) ps.length ps.length)/\Old (w.alloc (.cells #[.slice sa ss.length sc] 22)) w'/\Ows (TS 91 5 ps.length (elR N false ps Rf (smS ps ss))) w' (w.heap.size+1) w'.heap.size [.slice (some ⟨w.heap.size+1,0,none⟩) ps.length ps.length]):=by
  have h1:(w.alloc (.cells #[.slice sa ss.length sc] 22)).heap.size=w.heap.size+1:=by simp
  rw [h1] at K;exact K
 clear K hr hv hs hp BB;go_enter Tryz.func38,Tryz.ntmps38;go_wp2_with fail;refine HK.out.mono ?_
 rintro e w1 ⟨rfl,g1,o1⟩;have HG1:=Qaa (Old.trans ((Old.refl w).alloc _) g1);have HO:Hid (Ows (TS 91 5 ps.length (elR N false ps Rf (smS ps ss))) w1 w.heap.size w1.heap.size [.slice (some ⟨w.heap.size+1,0,none⟩) ps.length ps.length]):=o1.low (by omega) (Nat.le_refl _) (Nat.le_refl _);clear g1 o1 HK;go_wp2_with fail;go_ret;exact ⟨w.heap.size+1,by omega,rfl,HG1.out,HO.out⟩
theorem RRs.same {W W':World} {g:Nat} {N:Int} {n:Bool} {ps:List Int} {Rf:Nat->Int} {us:Nat->Option Addr} {k:Nat} (h:RRs W g N n ps Rf us k) (e:W'.heap[g]? = W.heap[g]?):RRs W' g N n ps Rf us k:=by
 obtain ⟨ys,hl,ho,hy⟩:=h;refine ⟨ys,hl,⟨ho.1,?_⟩,hy⟩;rcases ho.2 with hn | ⟨p,cap,cur,e',hb,hgg,rest⟩
 ·exact .inl hn
 ·refine .inr ⟨p,cap,cur,e',hb,?_,rest⟩
  have:p=g:=by
   simp only [Value.slice.injEq,Option.some.injEq,Addr.mk.injEq] at e';exact e'.1.1.symm
  subst this;rw [e];exact hgg
def PhG (base:Nat) (N:Int) (ps:List Int) (Rf:Nat->Int) (uf:Nat->Nat->Option Addr) (j:Nat) (W:World) (g:Option Addr):Prop:=
 ∃gn,g=some ⟨gn,0,none⟩/\base+2<gn/\RRs W gn N false ps Rf (uf j) ps.length
end Go.Proofs.YtdaepfjocofkjaaGreatDoor
namespace Go.Proofs.YtdaepfjocofkjaaGreatDoor
open Go.ChangeShapes Go.WideShapes Go.ChangeAt Go.RowKit
open M2
theorem Q0b {N T E:Int} {xs:List Int} (h:prB N T E xs=true):2<=T/\T<=65536:=by
 unfold prB inQ at h;simp only [Bool.and_eq_true,decide_eq_true_eq] at h;omega
theorem Qtm {N T E:Int} {xs:List Int} (h:prB N T E xs=true):spB N xs=true:=by
 unfold prB at h;rw [Bool.and_eq_true] at h;exact h.1
theorem Qoy (N T E:Int) (a0:Option Addr) (l0 c0:Nat) (ss:List Int) (u:Value) (w:World) (hu:Row w u ss) (hs:ss.length<=9223372036854775807) (hT:2<=T/\T<=65536) :
 Calls Tryz.prog 50 #[.agg #[.int .i64 N,.int .i64 T,.int .i64 E,.slice a0 l0 c0],u] w fun e w'=>e=.returned (.bool (Qbe T N ss))/\Old w w':=by
 have K:=fun W (h:Row W u ss)=>Qme T N 0 ss u W h hs (by omega)
 have HU:=Qaa hu;obtain ⟨a1,c1,eu⟩:=hu.slice;subst eu;have HA:Hid (Old w (w.alloc (.cells #[.int .i64 N,.int .i64 T,.int .i64 E,.slice a0 l0 c0] 35))):=(Old.refl w).alloc _;clear hu;generalize Qbe T N ss=r at *;go_enter Tryz.func50,Tryz.ntmps50;go_wp2_with fail;refine (K _ (HU.out.old HA.out)).mono ?_
 rintro e w1 ⟨rfl,g1⟩;have HG1:=Qaa (Old.trans HA.out g1);clear g1;go_wp2_with fail;go_ret;exact ⟨rfl,HG1.out⟩
theorem Qjm (N T E:Int) (xs ss:List Int) (v u:Value) (w:World) (hv:Row w v xs) (hf:Fit v) (hu:Row w u ss) (hl:xs.length<=9223372036854775807) (hs:ss.length<=9223372036854775807) (hx:∀x∈xs,-9223372036854775808<=x/\x<=9223372036854775807) :
 Calls Tryz.prog 22 #[.agg #[.int .i64 N,.int .i64 T,.int .i64 E,v],u] w fun e w'=>e=.returned (.bool (prB N T E xs&&Qbe T N ss))/\Old w w':=by
 have hxv:=hv;obtain ⟨a0,c0,rfl⟩:=hv.slice;obtain ⟨a1,c1,eu⟩:=hu.slice;subst eu;have HA:Hid (Old w (w.alloc (.cells #[.int .i64 N,.int .i64 T,.int .i64 E,.slice a0 xs.length c0] 35))):=(Old.refl w).alloc _;have BA:Hid (Bk (w.alloc (.cells #[.int .i64 N,.int .i64 T,.int .i64 E,.slice a0 xs.length c0] 35)) w.heap.size #[.int .i64 N,.int .i64 T,.int .i64 E,.slice a0 xs.length c0] 35):=Bk.new' w _ _ rfl;have K1:=fun W g=>Qh1 N T E xs _ W (hv.old g) hf hl hx
 have K2:prB N T E xs=true->∀W,Old w W->Calls Tryz.prog 50 #[.agg #[.int .i64 N,.int .i64 T,.int .i64 E,.slice a0 xs.length c0],.slice a1 ss.length c1] W fun e w'=>e=.returned (.bool (Qbe T N ss))/\Old W w':=fun h W g=>Qoy N T E a0 xs.length c0 ss _ W (hu.old g) hs (Q0b h)
 clear hv hxv hf hu;generalize prB N T E xs=s1 at *;generalize Qbe T N ss=s2 at *
 cases s1
 ·clear K2;go_enter Tryz.func22,Tryz.ntmps22;go_wp2_with fail;refine (K1 _ HA.out).mono ?_
  rintro e w1 ⟨rfl,g1⟩;have HG1:=Qaa (Old.trans HA.out g1);clear g1;go_wp2_with fail;go_ret;exact ⟨rfl,HG1.out⟩
 ·replace K2:=K2 rfl
  go_enter Tryz.func22,Tryz.ntmps22;go_wp2_with fail;refine (K1 _ HA.out).mono ?_
  rintro e w1 ⟨rfl,g1⟩;have HG1:=Qaa (Old.trans HA.out g1);have B1:=Qaa (BA.out.old g1);clear g1;have z0:=B1.out.c (i:=0) rfl;have z1:=B1.out.c (i:=1) rfl;have z2:=B1.out.c (i:=2) rfl;have z3:=B1.out.c (i:=3) rfl;go_wp2_with fail;refine (K2 _ HG1.out).mono ?_
  rintro e w2 ⟨rfl,g2⟩;have HG2:=Qaa (Old.trans HG1.out g2);clear g2 z0 z1 z2 z3;go_wp2_with fail;go_ret;exact ⟨by simp,HG2.out⟩
end Go.Proofs.YtdaepfjocofkjaaGreatDoor
namespace Go.Proofs.YtdaepfjocofkjaaGreatDoor
open Go.ChangeShapes Go.WideShapes Go.ChangeAt Go.RowKit
theorem Qrf (p r p' r' N':Int) (n n':Bool) (Nn:Nat) (xs ys:List Int) (ua ub:Option Addr) (ca cb:Nat) (w:World) (hv:Row w (.slice ua Nn ca) xs) (hu:Row w (.slice ub Nn cb) ys) (hp:2<=p/\p<=268435456) (hN:2<=Nn/\Nn<=16) (la:xs.length=Nn) (lb:ys.length=Nn) (ha:∀i,i<Nn->(0<=xs.getD i 0/\xs.getD i 0<p)/\(0<=ys.getD i 0/\ys.getD i 0<p)) :
 Calls Tryz.prog 42 #[.agg #[.int .i64 p,.int .i64 Nn,.int .i64 r,.bool n,.slice ua Nn ca],.agg #[.int .i64 p',.int .i64 N',.int .i64 r',.bool n',.slice ub Nn cb]] w fun e w'=>∃g,e=.returned (.slice (some ⟨g,0,none⟩) Nn Nn)/\Old w w'/\Own w' w.heap.size (.slice (some ⟨g,0,none⟩) Nn Nn) (Qco Qd3 p xs ys):=by
 obtain ⟨i0,hi,hz0,hz1,hz2⟩:=info_parts Tryz.infoInt;rcases hv with ⟨_,_,e,e'⟩ | ⟨b1,o1,cap1,e,hb1,h01,hc1⟩
 ·subst e';simp at la;omega
 rcases hu with ⟨_,_,e_,e'⟩ | ⟨b2,o2,cap2,e_,hb2,h02,hc2⟩
 ·subst e';simp at lb;omega
 simp only [Value.slice.injEq] at e e_;obtain ⟨rfl,e7,e8⟩:=e;obtain ⟨rfl,e9,e10⟩:=e_;have HC1:Hid (∀j,j<Nn->w.cell? ⟨b1,o1+j,none⟩=some (.int .i64 (xs.getD j 0))):=fun j hj=>hc1 j (by omega)
 have HC2:Hid (∀j,j<Nn->w.cell? ⟨b2,o2+j,none⟩=some (.int .i64 (ys.getD j 0))):=fun j hj=>hc2 j (by omega)
 have HE:Hid (∀k,k<Nn->(Qco Qd3 p xs ys).getD k 0=Qd3 p (xs.getD k 0) (ys.getD k 0)):=fun k hk=>Qdn _ _ _ _ _ (by omega)
 have hlen:(Qco Qd3 p xs ys).length=Nn:=by rw [Qcp,la]
 have HA:=Qaa ha;generalize Qco Qd3 p xs ys=zs at *;clear hc1 hc2 la lb ha e7 e8 e9 e10 h01 h02
 have HB:Hid (∀W',Old ((w.alloc (.cells #[.int .i64 p,.int .i64 Nn,.int .i64 r,.bool n,.slice (some ⟨b1,o1,none⟩) Nn ca] 91)).alloc (.cells #[.int .i64 p',.int .i64 N',.int .i64 r',.bool n',.slice (some ⟨b2,o2,none⟩) Nn cb] 91)) W'->(W'.cell? ⟨w.heap.size,0,none⟩=some (.int .i64 p)/\W'.cell? ⟨w.heap.size,1,none⟩=some (.int .i64 Nn)/\W'.cell? ⟨w.heap.size,4,none⟩=some (.slice (some ⟨b1,o1,none⟩) Nn ca)/\W'.cell? ⟨w.heap.size+1,4,none⟩=some (.slice (some ⟨b2,o2,none⟩) Nn cb))):=fun W' g=>
  ⟨(g.cell (p:=⟨w.heap.size,0,none⟩) (by simp;omega)).trans (by simp [Qae,Qbd]),(g.cell (p:=⟨w.heap.size,1,none⟩) (by simp;omega)).trans (by simp [Qae,Qbd]),(g.cell (p:=⟨w.heap.size,4,none⟩) (by simp;omega)).trans (by simp [Qae,Qbd]),(g.cell (p:=⟨w.heap.size+1,4,none⟩) (by simp)).trans (by simp [Qae,Qbd])⟩
 have HSZ:Hid (((w.alloc (.cells #[.int .i64 p,.int .i64 Nn,.int .i64 r,.bool n,.slice (some ⟨b1,o1,none⟩) Nn ca] 91)).alloc (.cells #[.int .i64 p',.int .i64 N',.int .i64 r',.bool n',.slice (some ⟨b2,o2,none⟩) Nn cb] 91)).heap.size=w.heap.size+1+1):=by show _ = _;simp
 have hpn:¬p=0:=by omega
 go_enter Tryz.func42,Tryz.ntmps42;go_wp2_with (at_make;refine wpList_make_full _ rfl _ _ 22 rfl (w.heap.size+1+1) 3 i0 (.int .i64 0) 1 Tryz.underlying22 hi hz0 hz1 .i64 .i64 _ _ Nn rfl rfl rfl rfl (by rw [hz2];omega) (by unfold maxLen;omega) (by simp) ?_;intro w1 hown hgrow;have z1:=(HB.out w1 (Old.by_ (Old.refl _) hgrow (fun b hb=>by cases hb))).2.1)
 have HO:Hid (Qbn w1 (w.heap.size+1+1) (w.heap.size+1+1) Nn (List.replicate Nn 0)):=by
  rw [Qbk,HSZ.out] at hown;exact hown
 have HG:Hid (Old ((w.alloc (.cells #[.int .i64 p,.int .i64 Nn,.int .i64 r,.bool n,.slice (some ⟨b1,o1,none⟩) Nn ca] 91)).alloc (.cells #[.int .i64 p',.int .i64 N',.int .i64 r',.bool n',.slice (some ⟨b2,o2,none⟩) Nn cb] 91)) w1):=Old.by_ (Old.refl _) hgrow (fun b hb=>by cases hb);clear hown hgrow z1
 go_loopw [14] (fun i W=>∃k:Nat,k<=Nn/\i=.int .i64 k/\Hid (Qbn W (w.heap.size+1+1) (w.heap.size+1+1) Nn (Qb9 zs k))/\Hid (Old ((w.alloc (.cells #[.int .i64 p,.int .i64 Nn,.int .i64 r,.bool n,.slice (some ⟨b1,o1,none⟩) Nn ca] 91)).alloc (.cells #[.int .i64 p',.int .i64 N',.int .i64 r',.bool n',.slice (some ⟨b2,o2,none⟩) Nn cb] 91)) W)) (fun i _=>Nn - (intOf i).toNat)
 case atStart=>exact ⟨0,by omega,rfl,(by show Qbn _ _ _ _ _;rw [Qdi,hlen];exact HO.out),HG⟩
 case round=>
  obtain ⟨k,hk,rfl,HO1,HG2⟩:=hrel;clear HO HG;have HG1:=Qaa (Old.trans (((Old.refl w).alloc _).alloc _) HG2.out)
  by_cases hlt:k<Nn
  ·have i1:(k:Int)<(Nn:Int):=by omega
   have c1:=(HG1.out.cell (p:=⟨b1,o1+k,none⟩) hb1).trans (HC1.out k hlt);have c2:=(HG1.out.cell (p:=⟨b2,o2+k,none⟩) hb2).trans (HC2.out k hlt);obtain ⟨z0,z1,z4,z5⟩:=HB.out wr HG2.out;have c3:=HO1.out.get (Qca zs k (by omega) |>.trans hlen) k hlt;have c4:=HO1.out.free k;have HX:=Qaa (HE.out k hlt);obtain ⟨⟨bx1,bx2⟩,⟨by1,by2⟩⟩:=HA.out k hlt;generalize xs.getD k 0=x at *;generalize ys.getD k 0=y at *;generalize (Qb9 zs k).getD k 0=oldv at *
   have HP:Hid (Qbn (wr.setCell ⟨w.heap.size+1+1,k,none⟩ (.int .i64 (Qd3 p x y))) (w.heap.size+1+1) (w.heap.size+1+1) Nn (Qb9 zs (k+1))):=by
    have:=HO1.out.put k (Qd3 p x y);rw [<- HX.out,Qec zs k (by omega)] at this;rw [<- HX.out];exact this
   obtain ⟨q,hq⟩:∃q,Qd3 p x y=q:=⟨_,rfl⟩
   have e3:(IntKind.i64.wrap (x+y)).tmod p=q:=by
    rw [IntKind.wrap_i64];rw [show (x+y+9223372036854775808)%18446744073709551616 - 9223372036854775808=x+y by omega];rw [Int.tmod_eq_emod_of_nonneg (by omega)];exact hq
   have e4:(x+y).tmod p=q:=by
    rw [Int.tmod_eq_emod_of_nonneg (by omega)];exact hq
   have e5:(x+y)%p=q:=hq
   have hqb:0<=q/\q<268435456:=by
    have g1:=Int.emod_nonneg (x+y) (show p≠0 by omega);have g2:=Int.emod_lt_of_pos (x+y) (show 0<p by omega);omega
   rw [hq] at HP;clear hq HX;have HN2:Hid (Old ((w.alloc (.cells #[.int .i64 p,.int .i64 Nn,.int .i64 r,.bool n,.slice (some ⟨b1,o1,none⟩) Nn ca] 91)).alloc (.cells #[.int .i64 p',.int .i64 N',.int .i64 r',.bool n',.slice (some ⟨b2,o2,none⟩) Nn cb] 91)) (wr.setCell ⟨w.heap.size+1+1,k,none⟩ (.int .i64 q))):=HG2.out.own (by simp;try omega) _;go_wp2_with fail
   go_region
   go_wp2_with fail;exact ⟨⟨k+1,by omega,by go_num,HP.out,HN2.out.drewN 1⟩,by simp [intOf];omega⟩
  ·have d1:decide ((k:Int)<(Nn:Int))=false:=by simp;omega
   obtain rfl:k=Nn:=by omega
   have HF:Hid (Own wr (w.heap.size+1+1) (.slice (some ⟨w.heap.size+1+1,0,none⟩) k k) zs):=by
    have:=HO1.out.own ((Qca zs k (by omega)).trans hlen);rw [show Qb9 zs k=zs by rw [<- hlen];exact Qeb zs] at this;exact this
   go_wp2_with fail;go_ret;exact ⟨_,rfl,HG1.out,HF.out.low (by omega)⟩
theorem Qoz:(Tryz.prog.info? 3).map (·.size)=some 1:=by kernel_rfl
theorem Qih (cur cs:List Value) (h:cur.length=cs.length):splice cur 0 cs=cs:=by
 simp [splice,h]
theorem Qqf {ops:Array Oper} {rest:List Oper} {a:Act} {w:World} {Q:Exit->Act->World->Prop} {ty:TypeId} {pos:String} {d:Option Tmp} {x y:Operand} {af:Array Edge}
 (g base N b o cap:Nat) (us xs:List Int) (hx:a.eval x=.slice (some ⟨g,0,none⟩) N N) (hy:a.eval y=.slice (some ⟨b,o,none⟩) N cap) (hO:Qbn w base g N us) (hu:us.length=N) (hl:xs.length=N)
 (hsrc:∀j,j<N->w.cell? ⟨b,o+j,none⟩=some (.int .i64 (xs.getD j 0)))
 (h:∀w',Qbn w' base g N xs->Below g w w'->wpList Tryz.prog ops Q rest (a.put d (goInt N)) w') :
 wpList Tryz.prog ops Q (⟨d,.call {callee:=.builtin .copy,args:=#[x,y],argTypes:=#[22,22]},ty,pos,af,none⟩ :: rest) a w:=by
 rcases hO.2 with ⟨e,_⟩ | ⟨g',cap',cur,e,hb,hg,h1,h2,h3,h4⟩
 ·cases e
 ·injection e with e1 e2 e3
  injection e1 with e4
  injection e4 with e5
  subst e5 e3;have hcl:cur.toList.length=(xs.map (Value.int .i64)).length:=by simp [h3,hl]
  refine wpList_copy_splice rfl x y 22 22 rfl 3 Tryz.underlying22 Qoz _ _ _ _ _ _ hx hy g 0 cur.toList 3 (by rw [Array.toArray_toList];exact hg) (xs.map (Value.int .i64)) (by simp [hl]) (fun _=>⟨rfl,_,rfl,?_⟩) (by rw [hcl];omega) (by simp [Value.oneCell']) g w (Below.refl _ _) (Nat.le_refl _) ?_
  ·intro j v hj
   have hjl:j<N:=by
    have:=(List.getElem?_eq_some_iff.1 hj).1
    simpa [hl] using this
   have e1:v=.int .i64 (xs.getD j 0):=by
    have hjx:j<xs.length:=by omega
    simp [List.getElem?_map,hjx] at hj;rw [<- hj];simp [List.getD,hjx]
   have e2:(⟨b,o,none⟩:Addr).add j=⟨b,o+j,none⟩:=by
    unfold Addr.add;split
    ·rename_i h;simp [h]
    ·rfl
   rw [e2,e1];exact hsrc j hjl
  ·intro w' hg' hb';rw [show (xs.map (Value.int .i64)).length=N by simp [hl]];refine h w' ⟨by simp [hl],Or.inr ⟨g,N,_,rfl,hb,hg'.out,Nat.le_refl _,h2,?_,?_⟩⟩ hb'
   ·rw [Qih _ _ hcl];simp [hl]
   ·rw [Qih _ _ hcl,List.toList_toArray,Nat.mul_one];exact List.take_of_length_le (by simp [hl])
end Go.Proofs.YtdaepfjocofkjaaGreatDoor
namespace Go.Proofs.YtdaepfjocofkjaaGreatDoor
open Go.ChangeShapes Go.WideShapes Go.ChangeAt Go.RowKit
open M1
def invS (P B:Nat) (ps xs:List Nat) (i:Nat):Nat->Nat
 | 0=>0
 | c+1=>(invS P B ps xs i c+xs.getD c 0*(B^(ps.getD c 0*i)%P))%P
theorem Q0c (P B:Nat) (ps xs:List Nat) (i:Nat) (hP:0<P):∀c,invS P B ps xs i c<P
 | 0=>hP
 | c+1=>Nat.mod_lt _ hP
def Q0d (P N R:Nat) (xs:List Nat):List Nat:=(List.range N).map (fun i=>invS P (invM R P) (Qu7 N) xs i N*invM (N%P) P%P)
theorem Qk5 (P N R:Nat) (xs:List Nat):(Q0d P N R xs).length=N:=by simp [Q0d]
theorem Qqg (P N R:Nat) (xs:List Nat) (k:Nat) (h:k<N):(Q0d P N R xs).getD k 0=invS P (invM R P) (Qu7 N) xs k N*invM (N%P) P%P:=by simp [Q0d,List.getD,h]
end Go.Proofs.YtdaepfjocofkjaaGreatDoor
namespace Go.Proofs.YtdaepfjocofkjaaGreatDoor
open Go.ChangeShapes Go.WideShapes Go.ChangeAt Go.RowKit
open M2
theorem Old.drw {a b:World} (h:Old a b):Old a b.drew:=Below.drew h
theorem Sz.drw {w:World} {g:Nat} {ls:List Nat} {c:Nat} (h:Sz w g ls c):Sz w.drew g ls c:=⟨h.blk,h.len⟩
theorem Sz.zero0 (w:World):Sz (w.alloc (.cells Tryz.zeroCells117 117)) w.heap.size (ext []) 0:=Sz.zero w _ rfl
theorem Sz.zero1 (w:World) (o:Obj):Sz ((w.alloc o).alloc (.cells Tryz.zeroCells117 117)) (w.heap.size+1) (ext []) 0:=Sz.zero _ _ (by simp)
theorem Qar {W:World} {g:Nat} {A:Array Value} (h:W.heap[g]? = some (.cells A 117 (0,0))) (hs:A.size=81):(loadCellsFrom ⟨g,0,none⟩ 0 81 #[]).run Tryz.prog W=.ok A W:=by
 have:=run_loadCells_list (P:=Tryz.prog) W ⟨g,0,none⟩ A.toList (fun j v hv=>by
  have hadd:(⟨g,0,none⟩:Addr).add j=⟨g,j,none⟩:=by unfold Addr.add;split <;> simp_all
  rw [hadd,cell_of_row W g j A _ _ h]
  simpa using hv)
 simpa [loadCells,hs] using this
theorem Q0e (a b:Nat) (ha:cnt a<=40) (hb:cnt b<=40):cnt (a+b)<=41:=by
 refine Qc0 ?_
 have h1:=cnt_lt a;have h2:=cnt_lt b;have h3:=Nat.pow_le_pow_right Qba ha;have h4:=Nat.pow_le_pow_right Qba hb;have h5:LB^41=LB^40*LB:=Nat.pow_succ ..;have h6:LB^40*2<=LB^40*LB:=Nat.mul_le_mul_left _ (by decide);omega
theorem Qgl {W:World} {g n:Nat} {ls:List Nat} {c:Nat} (hs:Sz W g ls c) (hl:(szV n).size=81):(storeCells ⟨g,0,none⟩ (szV n).toList 0).run Tryz.prog W=.ok () (W.setRow g (szV n)):=by
 have:=run_storeVar_row (P:=Tryz.prog) W g 117 117 (szA ls c) (szV n) hs.blk (by rw [hl];exact Qd5) (by rw [Qam hs.len,hl]) (Qom _ _)
 cases hq:Tryz.prog.info? 117 with
 | none=>have h2:=Qd5;rw [hq] at h2;cases h2
 | some i=>
   have h2:=Qd5;rw [hq] at h2;have h3:i.size=81:=by simpa using h2
   simpa [storeVar,Go.sizeOf,typeInfo,hq,Value.cells,hl,h3] using this
theorem Qtn {o:Oper} {a:Act} {K:Act->World->Prop} {Q:Exit->Act->World->Prop} {f:Unit->World->Result Next} {W:World} {g n:Nat} {ls:List Nat} {c:Nat} (hs:Sz W g ls c) (hl:(szV n).size=81)
 (h:Oper.upon Tryz.prog o a K Q (f () (W.setRow g (szV n)))):Oper.upon Tryz.prog o a K Q ((Sem.run Tryz.prog (storeCells ⟨g,0,none⟩ (szV n).toList 0) W).andThen f):=by
 rw [Qgl hs hl];exact h
theorem Qjn (x:Nat) (w:World) (h1:x<268435456) :
 Calls Tryz.prog 132 #[.int .u64 (x:Int)] w fun e w'=>e=.returned (.int .i64 (Lib.bitLen x))/\w'=w:=by
 have c:=Qg4 (x:Int) w (by omega) (by omega);rw [Int.toNat_natCast] at c;have HC:Hid (Calls Tryz.prog 152 #[.int .u64 (x:Int)] w fun e w'=>e=.returned (.int .i64 (Lib.bitLen x))/\w'=w):=c;clear c;go_enter Tryz.func132,Tryz.ntmps132;go_wp2_with (go_at_call 152;refine HC.out.mono ?_;rintro e w' ⟨rfl,rfl⟩);go_ret;exact ⟨rfl,rfl⟩
end Go.Proofs.YtdaepfjocofkjaaGreatDoor
