/- Proved: what its theorems say. -/
import Derived.Test.YtjjohooeehjjcaaGreatDoorMu11
import Derived.Test.YtjjohooeehjjcaaGreatDoorMu13
import Derived.Test.YtjjohooeehjjcaaGreatDoorMu15
import Derived.Test.YtjjohooeehjjcaaGreatDoorMu20
set_option linter.unusedVariables false
set_option linter.unusedSimpArgs false
set_option maxHeartbeats 8000000
set_option maxRecDepth 100000
namespace Go.Proofs.YtjjohooeehjjcaaGreatDoor
open Go.ChangeShapes Go.WideShapes Go.ChangeAt Go.RowKit
abbrev rk0:Array Value:=#[.int .i64 0,.int .i64 0,.int .i64 0,.slice none 0 0,.slice none 0 0,.bool false,.slice none 0 0]
def Qgg (i:Nat):Nat:=[14,15,16,17,18,19,20].getD i 0
theorem Qru:∀i,i<7->Qgg i<21:=by decide
theorem Qiy:∀i,i<7->∀j,j<7->Qgg i=Qgg j->i=j:=by decide
theorem Qrv:∀s,s<14->∀i,i<7->Qgg i≠s:=by decide
def qRk (N T E:Int) (v3 R:Value) (SZ:Array Value) (ds:List Int) (k base:Nat) (i:Nat) (W:World) (x:Value):Prop:=
 match i with
 | 0=>x=.agg #[.int .i64 N,.int .i64 T,.int .i64 E,v3]
 | 1=>x=R
 | 2=>x=.pointer (some ⟨k,3,none⟩)
 | 3=>x=v3
 | 4=>x=.agg SZ
 | 5=>∃a c,x=.agg #[.bool false,.slice a ds.length c]/\Own W base (.slice a ds.length c) ds
 | 6=>∃a c,x=.agg #[.int .i64 N,.int .i64 T,.int .i64 E,v3,R,.bool false,.slice a ds.length c]/\Own W base (.slice a ds.length c) ds
 | _=>True
theorem Qxc (N T E:Int) (v3 R:Value) (SZ:Array Value) (ds:List Int) (k base:Nat) (i:Nat) (W W':World) (x:Value) (h:qRk N T E v3 R SZ ds k base i W x) (q:Old W W'):qRk N T E v3 R SZ ds k base i W' x:=by
 unfold qRk at h ⊢;split at h
 case h_6=>
  obtain ⟨a,c,e,o⟩:=h;exact ⟨a,c,e,o.old q⟩
 case h_7=>
  obtain ⟨a,c,e,o⟩:=h;exact ⟨a,c,e,o.old q⟩
 all_goals first | exact h | trivial
theorem Qxd (w0:World) (k kr:Nat) (N T E:Int) (a3:Option Addr) (l3 c3:Nat) (ar:Option Addr) (lr cr:Nat) (SZ:Array Value) (ds:List Int) (bA:w0.heap[k]? = some (.cells #[.int .i64 N,.int .i64 T,.int .i64 E,.slice a3 l3 c3] 33 (0,0))) (bK:w0.heap[kr]? = some (.cells rk0 62 (0,0)))
  (KP:∀W,Old w0 W->Calls Tryz.prog 55 #[.slice a3 l3 c3] W fun e w'=>∃v,e=.returned v/\v=.agg SZ/\Old W w')
  (KW:∀W,Calls Tryz.prog 54 #[.bool false,.agg SZ] W fun e w'=>∃v,e=.returned v/\∃a c,v=.agg #[.bool false,.slice a ds.length c]/\Old W w'/\Own w' W.heap.size (.slice a ds.length c) ds)
  (Q:Exit->Act->World->Prop) (a0:Act) (hsz:a0.tmps.size=21)
  (ha1:a0.eval (.tmp 1)=.pointer (some ⟨k,0,none⟩)) (ha2:a0.eval (.tmp 2)=.pointer (some ⟨kr,0,none⟩)) (ha4:a0.eval (.tmp 4)=.slice ar lr cr)
  (HK:Hid (∀(us:Nat->Value) W a c,Old w0 W->Own W w0.heap.size (.slice a ds.length c) ds->Q .normal ((Qal a0 ((List.range 7).map fun i=>(Qgg i,us i))).put (some 3) (.bool true)) (W.setRow kr #[.int .i64 N,.int .i64 T,.int .i64 E,.slice a3 l3 c3,.slice ar lr cr,.bool false,.slice a ds.length c]))) :
  Code.wp Tryz.prog ((Tryz.f26.body.bind (Qa2 4)).getD .skip) Q a0 w0:=by
 conv=>arg 2;whnf
 have un:=Qrv;have pa:∀W,Old w0 W->W.heap[k]? = some (.cells #[.int .i64 N,.int .i64 T,.int .i64 E,.slice a3 l3 c3] 33 (0,0)):=fun W g=>(g.block k (lt_of_some bA)).trans bA
 have pk:∀W,Old w0 W->W.heap[kr]? = some (.cells rk0 62 (0,0)):=fun W g=>(g.block kr (lt_of_some bK)).trans bK
 have iA:(Tryz.prog.info? 33).map (·.size)=some 4:=by kernel_rfl
 refine Qh4 7 rfl rfl rfl (by kernel_rfl) (by kernel_rfl) (by kernel_rfl) (by kernel_rfl) (by kernel_rfl) Qgg (fun i hi=>by rw [hsz];exact Qru i hi) (fun i j hi hj=>Qiy i hi j hj) (qRk N T E (.slice a3 l3 c3) (.slice ar lr cr) SZ ds k w0.heap.size) (Qxc N T E (.slice a3 l3 c3) (.slice ar lr cr) SZ ds k w0.heap.size) ?_ ?_
 ·refine ⟨?_,?_,?_,?_,?_,?_,?_,trivial⟩
  ·intro a W g hF hd;refine Qca (k:=k) ((hF.same 1 (un 1 (by decide))).trans ha1) (pa W g) Tryz.underlying33 rfl iA ?_
   exact ⟨_,rfl,Old.refl _,rfl⟩
  ·intro a W g hF hd;refine Qa0 ?_
   exact ⟨_,rfl,Old.refl _,(hF.same 4 (un 4 (by decide))).trans ha4⟩
  ·intro a W g hF hd;have h1:a.eval (.tmp 1)=.pointer (some ⟨k,0,none⟩):=(hF.same 1 (un 1 (by decide))).trans ha1;obtain ⟨ρ,hρ⟩:∃ρ,a.eval=ρ:=⟨_,rfl⟩
   rw [hρ] at h1;refine Qbe ρ hρ (.pointer (some ⟨k,3,none⟩)) ?_ ⟨_,rfl,Old.refl _,rfl⟩
   clear g hF hd hρ ha1 ha2 ha4 HK un KP KW bA bK pa pk
   go_simp
  ·intro a W g hF hd;have h1:a.eval (.tmp 16)=.pointer (some ⟨k,3,none⟩):=hd ⟨2,.data⟩ (by simp) rfl;have hc:W.cell? ⟨k,3,none⟩=some (.slice a3 l3 c3):=by rw [cell_of_row _ _ _ _ _ _ (pa W g)];rfl
   obtain ⟨ρ,hρ⟩:∃ρ,a.eval=ρ:=⟨_,rfl⟩
   rw [hρ] at h1;refine Qbe ρ hρ (.slice a3 l3 c3) ?_ ⟨_,rfl,Old.refl _,rfl⟩
   clear g hF hd hρ ha1 ha2 ha4 HK un KP KW bA bK pa pk
   go_simp
  ·intro a W g hF hd;have h1:a.eval (.tmp 17)=.slice a3 l3 c3:=hd ⟨3,.data⟩ (by simp) rfl;refine Qao Tryz.call55 (vs:=#[.slice a3 l3 c3]) (by simp [h1]) (KP W g) ?_
   rintro x w' ⟨rfl,g'⟩;exact ⟨_,rfl,g',rfl⟩
  ·intro a W g hF hd;have h1:a.eval (.tmp 18)=.agg SZ:=hd ⟨4,.data⟩ (by simp) rfl;refine Qao Tryz.call54 (vs:=#[.bool false,.agg SZ]) (by simp [h1];rfl) (KW W) ?_
   rintro x w' ⟨a6,c6,rfl,g',o'⟩;exact ⟨_,rfl,g',a6,c6,rfl,o'.low g.size⟩
  ·intro a W g hF hd;have h0:a.eval (.tmp 14)=.agg #[.int .i64 N,.int .i64 T,.int .i64 E,.slice a3 l3 c3]:=hd ⟨0,.data⟩ (by simp) rfl;have h1:a.eval (.tmp 15)=.slice ar lr cr:=hd ⟨1,.data⟩ (by simp) rfl;obtain ⟨a6,c6,h5,o6⟩:∃a6 c6,a.eval (.tmp 19)=.agg #[.bool false,.slice a6 ds.length c6]∧Own W w0.heap.size (.slice a6 ds.length c6) ds:=hd ⟨5,.data⟩ (by simp) rfl
   obtain ⟨ρ,hρ⟩:∃ρ,a.eval=ρ:=⟨_,rfl⟩
   rw [hρ] at h0 h1 h5;refine Qbe ρ hρ (.agg #[.int .i64 N,.int .i64 T,.int .i64 E,.slice a3 l3 c3,.slice ar lr cr,.bool false,.slice a6 ds.length c6]) ?_ ⟨_,rfl,Old.refl _,a6,c6,rfl,o6⟩
   clear g hF hd hρ ha1 ha2 ha4 HK un KP KW bA bK pa pk o6
   go_simp
 ·intro a W g hF hq;obtain ⟨a6,c6,h6,o6⟩:∃a6 c6,a.eval (.tmp 20)=.agg #[.int .i64 N,.int .i64 T,.int .i64 E,.slice a3 l3 c3,.slice ar lr cr,.bool false,.slice a6 ds.length c6]∧Own W w0.heap.size (.slice a6 ds.length c6) ds:=hq 6 (by decide)
  have h2:a.eval (.tmp 2)=.pointer (some ⟨kr,0,none⟩):=(hF.same 2 (un 2 (by decide))).trans ha2;have hp:=Qcy hF (fun i j hi hj=>Qiy i hi j hj);have hk2:=HK.out (fun i=>a.eval (.tmp (Qgg i))) W a6 c6 g o6;rw [<- hp] at hk2;refine Qgo (k:=kr) h2 h6 (pk W g) (by kernel_rfl) rfl (by simp [Value.oneCell']) ?_
  exact Qea hk2
end Go.Proofs.YtjjohooeehjjcaaGreatDoor
namespace Go.Proofs.YtjjohooeehjjcaaGreatDoor
open Go.ChangeShapes Go.WideShapes Go.ChangeAt Go.RowKit
open M2
theorem Qm7 (n:Nat) (w:World) (hn:cnt n≤80) :
  Calls Tryz.prog 54 #[.bool false,.agg (szV n)] w fun e w'=>∃v,e=.returned (.agg #[.bool false,v])/\Old w w'/\Own w' w.heap.size v (toI (dig n)):=by
 by_cases h0:n=0
 ·subst h0;refine (Qc2 false w).mono ?_
  rintro e w1 ⟨rfl,g1⟩;refine ⟨_,rfl,g1,?_⟩;rw [Qax];exact Qrt _ _
 ·exact Qci false n w h0 hn
theorem Qxe {w:World} {k:Nat} {x0 x1 x2 x3 x4 x5 x6:Value} {t:TypeId} (h:Bk w k #[x0,x1,x2,x3,x4,x5,x6] t) (y0 y1 y2 y3 y4 y5 y6:Value):Bk (((((((w.setCell ⟨k,0,none⟩ y0).setCell ⟨k,1,none⟩ y1).setCell ⟨k,2,none⟩ y2).setCell ⟨k,3,none⟩ y3).setCell ⟨k,4,none⟩ y4).setCell ⟨k,5,none⟩ y5).setCell ⟨k,6,none⟩ y6) k #[y0,y1,y2,y3,y4,y5,y6] t:=by
 have h0:Bk (w.setCell ⟨k,0,none⟩ y0) k #[y0,x1,x2,x3,x4,x5,x6] t:=(heap_setCell_same w k 0 _ _ y0 h).trans rfl;have h1:Bk ((w.setCell ⟨k,0,none⟩ y0).setCell ⟨k,1,none⟩ y1) k #[y0,y1,x2,x3,x4,x5,x6] t:=(heap_setCell_same (w.setCell ⟨k,0,none⟩ y0) k 1 _ _ y1 h0).trans rfl;have h2:Bk (((w.setCell ⟨k,0,none⟩ y0).setCell ⟨k,1,none⟩ y1).setCell ⟨k,2,none⟩ y2) k #[y0,y1,y2,x3,x4,x5,x6] t:=(heap_setCell_same ((w.setCell ⟨k,0,none⟩ y0).setCell ⟨k,1,none⟩ y1) k 2 _ _ y2 h1).trans rfl;have h3:Bk ((((w.setCell ⟨k,0,none⟩ y0).setCell ⟨k,1,none⟩ y1).setCell ⟨k,2,none⟩ y2).setCell ⟨k,3,none⟩ y3) k #[y0,y1,y2,y3,x4,x5,x6] t:=(heap_setCell_same (((w.setCell ⟨k,0,none⟩ y0).setCell ⟨k,1,none⟩ y1).setCell ⟨k,2,none⟩ y2) k 3 _ _ y3 h2).trans rfl;have h4:Bk (((((w.setCell ⟨k,0,none⟩ y0).setCell ⟨k,1,none⟩ y1).setCell ⟨k,2,none⟩ y2).setCell ⟨k,3,none⟩ y3).setCell ⟨k,4,none⟩ y4) k #[y0,y1,y2,y3,y4,x5,x6] t:=(heap_setCell_same ((((w.setCell ⟨k,0,none⟩ y0).setCell ⟨k,1,none⟩ y1).setCell ⟨k,2,none⟩ y2).setCell ⟨k,3,none⟩ y3) k 4 _ _ y4 h3).trans rfl;have h5:Bk ((((((w.setCell ⟨k,0,none⟩ y0).setCell ⟨k,1,none⟩ y1).setCell ⟨k,2,none⟩ y2).setCell ⟨k,3,none⟩ y3).setCell ⟨k,4,none⟩ y4).setCell ⟨k,5,none⟩ y5) k #[y0,y1,y2,y3,y4,y5,x6] t:=(heap_setCell_same (((((w.setCell ⟨k,0,none⟩ y0).setCell ⟨k,1,none⟩ y1).setCell ⟨k,2,none⟩ y2).setCell ⟨k,3,none⟩ y3).setCell ⟨k,4,none⟩ y4) k 5 _ _ y5 h4).trans rfl;have h6:Bk (((((((w.setCell ⟨k,0,none⟩ y0).setCell ⟨k,1,none⟩ y1).setCell ⟨k,2,none⟩ y2).setCell ⟨k,3,none⟩ y3).setCell ⟨k,4,none⟩ y4).setCell ⟨k,5,none⟩ y5).setCell ⟨k,6,none⟩ y6) k #[y0,y1,y2,y3,y4,y5,y6] t:=(heap_setCell_same ((((((w.setCell ⟨k,0,none⟩ y0).setCell ⟨k,1,none⟩ y1).setCell ⟨k,2,none⟩ y2).setCell ⟨k,3,none⟩ y3).setCell ⟨k,4,none⟩ y4).setCell ⟨k,5,none⟩ y5) k 6 _ _ y6 h5).trans rfl;exact h6
def RkA (N T E:Int) (xs:List Int) (Rf:Nat->Int) (v:Value) (w:World) (e:Ending) (w':World):Prop:=
 Old w w'/\((prB N T E xs=false/\e=.returned (.tuple #[.agg rk0,.bool false]))∨(prB N T E xs=true/\∃g a l c,w.heap.size<=g/\e=.returned (.tuple #[.agg #[.int .i64 N,.int .i64 T,.int .i64 E,v,.slice (some ⟨g,0,none⟩) xs.length xs.length,.bool false,.slice a l c],.bool true])/\Rgs w' g N xs Rf xs.length/\∃ps,xs=toZ ps/\Bas ps/\l=(dig (Qae ps)).length/\Own w' w.heap.size (.slice a l c) (toI (dig (Qae ps)))))
theorem Qhj (N T E:Int) (xs:List Int) (Rf:Nat→Int) (v:Value) (w:World) (hP:Qeu w) (hT:Qbq w) (hv:Row w v xs) (hf:Fit v) (hl:xs.length≤9223372036854775807)
  (hRf:∀k,RingOk (xs.getD k 0) N->(0<=Rf k/\Rf k<xs.getD k 0)/\(∀W,Qeu W->Qbq W->Calls Tryz.prog 101 #[.int .i64 (xs.getD k 0),.int .i64 N] W fun e w'=>e=.returned (.tuple #[.agg #[.int .i64 (xs.getD k 0),.int .i64 N,.int .i64 (Rf k)],.bool true])/\Old W w')) :
  Calls Tryz.prog 26 #[.agg #[.int .i64 N,.int .i64 T,.int .i64 E,v]] w (RkA N T E xs Rf v w):=by
 obtain ⟨a0,c0,rfl⟩:=hv.slice;have K1:=fun W (g:Old w W)=>Qfj N T E xs Rf _ W (hP.old g) (hT.old g) (hv.old g) hf hl hRf
 have HA:Hid (Old w ((w.alloc (.cells #[.int .i64 N,.int .i64 T,.int .i64 E,.slice a0 xs.length c0] 33)).alloc (.cells rk0 62))):=((Old.refl w).alloc _).alloc _;have BA:Hid (Bk ((w.alloc (.cells #[.int .i64 N,.int .i64 T,.int .i64 E,.slice a0 xs.length c0] 33)).alloc (.cells rk0 62)) w.heap.size #[.int .i64 N,.int .i64 T,.int .i64 E,.slice a0 xs.length c0] 33):=(Bk.new' w _ _ rfl).alloc _;have BB:Hid (Bk ((w.alloc (.cells #[.int .i64 N,.int .i64 T,.int .i64 E,.slice a0 xs.length c0] 33)).alloc (.cells rk0 62)) (w.heap.size+1) rk0 62):=Bk.new' _ _ _ (by simp);have HV:=Qaa hv;clear hP hT hv hf hRf;go_enter Tryz.func26,Tryz.ntmps26;go_wp2_with fail;refine (K1 _ HA.out).mono ?_
 rintro e w1 ⟨g1,h⟩;have HG1:=Qaa (Old.trans HA.out g1);have B1:=Qaa (BA.out.old g1);have B2:=Qaa (BB.out.old g1);have hs1:w.heap.size+2<=w1.heap.size:=by have:=g1.size;simp at this;omega
 clear g1 K1 BA BB;rcases h with ⟨hB,rfl⟩ | ⟨hB,g,hg,rfl,hrg⟩
 ·have HB:=Qaa hB;have y0:=B2.out.c (i:=0) rfl;have y1:=B2.out.c (i:=1) rfl;have y2:=B2.out.c (i:=2) rfl;have y3:=B2.out.c (i:=3) rfl;have y4:=B2.out.c (i:=4) rfl;have y5:=B2.out.c (i:=5) rfl;have y6:=B2.out.c (i:=6) rfl;have f0:w1.frozen? ⟨w.heap.size+1,0,none⟩=false:=frozen_of_row _ _ _ _ _ B2.out
  have f1:w1.frozen? ⟨w.heap.size+1,1,none⟩=false:=frozen_of_row _ _ _ _ _ B2.out
  have f2:w1.frozen? ⟨w.heap.size+1,2,none⟩=false:=frozen_of_row _ _ _ _ _ B2.out
  have f3:w1.frozen? ⟨w.heap.size+1,3,none⟩=false:=frozen_of_row _ _ _ _ _ B2.out
  have f4:w1.frozen? ⟨w.heap.size+1,4,none⟩=false:=frozen_of_row _ _ _ _ _ B2.out
  have f5:w1.frozen? ⟨w.heap.size+1,5,none⟩=false:=frozen_of_row _ _ _ _ _ B2.out
  have f6:w1.frozen? ⟨w.heap.size+1,6,none⟩=false:=frozen_of_row _ _ _ _ _ B2.out
  clear hB;go_wp2_with fail;have HF:=Qxe B2.out (.int .i64 0) (.int .i64 0) (.int .i64 0) (.slice none 0 0) (.slice none 0 0) (.bool false) (.slice none 0 0);have q0:=HF.c (i:=0) rfl;have q1:=HF.c (i:=1) rfl;have q2:=HF.c (i:=2) rfl;have q3:=HF.c (i:=3) rfl;have q4:=HF.c (i:=4) rfl;have q5:=HF.c (i:=5) rfl;have q6:=HF.c (i:=6) rfl;refine bodyPost_ret (v:=.tuple #[.agg rk0,.bool false]) (by simp [results,Tryz.results26,go_sem,q0,q1,q2,q3,q4,q5,q6]) rfl ⟨?_,.inl ⟨HB.out,rfl⟩⟩;exact ((((((HG1.out.own (p:=⟨w.heap.size+1,0,none⟩) (by simp) _).own (p:=⟨w.heap.size+1,1,none⟩) (by simp) _).own (p:=⟨w.heap.size+1,2,none⟩) (by simp) _).own (p:=⟨w.heap.size+1,3,none⟩) (by simp) _).own (p:=⟨w.heap.size+1,4,none⟩) (by simp) _).own (p:=⟨w.heap.size+1,5,none⟩) (by simp) _).own (p:=⟨w.heap.size+1,6,none⟩) (by simp) _
 ·have hsp:spB N xs=true:=by
   unfold prB at hB;rw [Bool.and_eq_true] at hB;exact hB.1
  obtain ⟨ps,exs,hbas⟩:=Qoi (Qdw hsp).2.1;have c2:∀W,Row W (.slice a0 xs.length c0) xs->Calls Tryz.prog 55 #[.slice a0 xs.length c0] W fun e w'=>e=.returned (.agg (szV (Qae ps)))/\Old W w':=fun W h=>Qcf ps _ W (by rw [<- exs];exact h) hbas.len6 hbas.hi
  have c3:=fun W=>Qm7 (Qae ps) W (Nat.le_trans hbas.cnt (by omega))
  have HPS:Hid (xs=toZ ps/\Bas ps):=⟨exs,hbas⟩;have HB:=Qaa hB;have HRG:=Qaa hrg;have hg2:w.heap.size+2<=g:=by simp at hg;omega
  have hgn:g≠w.heap.size+1:=by omega
  have HLN:Hid ((toI (dig (Qae ps))).length=(dig (Qae ps)).length):=Qan _;obtain ⟨ds,hds⟩:∃ds,toI (dig (Qae ps))=ds:=⟨_,rfl⟩
  have HDS:=Qaa hds;rw [hds] at c3 HLN;clear hds;clear hB exs hbas hrg hg hsp;generalize szV (Qae ps)=SZ at *;go_wp2_with fail
  refine Qxd w1 w.heap.size (w.heap.size+1) N T E a0 xs.length c0 (some ⟨g,0,none⟩) xs.length xs.length SZ ds B1.out B2.out (fun W q=>(c2 W (HV.out.old (Old.trans HG1.out q))).mono fun e w' h=>⟨_,h.1,rfl,h.2⟩) (fun W=>(c3 W).mono fun e w' h=>by
   obtain ⟨v,rfl,q,o⟩:=h;obtain ⟨a,c,rfl⟩:=(Own.row o).slice;exact ⟨_,rfl,a,c,rfl,q,o⟩) _ _ ?_ ?_ ?_ ?_ ?_
  iterate 4 (·exact rfl)
  intro us W a6 c6 q6 o6;simp only [Qal,Act.put,Qgg,List.range,List.range.loop,List.map_cons,List.map_nil,List.getD_cons_zero,List.getD_cons_succ,List.setIfInBounds_toArray,List.set_cons_succ,List.set_cons_zero];have hz:W.heap[w.heap.size+1]? = some (.cells rk0 62 (0,0)):=B2.out.old q6
  have HF:Bk (W.setRow (w.heap.size+1) #[.int .i64 N,.int .i64 T,.int .i64 E,.slice a0 xs.length c0,.slice (some ⟨g,0,none⟩) xs.length xs.length,.bool false,.slice a6 ds.length c6]) (w.heap.size+1) #[.int .i64 N,.int .i64 T,.int .i64 E,.slice a0 xs.length c0,.slice (some ⟨g,0,none⟩) xs.length xs.length,.bool false,.slice a6 ds.length c6] 62:=Qbl hz;have HO:Hid (Own (W.setRow (w.heap.size+1) #[.int .i64 N,.int .i64 T,.int .i64 E,.slice a0 xs.length c0,.slice (some ⟨g,0,none⟩) xs.length xs.length,.bool false,.slice a6 ds.length c6]) w.heap.size (.slice a6 ds.length c6) ds):=Qn0 (Own.low o6 (by omega)) (fun b hb=>Qa4 _ _ _ _ (by have:=(o6.lt b hb).1;omega));have HRG6:Hid (Rgs (W.setRow (w.heap.size+1) #[.int .i64 N,.int .i64 T,.int .i64 E,.slice a0 xs.length c0,.slice (some ⟨g,0,none⟩) xs.length xs.length,.bool false,.slice a6 ds.length c6]) g N xs Rf xs.length):=(HRG.out.old q6).same (Qa4 _ _ _ _ (by omega));have HOL:Hid (Old w (W.setRow (w.heap.size+1) #[.int .i64 N,.int .i64 T,.int .i64 E,.slice a0 xs.length c0,.slice (some ⟨g,0,none⟩) xs.length xs.length,.bool false,.slice a6 ds.length c6])):=Qen (Old.trans HG1.out q6) (by omega) _;have q0:=HF.c (i:=0) rfl;have q1:=HF.c (i:=1) rfl;have q2:=HF.c (i:=2) rfl;have q3:=HF.c (i:=3) rfl;have q4:=HF.c (i:=4) rfl;have q5:=HF.c (i:=5) rfl;have q7:=HF.c (i:=6) rfl;clear HF hz o6 q6 c2 c3;generalize (W.setRow (w.heap.size+1) #[.int .i64 N,.int .i64 T,.int .i64 E,.slice a0 xs.length c0,.slice (some ⟨g,0,none⟩) xs.length xs.length,.bool false,.slice a6 ds.length c6])=WF at *;go_wp2_with fail;refine bodyPost_ret (v:=.tuple #[.agg #[.int .i64 N,.int .i64 T,.int .i64 E,.slice a0 xs.length c0,.slice (some ⟨g,0,none⟩) xs.length xs.length,.bool false,.slice a6 ds.length c6],.bool true]) (by simp [results,Tryz.results26,go_sem,q0,q1,q2,q3,q4,q5,q7]) rfl ⟨HOL.out,.inr ⟨HB.out,g,a6,ds.length,c6,by omega,rfl,HRG6.out,ps,HPS.out.1,HPS.out.2,HLN.out,?_⟩⟩;rw [HDS.out];exact HO.out
end Go.Proofs.YtjjohooeehjjcaaGreatDoor
namespace Go.Proofs.YtjjohooeehjjcaaGreatDoor
open Go.ChangeShapes Go.WideShapes Go.ChangeAt Go.RowKit
def rdB (m:Nat) (B:Nat->Bool):Bool:=decide (2<=m/\m<=3)&&decide (∀j,j<m->B j=true)
theorem Qvo {m:Nat} {B:Nat->Bool} {k:Nat} (hk:k<m) (h:B k=false):rdB m B=false:=by
 unfold rdB;rw [decide_eq_false (p:=∀j,j<m->B j=true) (fun hh=>by have:=hh k hk;rw [h] at this;cases this)];simp
theorem Qrw {m:Nat} {B:Nat->Bool} (hm:2<=m/\m<=3) (h:∀j,j<m->B j=true):rdB m B=true:=by
 unfold rdB;rw [decide_eq_true hm,decide_eq_true h];rfl
abbrev if2 (L:Nat) (g0 g1:Option Addr):Value:=.iface 67 (.agg #[.slice g0 L L,.slice g1 L L])
abbrev if3 (L:Nat) (g0 g1 g2:Option Addr):Value:=.iface 73 (.agg #[.slice g0 L L,.slice g1 L L,.slice g2 L L])
def RdA (m L:Nat) (B:Nat->Bool) (Φ:Nat->World->Option Addr->Prop) (w:World) (e:Ending) (w':World):Prop:=
 Old w w'/\((rdB m B=false/\e=.returned (.tuple #[.nilIface,.bool false]))∨
  (rdB m B=true/\m=2/\∃g0 g1,e=.returned (.tuple #[if2 L g0 g1,.bool true])/\Φ 0 w' g0/\Φ 1 w' g1)∨
  (rdB m B=true/\m=3/\∃g0 g1 g2,e=.returned (.tuple #[if3 L g0 g1 g2,.bool true])/\Φ 0 w' g0/\Φ 1 w' g1/\Φ 2 w' g2))
theorem Tryz.infoRRs:(Tryz.prog.info? 65).map (fun i=>(i.zero,i.size,i.bytes))=some (some (.slice none 0 0),1,24):=by kernel_rfl
def RdK (W:World) (p m L k:Nat) (Φ:Nat->World->Option Addr->Prop):Prop:=
 ∃vs:List Value,W.ownsRow p 65 1 (.slice (some ⟨p,0,none⟩) m m) m vs/\∀i,i<k->∃g,vs[i]? = some (.slice g L L)/\Φ i W g
theorem RdK.lt {W:World} {p m L k:Nat} {Φ:Nat->World->Option Addr->Prop} (h:RdK W p m L k Φ):p<W.heap.size:=by
 obtain ⟨vs,ho,_⟩:=h;exact (ho.lt p rfl).2
theorem RdK.old {W W':World} {p m L k:Nat} {Φ:Nat->World->Option Addr->Prop} (hΦ:∀j W W' g,Φ j W g->Old W W'->Φ j W' g) (h:RdK W p m L k Φ) (q:Old W W'):RdK W' p m L k Φ:=by
 obtain ⟨vs,ho,hv⟩:=h;refine ⟨vs,⟨ho.1,?_⟩,fun i hi=>?_⟩
 ·rcases ho.2 with hn | ⟨p',cap,cur,e,hb,hgg,rest⟩
  ·exact .inl hn
  ·refine .inr ⟨p',cap,cur,e,hb,?_,rest⟩;rw [q.block p' (Array.getElem?_eq_some_iff.1 hgg).1];exact hgg
 ·obtain ⟨g,e,hg⟩:=hv i hi;exact ⟨g,e,hΦ i W W' g hg q⟩
theorem RdK.cell {W:World} {p m L k:Nat} {Φ:Nat->World->Option Addr->Prop} (h:RdK W p m L k Φ) (j:Nat) (hj:j<m):(∃y,W.cell? ⟨p,j,none⟩=some y)/\W.frozen? ⟨p,j,none⟩=false:=by
 obtain ⟨vs,ho,_⟩:=h;have hl:=ho.1;refine ⟨⟨vs[j]'(by omega),?_⟩,World.ownsRow.frozenAt ho j⟩;rw [World.ownsRow.cellAt ho j (by omega)];exact List.getElem?_eq_getElem _
theorem RdK.at {W:World} {p m L k:Nat} {Φ:Nat->World->Option Addr->Prop} (h:RdK W p m L k Φ) (j:Nat) (hj:j<k) (hm:k<=m):∃g,W.cell? ⟨p,j,none⟩=some (.slice g L L)/\Φ j W g:=by
 obtain ⟨vs,ho,hv⟩:=h;have hl:=ho.1;obtain ⟨g,e,hg⟩:=hv j hj;refine ⟨g,?_,hg⟩;rw [World.ownsRow.cellAt ho j (by omega)];exact e
theorem RdK.put {W:World} {p m L k:Nat} {Φ:Nat->World->Option Addr->Prop} (hΦ:∀j W g x,j<m->Φ j W g->Φ j (W.setCell ⟨p,k,none⟩ x) g) (h:RdK W p m L k Φ) (hk:k<m) (g:Option Addr) (hg:Φ k W g):RdK (W.setCell ⟨p,k,none⟩ (.slice g L L)) p m L (k+1) Φ:=by
 obtain ⟨vs,ho,hv⟩:=h;have hl:vs.length=m:=by have:=ho.1;omega
 refine ⟨_,(World.ownsRow.stored ho k (.slice g L L)).1,fun i hi=>?_⟩;rcases Nat.lt_or_ge i k with h1 | h1
 ·obtain ⟨g',e,hg'⟩:=hv i h1;exact ⟨g',by rw [List.getElem?_set_ne (by omega)];exact e,hΦ i W g' _ (by omega) hg'⟩
 ·obtain rfl:i=k:=by omega
  exact ⟨g,by rw [List.getElem?_set_self (by omega)],hΦ i W g _ hk hg⟩
theorem Qed (m:Nat) (w:World) (B:Bool) (hB:decide (2<=m/\m<=3)=B):Calls Tryz.prog 84 #[.int .i64 (m:Int)] w fun e w'=>e=.returned (.bool B)/\w'=w:=by
 by_cases h2:2<=m
 ·have d1:decide ((2:Int)≤(m:Int))=true:=decide_eq_true (by omega);have HBB:Hid (decide (m≤3)=B):=by show _ = _;rw [← hB];simp [h2]
  by_cases h3:m<=3
  ·have d3:decide ((m:Int)≤3)=true:=decide_eq_true (by omega);have d4:=decide_eq_true h3;obtain rfl:B=true:=by rw [← HBB.out];exact d4
   clear hB HBB h2 h3;go_enter Tryz.func84,Tryz.ntmps84;go_wp2_with fail;go_ret;exact ⟨rfl,rfl⟩
  ·have d3:decide ((m:Int)≤3)=false:=decide_eq_false (by omega);have d4:=decide_eq_false h3;obtain rfl:B=false:=by rw [← HBB.out];exact d4
   clear hB HBB h2 h3;go_enter Tryz.func84,Tryz.ntmps84;go_wp2_with fail;go_ret;exact ⟨rfl,rfl⟩
 ·have d1:decide ((2:Int)≤(m:Int))=false:=decide_eq_false (by omega);obtain rfl:B=false:=by rw [← hB];exact decide_eq_false (fun h=>h2 h.1)
  clear hB h2;go_enter Tryz.func84,Tryz.ntmps84;go_wp2_with fail;go_ret;exact ⟨rfl,rfl⟩
theorem Qoj (x0 x1 x2:Int) (a3:Option Addr) (l3 c3:Nat) (rg:Option Addr) (L:Nat) (b5:Bool) (a6:Option Addr) (l6 c6:Nat) (a1:Option Addr) (m cap1:Nat) (w:World) (B:Nat→Bool) (Φ:Nat→World→Option Addr→Prop) (us:Nat→Value)
  (hm:m<=1048576) (hus:∀j,j<m->∃a l c,us j=.slice a l c) (hc:0<m->∃b,a1=some ⟨b,0,none⟩/\b<w.heap.size/\∀j,j<m->w.cell? ⟨b,j,none⟩=some (us j))
  (hΦ:∀j W W' g,Φ j W g->Old W W'->Φ j W' g) (hΨ:∀p,w.heap.size+2=p->∀j W g k x,Φ j W g->Φ j (W.setCell ⟨p,k,none⟩ x) g)
  (cr:∀j,j<m->∀W,Old w W->w.heap.size+2<W.heap.size->Calls Tryz.prog 85 #[.slice rg L L,.agg #[.bool false,us j]] W fun e w'=>Old W w'/\((B j=false/\∃g,e=.returned (.tuple #[.slice g 0 0,.bool false]))∨(B j=true/\∃g,e=.returned (.tuple #[.slice g L L,.bool true])/\Φ j w' g))) :
  Calls Tryz.prog 56 #[.agg #[.int .i64 x0,.int .i64 x1,.int .i64 x2,.slice a3 l3 c3,.slice rg L L,.bool b5,.slice a6 l6 c6],.agg #[.slice a1 m cap1]] w (RdA m L B Φ w):=by
 have HA:Hid (Old w ((w.alloc (.cells #[.int .i64 x0,.int .i64 x1,.int .i64 x2,.slice a3 l3 c3,.slice rg L L,.bool b5,.slice a6 l6 c6] 62)).alloc (.cells #[.slice a1 m cap1] 30))):=((Old.refl w).alloc _).alloc _
 by_cases h23:2<=m/\m<=3
 rotate_left
 ·have HB:Hid (rdB m B=false):=by show _ = _;unfold rdB;rw [decide_eq_false h23];rfl
  have CT:=Qed m ((w.alloc (.cells #[.int .i64 x0,.int .i64 x1,.int .i64 x2,.slice a3 l3 c3,.slice rg L L,.bool b5,.slice a6 l6 c6] 62)).alloc (.cells #[.slice a1 m cap1] 30)) false (decide_eq_false h23);clear cr h23 hc hus;go_enter Tryz.func56,Tryz.ntmps56;go_wp2_with (go_at_call 84;refine CT.mono ?_;rintro e w1 ⟨rfl,rfl⟩);exact bodyPost_ret (v:=.tuple #[.nilIface,.bool false]) (by simp [results,Tryz.results56,go_sem]) rfl ⟨HA.out,.inl ⟨HB.out,rfl⟩⟩
 obtain ⟨b,rfl,hb,hcell⟩:=hc (by omega);obtain ⟨i0,hi,hz0,hz1,hz2⟩:=info_parts Tryz.infoRRs;have HC:=Qaa hcell;have HUS:=Qaa hus;have HCR:=Qaa cr;have HΦ:=Qaa hΦ;have HΨ:=Qaa (hΨ _ rfl);have hm3:=h23;have BR:Hid (Bk ((w.alloc (.cells #[.int .i64 x0,.int .i64 x1,.int .i64 x2,.slice a3 l3 c3,.slice rg L L,.bool b5,.slice a6 l6 c6] 62)).alloc (.cells #[.slice (some ⟨b,0,none⟩) m cap1] 30)) w.heap.size #[.int .i64 x0,.int .i64 x1,.int .i64 x2,.slice a3 l3 c3,.slice rg L L,.bool b5,.slice a6 l6 c6] 62):=(Bk.new' w _ _ rfl).alloc _;clear h23 hc hcell hus cr hΦ hΨ;have CT:=fun W=>Qed m W true (decide_eq_true hm3)
 go_enter Tryz.func56,Tryz.ntmps56;go_wp2_with (first | (go_at_call 84;refine (CT _).mono ?_;rintro e w1 ⟨rfl,rfl⟩) | (at_make;refine wpList_make_full _ rfl _ _ 71 rfl (w.heap.size+2) 65 i0 (.slice none 0 0) 1 Tryz.underlying71 hi hz0 hz1 .i64 .i64 _ _ m rfl rfl rfl rfl (by rw [hz2];omega) (by unfold maxLen;omega) (by simp) ?_;intro w2 hown hgrow;have t0:w2.cell? ⟨w.heap.size+1,0,none⟩=some (.slice (some ⟨b,0,none⟩) m cap1):=((Qbd hgrow).cell (p:=⟨w.heap.size+1,0,none⟩) (by simp)).trans (by simp [Qaj,Qbc])));have HRK0:Hid (RdK w2 (w.heap.size+2) m L 0 Φ):=⟨_,(by simpa using hown),fun i hi=>by omega⟩;have HG2:=Qaa (Old.trans HA.out (Qbd hgrow));have BR2:=Qaa (BR.out.old (Qbd hgrow));clear hown hgrow BR t0
 go_loopw [23] (fun i W=>∃k:Nat,k<=m/\i=.int .i64 k/\Hid (∀j,j<k->B j=true)/\Hid (RdK W (w.heap.size+2) m L k Φ)/\Hid (Old w W)/\Hid (Bk W w.heap.size #[.int .i64 x0,.int .i64 x1,.int .i64 x2,.slice a3 l3 c3,.slice rg L L,.bool b5,.slice a6 l6 c6] 62)) (fun i _=>m - (intOf i).toNat)
 case atStart=>exact ⟨0,by omega,rfl,fun j hj=>by omega,HRK0,HG2,BR2⟩
 case round=>
  obtain ⟨k,hk,rfl,H1,HRK,HG,BK⟩:=hrel;clear HRK0 HG2 BR2;have hsr:=HRK.out.lt
  by_cases hlt:k<m
  ·have d1:decide ((k:Int)<(m:Int))=true:=decide_eq_true (by omega);have c1:=(HG.out.cell (p:=⟨b,k,none⟩) hb).trans (HC.out k hlt);obtain ⟨au,lu,cu,eu⟩:=HUS.out k hlt;have cr:=HCR.out k hlt;rw [eu] at c1 cr;have s4:=BK.out.c (i:=4) rfl;have HBN:Hid (B k=false→rdB m B=false):=Qvo hlt
   have HBY:Hid (B k=true->∀j,j<k+1->B j=true):=fun h j hj=>by
    rcases Nat.lt_or_ge j k with h1 | h1
    ·exact H1.out j h1
    ·obtain rfl:j=k:=by omega
     exact h
   clear eu H1;go_wp2_with fail;refine (cr _ HG.out hsr).mono ?_
   rintro e w3 ⟨g3,h⟩;have HG3:=Qaa (Old.trans HG.out g3);have BK3:=Qaa (BK.out.old g3);have HR3:=Qaa (HRK.out.old HΦ.out g3);clear g3 c1 s4 cr;rcases h with ⟨hB,g,rfl⟩ | ⟨hB,g,rfl,hφ⟩
   ·have HB:=Qaa (HBN.out hB);clear hB;go_wp2_with fail;exact bodyPost_ret (v:=.tuple #[.nilIface,.bool false]) (by simp [results,Tryz.results56,go_sem]) rfl ⟨HG3.out,.inl ⟨HB.out,rfl⟩⟩
   ·have HN:=Qaa (HBY.out hB);obtain ⟨⟨y,q0⟩,f0⟩:=HR3.out.cell k hlt;have HR4:=Qaa (HR3.out.put (fun j W g x _ h=>HΨ.out j W g k x h) hlt g hφ);have HG4:Hid (Old w (w3.setCell ⟨w.heap.size+2,k,none⟩ (.slice g L L))):=HG3.out.own (p:=⟨w.heap.size+2,k,none⟩) (by simp) _;have BK4:Hid (Bk (w3.setCell ⟨w.heap.size+2,k,none⟩ (.slice g L L)) w.heap.size #[.int .i64 x0,.int .i64 x1,.int .i64 x2,.slice a3 l3 c3,.slice rg L L,.bool b5,.slice a6 l6 c6] 62):=(heap_setCell_other _ _ _ _ (by show w.heap.size≠w.heap.size+2;omega)).trans BK3.out;clear hB hφ HBN HBY;go_wp2_with fail;exact ⟨⟨k+1,by omega,by go_num,HN,HR4,HG4,BK4⟩,by simp [intOf];omega⟩
  ·have d1:decide ((k:Int)<(m:Int))=false:=decide_eq_false (by omega);obtain rfl:k=m:=by omega
   have HB:=Qaa (Qrw hm3 H1.out);rcases (show k=2∨k=3 by omega) with rfl | rfl
   ·obtain ⟨g0,e0,p0⟩:=HRK.out.at 0 (by omega) (by omega);obtain ⟨g1,e1,p1⟩:=HRK.out.at 1 (by omega) (by omega);have HP:Hid (Φ 0 wr g0∧Φ 1 wr g1):=⟨p0,p1⟩;clear p0 p1 H1 d1 hlt hk hm hm3;go_wp2_with fail
    go_quiet (fail)
    go_wp2_with fail;exact bodyPost_ret (v:=.tuple #[if2 L g0 g1,.bool true]) (by simp [results,Tryz.results56,go_sem]) rfl ⟨HG.out.drewN _,.inr (.inl ⟨HB.out,rfl,g0,g1,rfl,HΦ.out _ _ _ _ HP.out.1 ((Old.refl wr).drewN _),HΦ.out _ _ _ _ HP.out.2 ((Old.refl wr).drewN _)⟩)⟩
   ·obtain ⟨g0,e0,p0⟩:=HRK.out.at 0 (by omega) (by omega);obtain ⟨g1,e1,p1⟩:=HRK.out.at 1 (by omega) (by omega);obtain ⟨g2,e2,p2⟩:=HRK.out.at 2 (by omega) (by omega);have HP:Hid (Φ 0 wr g0∧Φ 1 wr g1∧Φ 2 wr g2):=⟨p0,p1,p2⟩;clear p0 p1 p2 H1 d1 hlt hk hm hm3;go_wp2_with fail
    go_quiet (fail)
    go_wp2_with fail;exact bodyPost_ret (v:=.tuple #[if3 L g0 g1 g2,.bool true]) (by simp [results,Tryz.results56,go_sem]) rfl ⟨HG.out.drewN _,.inr (.inr ⟨HB.out,rfl,g0,g1,g2,rfl,HΦ.out _ _ _ _ HP.out.1 ((Old.refl wr).drewN _),HΦ.out _ _ _ _ HP.out.2.1 ((Old.refl wr).drewN _),HΦ.out _ _ _ _ HP.out.2.2 ((Old.refl wr).drewN _)⟩)⟩
theorem RRs.same {W W':World} {g:Nat} {N:Int} {n:Bool} {ps:List Int} {Rf:Nat->Int} {us:Nat->Option Addr} {k:Nat} (h:RRs W g N n ps Rf us k) (e:W'.heap[g]? = W.heap[g]?):RRs W' g N n ps Rf us k:=by
 obtain ⟨ys,hl,ho,hy⟩:=h;refine ⟨ys,hl,⟨ho.1,?_⟩,hy⟩;rcases ho.2 with hn | ⟨p,cap,cur,e',hb,hgg,rest⟩
 ·exact .inl hn
 ·refine .inr ⟨p,cap,cur,e',hb,?_,rest⟩
  have:p=g:=by
   simp only [Value.slice.injEq,Option.some.injEq,Addr.mk.injEq] at e';exact e'.1.1.symm
  subst this;rw [e];exact hgg
def PaT (w:World) (b:Nat) (ps:List Int) (xsss:List (List (List Int))) (au:Nat->Option Addr) (cu:Nat->Nat) (uf:Nat->Nat->Option Addr) (cf:Nat->Nat->Nat):Prop:=
 b<w.heap.size/\∀j,j<xsss.length->w.cell? ⟨b,j,none⟩=some (.slice (au j) (xsss.getD j []).length (cu j))/\(0<(xsss.getD j []).length->Qgd w (.slice (au j) (xsss.getD j []).length (cu j)) ps (xsss.getD j []) (uf j) (cf j))
theorem PaT.old {w w':World} {b:Nat} {ps:List Int} {xsss:List (List (List Int))} {au:Nat->Option Addr} {cu:Nat->Nat} {uf:Nat->Nat->Option Addr} {cf:Nat->Nat->Nat} (h:PaT w b ps xsss au cu uf cf) (g:Old w w'):PaT w' b ps xsss au cu uf cf:=
 ⟨Nat.lt_of_lt_of_le h.1 g.size,fun j hj=>⟨(g.cell (p:=⟨b,j,none⟩) h.1).trans (h.2 j hj).1,fun h0=>((h.2 j hj).2 h0).old g⟩⟩
theorem TTT.at {xsss:List (List (List Int))} {W:World} {B:Nat->Prop} {v:Value} (ps:List Int) (h:TTT xsss W B [v]) (h0:0<xsss.length):∃b cap au cu uf cf,v=.slice (some ⟨b,0,none⟩) xsss.length cap/\PaT W b ps xsss au cu uf cf:=by
 rcases h with ⟨e,_⟩ | ⟨p,cap,vs,Bs,e,hc,hbb⟩
 ·omega
 simp at e;subst e;have hvl:vs.length=xsss.length:=by have:=hc.row.1;omega
 have key:∀j,∃q:Option Addr×Nat×(Nat->Option Addr)×(Nat->Nat),j<xsss.length->W.cell? ⟨p,j,none⟩=some (.slice q.1 (xsss.getD j []).length q.2.1)/\(0<(xsss.getD j []).length->Qgd W (.slice q.1 (xsss.getD j []).length q.2.1) ps (xsss.getD j []) q.2.2.1 q.2.2.2):=fun j=>by
  by_cases hj:j<xsss.length
  ·have h1:=hc.el j hj;rw [Qdk (by omega)] at h1;have ho:=TSS.whole h1;obtain ⟨a,c,e⟩:=TSS.slice h1
   have hcl:W.cell? ⟨p,j,none⟩=some (.slice a (xsss.getD j []).length c):=by
    rw [World.ownsRow.cellAt hc.row j (by omega),<- e];exact List.getElem?_eq_getElem _
   rw [e] at ho;rcases Nat.eq_zero_or_pos (xsss.getD j []).length with hz | hz
   ·exact ⟨(a,c,fun _=>none,fun _=>0),fun _=>⟨hcl,fun h=>by omega⟩⟩
   ·obtain ⟨us,cs,hat⟩:=ho.at ps hz;exact ⟨(a,c,us,cs),fun _=>⟨hcl,fun _=>hat⟩⟩
  ·exact ⟨(none,0,fun _=>none,fun _=>0),fun h=>absurd h hj⟩
 obtain ⟨f,hf⟩:=Classical.skolem.1 key;exact ⟨p,cap,fun j=>(f j).1,fun j=>(f j).2.1,fun j=>(f j).2.2.1,fun j=>(f j).2.2.2,rfl,Qaw hc.row,hf⟩
def PhG (base:Nat) (N:Int) (ps:List Int) (Rf:Nat->Int) (uf:Nat->Nat->Option Addr) (j:Nat) (W:World) (g:Option Addr):Prop:=
 ∃gn,g=some ⟨gn,0,none⟩/\base+2<gn/\RRs W gn N false ps Rf (uf j) ps.length
theorem PhG.old {base:Nat} {N:Int} {ps:List Int} {Rf:Nat->Int} {uf:Nat->Nat->Option Addr} (j:Nat) (W W':World) (g:Option Addr) (h:PhG base N ps Rf uf j W g) (q:Old W W'):PhG base N ps Rf uf j W' g:=by
 obtain ⟨gn,e,hl,hr⟩:=h;exact ⟨gn,e,hl,hr.old q⟩
def ciB (N:Int) (ps:List Int) (xsss:List (List (List Int))):Bool:=rdB xsss.length (fun j=>rwB N ps (xsss.getD j []))
theorem Qrx (N T E:Int) (a3:Option Addr) (l3 c3:Nat) (gr:Nat) (b5:Bool) (a6:Option Addr) (l6 c6:Nat) (a1:Option Addr) (cap1:Nat) (w:World) (ps:List Int) (Rf:Nat→Int) (xsss:List (List (List Int))) (au:Nat→Option Addr) (cu:Nat→Nat) (uf:Nat→Nat→Option Addr) (cf:Nat→Nat→Nat)
  (hm:xsss.length<=1048576) (hr:∀r∈xsss,r.length<=1048576/\∀q∈r,q.length<=1048576) (hpa:0<xsss.length->∃b,a1=some ⟨b,0,none⟩/\PaT w b ps xsss au cu uf cf)
  (hrg:Rgs w gr N ps Rf ps.length) (hsp:spB N ps=true) :
  Calls Tryz.prog 56 #[.agg #[.int .i64 N,.int .i64 T,.int .i64 E,.slice a3 l3 c3,.slice (some ⟨gr,0,none⟩) ps.length ps.length,.bool b5,.slice a6 l6 c6],.agg #[.slice a1 xsss.length cap1]] w (RdA xsss.length ps.length (fun j=>rwB N ps (xsss.getD j [])) (PhG w.heap.size N ps Rf uf) w):=by
 refine Qoj N T E a3 l3 c3 _ ps.length b5 a6 l6 c6 a1 xsss.length cap1 w _ _ (fun j=>.slice (au j) (xsss.getD j []).length (cu j)) hm (fun j _=>⟨_,_,_,rfl⟩) (fun h0=>?_) (fun j W W' g h q=>PhG.old j W W' g h q) (fun p hp j W g k x h=>?_) (fun j hj W q hW=>?_)
 ·obtain ⟨b,e,hp⟩:=hpa h0;exact ⟨b,e,hp.1,fun j hj=>(hp.2 j hj).1⟩
 ·subst hp;obtain ⟨gn,e,hl,hr⟩:=h;exact ⟨gn,e,hl,hr.same (heap_setCell_other _ _ _ _ (by show gn≠w.heap.size+2;omega))⟩
 ·obtain ⟨b,e,hp⟩:=hpa (by omega);have hmem:xsss.getD j []∈xsss:=by simp [List.getD,hj]
  refine (Qm0 N false ps (xsss.getD j []) Rf (uf j) (cf j) gr (au j) (cu j) W (hrg.old q) hsp (hr _ hmem).1 (hr _ hmem).2 (fun h0=>((hp.2 j hj).2 h0).old q)).mono ?_
  rintro e w' ⟨g',h⟩;refine ⟨g',?_⟩;rcases h with ⟨hB,rfl⟩ | ⟨hB,gn,hgn,rfl,hrr⟩
  ·exact .inl ⟨hB,_,rfl⟩
  ·exact .inr ⟨hB,_,rfl,gn,rfl,by omega,hrr⟩
theorem Qug (x0 x1 x2:Int) (a3:Option Addr) (l3 c3:Nat) (b5:Bool) (a6:Option Addr) (l6 c6:Nat) (a1:Option Addr) (cap1:Nat) (w:World) (ps:List Int) (xsss:List (List (List Int))) (au:Nat→Option Addr) (cu:Nat→Nat) (uf:Nat→Nat→Option Addr) (cf:Nat→Nat→Nat)
  (hm:xsss.length<=1048576) (hpa:0<xsss.length->∃b,a1=some ⟨b,0,none⟩/\PaT w b ps xsss au cu uf cf) :
  Calls Tryz.prog 56 #[.agg #[.int .i64 x0,.int .i64 x1,.int .i64 x2,.slice a3 l3 c3,.slice none 0 0,.bool b5,.slice a6 l6 c6],.agg #[.slice a1 xsss.length cap1]] w (RdA xsss.length 0 (fun j=>decide ((xsss.getD j []).length=0)) (fun _ _ _=>True) w):=by
 refine Qoj x0 x1 x2 a3 l3 c3 none 0 b5 a6 l6 c6 a1 xsss.length cap1 w _ _ (fun j=>.slice (au j) (xsss.getD j []).length (cu j)) hm (fun j _=>⟨_,_,_,rfl⟩) (fun h0=>?_) (fun j W W' g h q=>trivial) (fun p hp j W g k x h=>trivial) (fun j hj W q hW=>?_)
 ·obtain ⟨b,e,hp⟩:=hpa h0;exact ⟨b,e,hp.1,fun j hj=>(hp.2 j hj).1⟩
 ·refine (Qhh false (xsss.getD j []).length (au j) (cu j) W).mono ?_
  rintro e w' ⟨g',h⟩;refine ⟨g',?_⟩;rcases h with ⟨hB,rfl⟩ | ⟨hB,g,rfl⟩
  ·exact .inl ⟨hB,_,rfl⟩
  ·exact .inr ⟨hB,g,rfl,trivial⟩
end Go.Proofs.YtjjohooeehjjcaaGreatDoor
namespace Go.Proofs.YtjjohooeehjjcaaGreatDoor
open Go.ChangeShapes Go.WideShapes Go.ChangeAt Go.RowKit
open M2
theorem Qy5 {N T E:Int} {xs:List Int} (h:prB N T E xs=true):2<=T/\T<=65536:=by
 unfold prB inQ at h;simp only [Bool.and_eq_true,decide_eq_true_eq] at h;omega
theorem Qok {N T E:Int} {xs:List Int} (h:prB N T E xs=true):spB N xs=true:=by
 unfold prB at h;rw [Bool.and_eq_true] at h;exact h.1
end Go.Proofs.YtjjohooeehjjcaaGreatDoor
namespace Go.Proofs.YtjjohooeehjjcaaGreatDoor
open Go.ChangeShapes Go.WideShapes Go.ChangeAt Go.RowKit
theorem Qgh (N T E:Int) (ps:List Int) (xsss:List (List (List Int))) (v u:Value) (w:World) (hv:Row w v ps) (hu:Qid w u xsss) (hl:xsss.length≤1048576) (hr:∀r∈xsss,r.length≤1048576∧∀q∈r,q.length≤1048576) (hs:spB N ps=true) :
  Calls Tryz.prog 18 #[.agg #[.int .i64 N,.int .i64 T,.int .i64 E,v],.agg #[u]] w fun e w'=>e=.returned (.bool (ciB N ps xsss))/\Old w w':=by
 have HV:=Qaa hv;have HU:=Qaa hu;have HR:=Qaa hr;have HS:=Qaa hs;have KI:=fun W=>Qqz (xsss.length:Int) 2 3 W
 obtain ⟨a0,c0,ev⟩:=hv.slice;obtain ⟨a1,c1,eu⟩:=hu.slice;subst ev eu;have HA:Hid (Old w ((w.alloc (.cells #[.int .i64 N,.int .i64 T,.int .i64 E,.slice a0 ps.length c0] 33)).alloc (.cells #[.slice a1 xsss.length c1] 30))):=((Old.refl w).alloc _).alloc _;have BA:Hid (Bk ((w.alloc (.cells #[.int .i64 N,.int .i64 T,.int .i64 E,.slice a0 ps.length c0] 33)).alloc (.cells #[.slice a1 xsss.length c1] 30)) w.heap.size #[.int .i64 N,.int .i64 T,.int .i64 E,.slice a0 ps.length c0] 33):=(Bk.new' w _ _ rfl).alloc _;clear hv hu hr hs
 by_cases hm:2<=xsss.length/\xsss.length<=3
 case neg=>
  have HB:Hid (ciB N ps xsss=false):=by show _ = _;unfold ciB rdB;rw [decide_eq_false hm];rfl
  have ei:inQ (xsss.length:Int) 2 3=false:=by
   unfold inQ;rw [Bool.and_eq_false_iff]
   by_cases h2:2<=xsss.length
   ·exact .inr (decide_eq_false (by omega))
   ·exact .inl (decide_eq_false (by omega))
  rw [ei] at KI;clear hm ei;go_enter Tryz.func18,Tryz.ntmps18;go_wp2_with fail;refine (KI _).mono ?_
  rintro e w1 ⟨rfl,hw⟩;subst hw;go_wp2_with fail;go_ret;exact ⟨Qb7 HB.out.symm,HA.out⟩
 have ei:inQ (xsss.length:Int) 2 3=true:=by
  unfold inQ;rw [decide_eq_true (show (2:Int)<=(xsss.length:Int) by omega),decide_eq_true (show (xsss.length:Int)<=3 by omega)];rfl
 rw [ei] at KI;have HNo:Hid (∀k,k<xsss.length->rwB N ps (xsss.getD k [])=false->ciB N ps xsss=false):=fun k hk h=>Qvo (B:=fun j=>rwB N ps (xsss.getD j [])) hk h
 have HYes:Hid ((∀k,k<xsss.length->rwB N ps (xsss.getD k [])=true)->ciB N ps xsss=true):=fun h=>Qrw hm h
 generalize ciB N ps xsss=R at *;clear ei;go_enter Tryz.func18,Tryz.ntmps18;go_wp2_with fail;refine (KI _).mono ?_
 rintro e w1 ⟨rfl,hw⟩;subst hw;go_wp2_with fail
 go_loopw [15] (fun i W=>∃k:Nat,k<=xsss.length/\i=.int .i64 k/\Hid (∀j,j<k->rwB N ps (xsss.getD j [])=true)/\Hid (Old w W)/\Hid (Bk W w.heap.size #[.int .i64 N,.int .i64 T,.int .i64 E,.slice a0 ps.length c0] 33)) (fun i _=>xsss.length - (intOf i).toNat)
 case atStart=>exact ⟨0,by omega,rfl,fun j hj=>by omega,HA,BA⟩
 case round=>
  obtain ⟨k,hk,rfl,H1,HG,BK⟩:=hrel;clear HA BA
  by_cases hlt:k<xsss.length
  ·have d1:decide ((k:Int)<(xsss.length:Int))=true:=decide_eq_true (by omega);rcases HU.out with ⟨a,cap,e,e2⟩ | ⟨b,o,cap,us,e,hb2,h3,hc⟩
   ·subst e2;simp at hlt
   simp only [Value.slice.injEq,true_and] at e;obtain ⟨rfl,rfl⟩:=e;obtain ⟨c1',r1⟩:=hc k hlt;obtain ⟨a2,cap2,e1⟩:=r1.slice;rw [e1] at c1' r1;have q1:=(HG.out.cell (p:=⟨b,o+k,none⟩) hb2).trans c1';have R1:=Qaa (r1.old HG.out);have hmem:xsss.getD k []∈xsss:=by simp [List.getD,hlt]
   have hrl:=HR.out _ hmem;have HN:=Qaa (HNo.out k hlt)
   have HY:Hid (rwB N ps (xsss.getD k [])=true->∀j,j<k+1->rwB N ps (xsss.getD j [])=true):=fun h j hj=>by
    rcases Nat.lt_or_ge j k with h1 | h1
    ·exact H1.out j h1
    ·obtain rfl:j=k:=by omega
     exact h
   have c5:=fun W (h1:Row W (.slice a0 ps.length c0) ps) h2=>Qmu N ps (xsss.getD k []) (.slice a0 ps.length c0) (.slice a2 (xsss.getD k []).length cap2) W h1 h2 hrl.1 hrl.2 HS.out
   obtain ⟨r,hr⟩:∃r,rwB N ps (xsss.getD k [])=r:=⟨_,rfl⟩
   rw [hr] at c5 HN HY;generalize xsss.getD k []=xss at *;have z0:=BK.out.c (i:=0) rfl;have z1:=BK.out.c (i:=1) rfl;have z2:=BK.out.c (i:=2) rfl;have z3:=BK.out.c (i:=3) rfl;clear hc c1' r1 e1 hmem hr H1 hrl;go_wp2_with fail;refine (Qby N T E a0 ps.length c0 _).mono ?_
   rintro e w2 ⟨rfl,g2⟩;have HG2:=Qaa (Old.trans HG.out g2);have BK2:=Qaa (BK.out.old g2);have R2:=Qaa (R1.out.old g2);clear g2 z0 z1 z2 z3 q1;go_wp2_with fail;refine (c5 _ (HV.out.old HG2.out) R2.out).mono ?_
   rintro e w3 ⟨rfl,g3⟩;have HG3:=Qaa (Old.trans HG2.out g3);have BK3:=Qaa (BK2.out.old g3);clear g3 c5
   cases r
   ·have HB:=Qaa (HN.out rfl);go_wp2_with fail;go_ret;exact ⟨Qb7 HB.out.symm,HG3.out⟩
   ·have HB:=Qaa (HY.out rfl);go_wp2_with fail;exact ⟨⟨k+1,by omega,by go_num,HB,HG3,BK3⟩,by simp [intOf];omega⟩
  ·have d1:decide ((k:Int)<(xsss.length:Int))=false:=decide_eq_false (by omega);obtain rfl:k=xsss.length:=by omega
   have HB:=Qaa (HYes.out H1.out);go_wp2_with fail;go_ret;exact ⟨Qb7 HB.out.symm,HG.out⟩
theorem Qhk (N T E:Int) (ps:List Int) (xsss:List (List (List Int))) (v u:Value) (w:World) (hv:Row w v ps) (hf:Fit v) (hu:Qid w u xsss) (hlp:ps.length≤9223372036854775807) (hl:xsss.length≤1048576) (hr:∀r∈xsss,r.length≤1048576∧∀q∈r,q.length≤1048576) (hx:∀x∈ps,-9223372036854775808≤x∧x≤9223372036854775807) :
  Calls Tryz.prog 17 #[.agg #[.int .i64 N,.int .i64 T,.int .i64 E,v],.agg #[u]] w fun e w'=>e=.returned (.bool (prB N T E ps&&ciB N ps xsss))/\Old w w':=by
 have K1:∀W,Old w W->Calls Tryz.prog 37 #[.agg #[.int .i64 N,.int .i64 T,.int .i64 E,v]] W fun e w'=>e=.returned (.bool (prB N T E ps))/\Old W w':=fun W g=>Qhc N T E ps _ W (hv.old g) hf hlp hx
 have K2:prB N T E ps=true->∀W,Old w W->Calls Tryz.prog 18 #[.agg #[.int .i64 N,.int .i64 T,.int .i64 E,v],.agg #[u]] W fun e w'=>e=.returned (.bool (ciB N ps xsss))/\Old W w':=fun h W g=>Qgh N T E ps xsss v u W (hv.old g) (hu.old g) hl hr (Qok h)
 obtain ⟨a0,c0,ev⟩:=hv.slice;obtain ⟨a1,c1,eu⟩:=hu.slice;subst ev eu;have HA:Hid (Old w ((w.alloc (.cells #[.int .i64 N,.int .i64 T,.int .i64 E,.slice a0 ps.length c0] 33)).alloc (.cells #[.slice a1 xsss.length c1] 30))):=((Old.refl w).alloc _).alloc _;have BA:Hid (Bk ((w.alloc (.cells #[.int .i64 N,.int .i64 T,.int .i64 E,.slice a0 ps.length c0] 33)).alloc (.cells #[.slice a1 xsss.length c1] 30)) w.heap.size #[.int .i64 N,.int .i64 T,.int .i64 E,.slice a0 ps.length c0] 33):=(Bk.new' w _ _ rfl).alloc _;have BB:Hid (Bk ((w.alloc (.cells #[.int .i64 N,.int .i64 T,.int .i64 E,.slice a0 ps.length c0] 33)).alloc (.cells #[.slice a1 xsss.length c1] 30)) (w.heap.size+1) #[.slice a1 xsss.length c1] 30):=Bk.new' _ _ _ (by simp);clear hv hf hu hr hx;generalize prB N T E ps=s1 at *;generalize ciB N ps xsss=s2 at *
 cases s1
 ·clear K2;go_enter Tryz.func17,Tryz.ntmps17;go_wp2_with fail;refine (K1 _ HA.out).mono ?_
  rintro e w1 ⟨rfl,g1⟩;have HG1:Hid (Old w w1):=Old.trans HA.out g1;clear g1;go_wp2_with fail;go_ret;exact ⟨rfl,HG1.out⟩
 ·replace K2:=K2 rfl
  go_enter Tryz.func17,Tryz.ntmps17;go_wp2_with fail;refine (K1 _ HA.out).mono ?_
  rintro e w1 ⟨rfl,g1⟩;have HG1:Hid (Old w w1):=Old.trans HA.out g1;have B1:Hid (Bk w1 w.heap.size #[.int .i64 N,.int .i64 T,.int .i64 E,.slice a0 ps.length c0] 33):=BA.out.old g1;have B2:Hid (Bk w1 (w.heap.size+1) #[.slice a1 xsss.length c1] 30):=BB.out.old g1;clear g1;have z0:=B1.out.c (i:=0) rfl;have z1:=B1.out.c (i:=1) rfl;have z2:=B1.out.c (i:=2) rfl;have z3:=B1.out.c (i:=3) rfl;have z4:=B2.out.c (i:=0) rfl;go_wp2_with fail;refine (K2 _ HG1.out).mono ?_
  rintro e w2 ⟨rfl,g2⟩;have HG2:Hid (Old w w2):=Old.trans HG1.out g2;clear g2 z0 z1 z2 z3 z4;go_wp2_with fail;go_ret;exact ⟨by simp,HG2.out⟩
end Go.Proofs.YtjjohooeehjjcaaGreatDoor
namespace Go.Proofs.YtjjohooeehjjcaaGreatDoor
theorem dv {m D J:Nat} (h1:J*D<=m) (h2:m<J*D+D):m/D=J:=by
 apply Nat.div_eq_of_lt_le
 ·exact h1
 ·rw [Nat.add_mul,Nat.one_mul];exact h2
end Go.Proofs.YtjjohooeehjjcaaGreatDoor
