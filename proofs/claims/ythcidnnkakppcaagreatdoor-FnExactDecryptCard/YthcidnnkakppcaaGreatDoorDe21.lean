/- Proved: what its theorems say. -/
import Derived.Test.YthcidnnkakppcaaGreatDoorDe09
import Derived.Test.YthcidnnkakppcaaGreatDoorDe13
import Derived.Test.YthcidnnkakppcaaGreatDoorDe16
import Derived.Test.YthcidnnkakppcaaGreatDoorDe20
import Derived.Test.YthcidnnkakppcaaGreatDoorDe23
set_option linter.unusedVariables false
set_option linter.unusedSimpArgs false
set_option maxHeartbeats 8000000
set_option maxRecDepth 100000
namespace Go.Proofs.YthcidnnkakppcaaGreatDoor
open Go.ChangeShapes Go.WideShapes Go.ChangeAt Go.RowKit
abbrev rk0:Array Value:=#[.int .i64 0,.int .i64 0,.int .i64 0,.slice none 0 0,.slice none 0 0,.bool false,.slice none 0 0]
def Qgv (i:Nat):Nat:=[14,15,16,17,18,19,20].getD i 0
theorem Quc:∀i,i<7->Qgv i<21:=by decide
theorem Qjl:∀i,i<7->∀j,j<7->Qgv i=Qgv j->i=j:=by decide
theorem Qud:∀s,s<14->∀i,i<7->Qgv i≠s:=by decide
def qRk (N T E:Int) (v3 R:Value) (SZ:Array Value) (ds:List Int) (k base:Nat) (i:Nat) (W:World) (x:Value):Prop:=
 match i with
 | 0=>x=.agg #[.int .i64 N,.int .i64 T,.int .i64 E,v3]
 | 1=>x=R
 | 2=>x=.pointer (some ⟨k,3,none⟩)
 | 3=>x=v3
 | 4=>x=.agg SZ
 | 5=>∃a c,x=.agg #[.bool false,.slice a ds.length c]/\Own W base (.slice a ds.length c) ds
 | 6=>∃a c,x=.agg #[.int .i64 N,.int .i64 T,.int .i64 E,v3,R,.bool false,.slice a ds.length c]/\Own W base (.slice a ds.length c) ds
 | _=>True
theorem Q0z (N T E:Int) (v3 R:Value) (SZ:Array Value) (ds:List Int) (k base:Nat) (i:Nat) (W W':World) (x:Value) (h:qRk N T E v3 R SZ ds k base i W x) (q:Old W W'):qRk N T E v3 R SZ ds k base i W' x:=by
 unfold qRk at h ⊢;split at h
 case h_6=>
  obtain ⟨a,c,e,o⟩:=h;exact ⟨a,c,e,o.old q⟩
 case h_7=>
  obtain ⟨a,c,e,o⟩:=h;exact ⟨a,c,e,o.old q⟩
 all_goals first | exact h | trivial
theorem Q00 (w0:World) (k kr:Nat) (N T E:Int) (a3:Option Addr) (l3 c3:Nat) (ar:Option Addr) (lr cr:Nat) (SZ:Array Value) (ds:List Int) (bA:w0.heap[k]? = some (.cells #[.int .i64 N,.int .i64 T,.int .i64 E,.slice a3 l3 c3] 32 (0,0))) (bK:w0.heap[kr]? = some (.cells rk0 67 (0,0)))
  (KP:∀W,Old w0 W->Calls Tryz.prog 61 #[.slice a3 l3 c3] W fun e w'=>∃v,e=.returned v/\v=.agg SZ/\Old W w')
  (KW:∀W,Calls Tryz.prog 60 #[.bool false,.agg SZ] W fun e w'=>∃v,e=.returned v/\∃a c,v=.agg #[.bool false,.slice a ds.length c]/\Old W w'/\Own w' W.heap.size (.slice a ds.length c) ds)
  (Q:Exit->Act->World->Prop) (a0:Act) (hsz:a0.tmps.size=21)
  (ha1:a0.eval (.tmp 1)=.pointer (some ⟨k,0,none⟩)) (ha2:a0.eval (.tmp 2)=.pointer (some ⟨kr,0,none⟩)) (ha4:a0.eval (.tmp 4)=.slice ar lr cr)
  (HK:Hid (∀(us:Nat->Value) W a c,Old w0 W->Own W w0.heap.size (.slice a ds.length c) ds->Q .normal ((Qb6 a0 ((List.range 7).map fun i=>(Qgv i,us i))).put (some 3) (.bool true)) (W.setRow kr #[.int .i64 N,.int .i64 T,.int .i64 E,.slice a3 l3 c3,.slice ar lr cr,.bool false,.slice a ds.length c]))) :
  Code.wp Tryz.prog ((Tryz.f31.body.bind (Qa6 4)).getD .skip) Q a0 w0:=by
 conv=>arg 2;whnf
 have un:=Qud;have pa:∀W,Old w0 W->W.heap[k]? = some (.cells #[.int .i64 N,.int .i64 T,.int .i64 E,.slice a3 l3 c3] 32 (0,0)):=fun W g=>(g.block k (lt_of_some bA)).trans bA
 have pk:∀W,Old w0 W->W.heap[kr]? = some (.cells rk0 67 (0,0)):=fun W g=>(g.block kr (lt_of_some bK)).trans bK
 have iA:(Tryz.prog.info? 32).map (·.size)=some 4:=by kernel_rfl
 refine Qiy 7 rfl rfl rfl (by kernel_rfl) (by kernel_rfl) (by kernel_rfl) (by kernel_rfl) (by kernel_rfl) Qgv (fun i hi=>by rw [hsz];exact Quc i hi) (fun i j hi hj=>Qjl i hi j hj) (qRk N T E (.slice a3 l3 c3) (.slice ar lr cr) SZ ds k w0.heap.size) (Q0z N T E (.slice a3 l3 c3) (.slice ar lr cr) SZ ds k w0.heap.size) ?_ ?_
 ·refine ⟨?_,?_,?_,?_,?_,?_,?_,trivial⟩
  ·intro a W g hF hd;refine Qfa (k:=k) ((hF.same 1 (un 1 (by decide))).trans ha1) (pa W g) Tryz.underlying32 rfl iA ?_
   exact ⟨_,rfl,Old.refl _,rfl⟩
  ·intro a W g hF hd;refine Qgb ?_
   exact ⟨_,rfl,Old.refl _,(hF.same 4 (un 4 (by decide))).trans ha4⟩
  ·intro a W g hF hd;have h1:a.eval (.tmp 1)=.pointer (some ⟨k,0,none⟩):=(hF.same 1 (un 1 (by decide))).trans ha1;obtain ⟨ρ,hρ⟩:∃ρ,a.eval=ρ:=⟨_,rfl⟩
   rw [hρ] at h1;refine Qal ρ hρ (.pointer (some ⟨k,3,none⟩)) ?_ ⟨_,rfl,Old.refl _,rfl⟩
   clear g hF hd hρ ha1 ha2 ha4 HK un KP KW bA bK pa pk
   go_simp
  ·intro a W g hF hd;have h1:a.eval (.tmp 16)=.pointer (some ⟨k,3,none⟩):=hd ⟨2,.data⟩ (by simp) rfl;have hc:W.cell? ⟨k,3,none⟩=some (.slice a3 l3 c3):=by rw [cell_of_row _ _ _ _ _ _ (pa W g)];rfl
   obtain ⟨ρ,hρ⟩:∃ρ,a.eval=ρ:=⟨_,rfl⟩
   rw [hρ] at h1;refine Qal ρ hρ (.slice a3 l3 c3) ?_ ⟨_,rfl,Old.refl _,rfl⟩
   clear g hF hd hρ ha1 ha2 ha4 HK un KP KW bA bK pa pk
   go_simp
  ·intro a W g hF hd;have h1:a.eval (.tmp 17)=.slice a3 l3 c3:=hd ⟨3,.data⟩ (by simp) rfl;refine Qa3 Tryz.call61 (vs:=#[.slice a3 l3 c3]) (by simp [h1]) (KP W g) ?_
   rintro x w' ⟨rfl,g'⟩;exact ⟨_,rfl,g',rfl⟩
  ·intro a W g hF hd;have h1:a.eval (.tmp 18)=.agg SZ:=hd ⟨4,.data⟩ (by simp) rfl;refine Qa3 Tryz.call60 (vs:=#[.bool false,.agg SZ]) (by simp [h1];rfl) (KW W) ?_
   rintro x w' ⟨a6,c6,rfl,g',o'⟩;exact ⟨_,rfl,g',a6,c6,rfl,o'.low g.size⟩
  ·intro a W g hF hd;have h0:a.eval (.tmp 14)=.agg #[.int .i64 N,.int .i64 T,.int .i64 E,.slice a3 l3 c3]:=hd ⟨0,.data⟩ (by simp) rfl;have h1:a.eval (.tmp 15)=.slice ar lr cr:=hd ⟨1,.data⟩ (by simp) rfl;obtain ⟨a6,c6,h5,o6⟩:∃a6 c6,a.eval (.tmp 19)=.agg #[.bool false,.slice a6 ds.length c6]∧Own W w0.heap.size (.slice a6 ds.length c6) ds:=hd ⟨5,.data⟩ (by simp) rfl
   obtain ⟨ρ,hρ⟩:∃ρ,a.eval=ρ:=⟨_,rfl⟩
   rw [hρ] at h0 h1 h5;refine Qal ρ hρ (.agg #[.int .i64 N,.int .i64 T,.int .i64 E,.slice a3 l3 c3,.slice ar lr cr,.bool false,.slice a6 ds.length c6]) ?_ ⟨_,rfl,Old.refl _,a6,c6,rfl,o6⟩
   clear g hF hd hρ ha1 ha2 ha4 HK un KP KW bA bK pa pk o6
   go_simp
 ·intro a W g hF hq;obtain ⟨a6,c6,h6,o6⟩:∃a6 c6,a.eval (.tmp 20)=.agg #[.int .i64 N,.int .i64 T,.int .i64 E,.slice a3 l3 c3,.slice ar lr cr,.bool false,.slice a6 ds.length c6]∧Own W w0.heap.size (.slice a6 ds.length c6) ds:=hq 6 (by decide)
  have h2:a.eval (.tmp 2)=.pointer (some ⟨kr,0,none⟩):=(hF.same 2 (un 2 (by decide))).trans ha2;have hp:=Qeu hF (fun i j hi hj=>Qjl i hi j hj);have hk2:=HK.out (fun i=>a.eval (.tmp (Qgv i))) W a6 c6 g o6;rw [<- hp] at hk2;refine Qqa (k:=kr) h2 h6 (pk W g) (by kernel_rfl) rfl (by simp [Value.oneCell']) ?_
  exact Qeh hk2
end Go.Proofs.YthcidnnkakppcaaGreatDoor
namespace Go.Proofs.YthcidnnkakppcaaGreatDoor
open Go.ChangeShapes Go.WideShapes Go.ChangeAt Go.RowKit
open M2
theorem Qot (n:Nat) (w:World) (hn:cnt n≤80) :
  Calls Tryz.prog 60 #[.bool false,.agg (szV n)] w fun e w'=>∃v,e=.returned (.agg #[.bool false,v])/\Old w w'/\Own w' w.heap.size v (toI (dig n)):=by
 by_cases h0:n=0
 ·subst h0;refine (Qdu false w).mono ?_
  rintro e w1 ⟨rfl,g1⟩;refine ⟨_,rfl,g1,?_⟩;rw [Qax];exact Qt4 _ _
 ·exact Qci false n w h0 hn
theorem Q01 {w:World} {k:Nat} {x0 x1 x2 x3 x4 x5 x6:Value} {t:TypeId} (h:Bk w k #[x0,x1,x2,x3,x4,x5,x6] t) (y0 y1 y2 y3 y4 y5 y6:Value):Bk (((((((w.setCell ⟨k,0,none⟩ y0).setCell ⟨k,1,none⟩ y1).setCell ⟨k,2,none⟩ y2).setCell ⟨k,3,none⟩ y3).setCell ⟨k,4,none⟩ y4).setCell ⟨k,5,none⟩ y5).setCell ⟨k,6,none⟩ y6) k #[y0,y1,y2,y3,y4,y5,y6] t:=by
 have h0:Bk (w.setCell ⟨k,0,none⟩ y0) k #[y0,x1,x2,x3,x4,x5,x6] t:=(heap_setCell_same w k 0 _ _ y0 h).trans rfl;have h1:Bk ((w.setCell ⟨k,0,none⟩ y0).setCell ⟨k,1,none⟩ y1) k #[y0,y1,x2,x3,x4,x5,x6] t:=(heap_setCell_same (w.setCell ⟨k,0,none⟩ y0) k 1 _ _ y1 h0).trans rfl;have h2:Bk (((w.setCell ⟨k,0,none⟩ y0).setCell ⟨k,1,none⟩ y1).setCell ⟨k,2,none⟩ y2) k #[y0,y1,y2,x3,x4,x5,x6] t:=(heap_setCell_same ((w.setCell ⟨k,0,none⟩ y0).setCell ⟨k,1,none⟩ y1) k 2 _ _ y2 h1).trans rfl;have h3:Bk ((((w.setCell ⟨k,0,none⟩ y0).setCell ⟨k,1,none⟩ y1).setCell ⟨k,2,none⟩ y2).setCell ⟨k,3,none⟩ y3) k #[y0,y1,y2,y3,x4,x5,x6] t:=(heap_setCell_same (((w.setCell ⟨k,0,none⟩ y0).setCell ⟨k,1,none⟩ y1).setCell ⟨k,2,none⟩ y2) k 3 _ _ y3 h2).trans rfl;have h4:Bk (((((w.setCell ⟨k,0,none⟩ y0).setCell ⟨k,1,none⟩ y1).setCell ⟨k,2,none⟩ y2).setCell ⟨k,3,none⟩ y3).setCell ⟨k,4,none⟩ y4) k #[y0,y1,y2,y3,y4,x5,x6] t:=(heap_setCell_same ((((w.setCell ⟨k,0,none⟩ y0).setCell ⟨k,1,none⟩ y1).setCell ⟨k,2,none⟩ y2).setCell ⟨k,3,none⟩ y3) k 4 _ _ y4 h3).trans rfl;have h5:Bk ((((((w.setCell ⟨k,0,none⟩ y0).setCell ⟨k,1,none⟩ y1).setCell ⟨k,2,none⟩ y2).setCell ⟨k,3,none⟩ y3).setCell ⟨k,4,none⟩ y4).setCell ⟨k,5,none⟩ y5) k #[y0,y1,y2,y3,y4,y5,x6] t:=(heap_setCell_same (((((w.setCell ⟨k,0,none⟩ y0).setCell ⟨k,1,none⟩ y1).setCell ⟨k,2,none⟩ y2).setCell ⟨k,3,none⟩ y3).setCell ⟨k,4,none⟩ y4) k 5 _ _ y5 h4).trans rfl;have h6:Bk (((((((w.setCell ⟨k,0,none⟩ y0).setCell ⟨k,1,none⟩ y1).setCell ⟨k,2,none⟩ y2).setCell ⟨k,3,none⟩ y3).setCell ⟨k,4,none⟩ y4).setCell ⟨k,5,none⟩ y5).setCell ⟨k,6,none⟩ y6) k #[y0,y1,y2,y3,y4,y5,y6] t:=(heap_setCell_same ((((((w.setCell ⟨k,0,none⟩ y0).setCell ⟨k,1,none⟩ y1).setCell ⟨k,2,none⟩ y2).setCell ⟨k,3,none⟩ y3).setCell ⟨k,4,none⟩ y4).setCell ⟨k,5,none⟩ y5) k 6 _ _ y6 h5).trans rfl;exact h6
def RkA (N T E:Int) (xs:List Int) (Rf:Nat->Int) (v:Value) (w:World) (e:Ending) (w':World):Prop:=
 Old w w'/\((prB N T E xs=false/\e=.returned (.tuple #[.agg rk0,.bool false]))∨(prB N T E xs=true/\∃g a l c,w.heap.size<=g/\e=.returned (.tuple #[.agg #[.int .i64 N,.int .i64 T,.int .i64 E,v,.slice (some ⟨g,0,none⟩) xs.length xs.length,.bool false,.slice a l c],.bool true])/\Rgs w' g N xs Rf xs.length/\∃ps,xs=toZ ps/\Bas ps/\l=(dig (Qaf ps)).length/\Own w' w.heap.size (.slice a l c) (toI (dig (Qaf ps)))))
theorem Qh8 (N T E:Int) (xs:List Int) (Rf:Nat→Int) (v:Value) (w:World) (hP:Qe0 w) (hT:Qbb w) (hv:Row w v xs) (hf:Fit v) (hl:xs.length≤9223372036854775807)
  (hRf:∀k,RingOk (xs.getD k 0) N->(0<=Rf k/\Rf k<xs.getD k 0)/\(∀W,Qe0 W->Qbb W->Calls Tryz.prog 116 #[.int .i64 (xs.getD k 0),.int .i64 N] W fun e w'=>e=.returned (.tuple #[.agg #[.int .i64 (xs.getD k 0),.int .i64 N,.int .i64 (Rf k)],.bool true])/\Old W w')) :
  Calls Tryz.prog 31 #[.agg #[.int .i64 N,.int .i64 T,.int .i64 E,v]] w (RkA N T E xs Rf v w):=by
 obtain ⟨a0,c0,rfl⟩:=hv.slice;have K1:=fun W (g:Old w W)=>Qfo N T E xs Rf _ W (hP.old g) (hT.old g) (hv.old g) hf hl hRf
 have HA:Hid (Old w ((w.alloc (.cells #[.int .i64 N,.int .i64 T,.int .i64 E,.slice a0 xs.length c0] 32)).alloc (.cells rk0 67))):=((Old.refl w).alloc _).alloc _;have BA:Hid (Bk ((w.alloc (.cells #[.int .i64 N,.int .i64 T,.int .i64 E,.slice a0 xs.length c0] 32)).alloc (.cells rk0 67)) w.heap.size #[.int .i64 N,.int .i64 T,.int .i64 E,.slice a0 xs.length c0] 32):=(Bk.new' w _ _ rfl).alloc _;have BB:Hid (Bk ((w.alloc (.cells #[.int .i64 N,.int .i64 T,.int .i64 E,.slice a0 xs.length c0] 32)).alloc (.cells rk0 67)) (w.heap.size+1) rk0 67):=Bk.new' _ _ _ (by simp);have HV:=Qaa hv;clear hP hT hv hf hRf;go_enter Tryz.func31,Tryz.ntmps31;go_wp2_with fail;refine (K1 _ HA.out).mono ?_
 rintro e w1 ⟨g1,h⟩;have HG1:=Qaa (Old.trans HA.out g1);have B1:=Qaa (BA.out.old g1);have B2:=Qaa (BB.out.old g1);have hs1:w.heap.size+2<=w1.heap.size:=by have:=g1.size;simp at this;omega
 clear g1 K1 BA BB;rcases h with ⟨hB,rfl⟩ | ⟨hB,g,hg,rfl,hrg⟩
 ·have HB:=Qaa hB;have y0:=B2.out.c (i:=0) rfl;have y1:=B2.out.c (i:=1) rfl;have y2:=B2.out.c (i:=2) rfl;have y3:=B2.out.c (i:=3) rfl;have y4:=B2.out.c (i:=4) rfl;have y5:=B2.out.c (i:=5) rfl;have y6:=B2.out.c (i:=6) rfl;have f0:w1.frozen? ⟨w.heap.size+1,0,none⟩=false:=frozen_of_row _ _ _ _ _ B2.out
  have f1:w1.frozen? ⟨w.heap.size+1,1,none⟩=false:=frozen_of_row _ _ _ _ _ B2.out
  have f2:w1.frozen? ⟨w.heap.size+1,2,none⟩=false:=frozen_of_row _ _ _ _ _ B2.out
  have f3:w1.frozen? ⟨w.heap.size+1,3,none⟩=false:=frozen_of_row _ _ _ _ _ B2.out
  have f4:w1.frozen? ⟨w.heap.size+1,4,none⟩=false:=frozen_of_row _ _ _ _ _ B2.out
  have f5:w1.frozen? ⟨w.heap.size+1,5,none⟩=false:=frozen_of_row _ _ _ _ _ B2.out
  have f6:w1.frozen? ⟨w.heap.size+1,6,none⟩=false:=frozen_of_row _ _ _ _ _ B2.out
  clear hB;go_wp2_with fail;have HF:=Q01 B2.out (.int .i64 0) (.int .i64 0) (.int .i64 0) (.slice none 0 0) (.slice none 0 0) (.bool false) (.slice none 0 0);have q0:=HF.c (i:=0) rfl;have q1:=HF.c (i:=1) rfl;have q2:=HF.c (i:=2) rfl;have q3:=HF.c (i:=3) rfl;have q4:=HF.c (i:=4) rfl;have q5:=HF.c (i:=5) rfl;have q6:=HF.c (i:=6) rfl;refine bodyPost_ret (v:=.tuple #[.agg rk0,.bool false]) (by simp [results,Tryz.results31,go_sem,q0,q1,q2,q3,q4,q5,q6]) rfl ⟨?_,.inl ⟨HB.out,rfl⟩⟩;exact ((((((HG1.out.own (p:=⟨w.heap.size+1,0,none⟩) (by simp) _).own (p:=⟨w.heap.size+1,1,none⟩) (by simp) _).own (p:=⟨w.heap.size+1,2,none⟩) (by simp) _).own (p:=⟨w.heap.size+1,3,none⟩) (by simp) _).own (p:=⟨w.heap.size+1,4,none⟩) (by simp) _).own (p:=⟨w.heap.size+1,5,none⟩) (by simp) _).own (p:=⟨w.heap.size+1,6,none⟩) (by simp) _
 ·have hsp:spB N xs=true:=by
   unfold prB at hB;rw [Bool.and_eq_true] at hB;exact hB.1
  obtain ⟨ps,exs,hbas⟩:=Qkk (Qdm hsp).2.1;have c2:∀W,Row W (.slice a0 xs.length c0) xs->Calls Tryz.prog 61 #[.slice a0 xs.length c0] W fun e w'=>e=.returned (.agg (szV (Qaf ps)))/\Old W w':=fun W h=>Qb8 ps _ W (by rw [<- exs];exact h) hbas.len6 hbas.hi
  have c3:=fun W=>Qot (Qaf ps) W (Nat.le_trans hbas.cnt (by omega))
  have HPS:Hid (xs=toZ ps/\Bas ps):=⟨exs,hbas⟩;have HB:=Qaa hB;have HRG:=Qaa hrg;have hg2:w.heap.size+2<=g:=by simp at hg;omega
  have hgn:g≠w.heap.size+1:=by omega
  have HLN:Hid ((toI (dig (Qaf ps))).length=(dig (Qaf ps)).length):=Qam _;obtain ⟨ds,hds⟩:∃ds,toI (dig (Qaf ps))=ds:=⟨_,rfl⟩
  have HDS:=Qaa hds;rw [hds] at c3 HLN;clear hds;clear hB exs hbas hrg hg hsp;generalize szV (Qaf ps)=SZ at *;go_wp2_with fail
  refine Q00 w1 w.heap.size (w.heap.size+1) N T E a0 xs.length c0 (some ⟨g,0,none⟩) xs.length xs.length SZ ds B1.out B2.out (fun W q=>(c2 W (HV.out.old (Old.trans HG1.out q))).mono fun e w' h=>⟨_,h.1,rfl,h.2⟩) (fun W=>(c3 W).mono fun e w' h=>by
   obtain ⟨v,rfl,q,o⟩:=h;obtain ⟨a,c,rfl⟩:=(Own.row o).slice;exact ⟨_,rfl,a,c,rfl,q,o⟩) _ _ ?_ ?_ ?_ ?_ ?_
  iterate 4 (·exact rfl)
  intro us W a6 c6 q6 o6;simp only [Qb6,Act.put,Qgv,List.range,List.range.loop,List.map_cons,List.map_nil,List.getD_cons_zero,List.getD_cons_succ,List.setIfInBounds_toArray,List.set_cons_succ,List.set_cons_zero];have hz:W.heap[w.heap.size+1]? = some (.cells rk0 67 (0,0)):=B2.out.old q6
  have HF:Bk (W.setRow (w.heap.size+1) #[.int .i64 N,.int .i64 T,.int .i64 E,.slice a0 xs.length c0,.slice (some ⟨g,0,none⟩) xs.length xs.length,.bool false,.slice a6 ds.length c6]) (w.heap.size+1) #[.int .i64 N,.int .i64 T,.int .i64 E,.slice a0 xs.length c0,.slice (some ⟨g,0,none⟩) xs.length xs.length,.bool false,.slice a6 ds.length c6] 67:=Qct hz;have HO:Hid (Own (W.setRow (w.heap.size+1) #[.int .i64 N,.int .i64 T,.int .i64 E,.slice a0 xs.length c0,.slice (some ⟨g,0,none⟩) xs.length xs.length,.bool false,.slice a6 ds.length c6]) w.heap.size (.slice a6 ds.length c6) ds):=Qps (Own.low o6 (by omega)) (fun b hb=>Qbf _ _ _ _ (by have:=(o6.lt b hb).1;omega));have HRG6:Hid (Rgs (W.setRow (w.heap.size+1) #[.int .i64 N,.int .i64 T,.int .i64 E,.slice a0 xs.length c0,.slice (some ⟨g,0,none⟩) xs.length xs.length,.bool false,.slice a6 ds.length c6]) g N xs Rf xs.length):=(HRG.out.old q6).same (Qbf _ _ _ _ (by omega));have HOL:Hid (Old w (W.setRow (w.heap.size+1) #[.int .i64 N,.int .i64 T,.int .i64 E,.slice a0 xs.length c0,.slice (some ⟨g,0,none⟩) xs.length xs.length,.bool false,.slice a6 ds.length c6])):=Qjd (Old.trans HG1.out q6) (by omega) _;have q0:=HF.c (i:=0) rfl;have q1:=HF.c (i:=1) rfl;have q2:=HF.c (i:=2) rfl;have q3:=HF.c (i:=3) rfl;have q4:=HF.c (i:=4) rfl;have q5:=HF.c (i:=5) rfl;have q7:=HF.c (i:=6) rfl;clear HF hz o6 q6 c2 c3;generalize (W.setRow (w.heap.size+1) #[.int .i64 N,.int .i64 T,.int .i64 E,.slice a0 xs.length c0,.slice (some ⟨g,0,none⟩) xs.length xs.length,.bool false,.slice a6 ds.length c6])=WF at *;go_wp2_with fail;refine bodyPost_ret (v:=.tuple #[.agg #[.int .i64 N,.int .i64 T,.int .i64 E,.slice a0 xs.length c0,.slice (some ⟨g,0,none⟩) xs.length xs.length,.bool false,.slice a6 ds.length c6],.bool true]) (by simp [results,Tryz.results31,go_sem,q0,q1,q2,q3,q4,q5,q7]) rfl ⟨HOL.out,.inr ⟨HB.out,g,a6,ds.length,c6,by omega,rfl,HRG6.out,ps,HPS.out.1,HPS.out.2,HLN.out,?_⟩⟩;rw [HDS.out];exact HO.out
end Go.Proofs.YthcidnnkakppcaaGreatDoor
namespace Go.Proofs.YthcidnnkakppcaaGreatDoor
open Go.ChangeShapes Go.WideShapes Go.ChangeAt Go.RowKit
def rdB (m:Nat) (B:Nat->Bool):Bool:=decide (2<=m/\m<=3)&&decide (∀j,j<m->B j=true)
theorem Qyl {m:Nat} {B:Nat->Bool} {k:Nat} (hk:k<m) (h:B k=false):rdB m B=false:=by
 unfold rdB;rw [decide_eq_false (p:=∀j,j<m->B j=true) (fun hh=>by have:=hh k hk;rw [h] at this;cases this)];simp
theorem Que {m:Nat} {B:Nat->Bool} (hm:2<=m/\m<=3) (h:∀j,j<m->B j=true):rdB m B=true:=by
 unfold rdB;rw [decide_eq_true hm,decide_eq_true h];rfl
abbrev if2 (L:Nat) (g0 g1:Option Addr):Value:=.iface 114 (.agg #[.slice g0 L L,.slice g1 L L])
abbrev if3 (L:Nat) (g0 g1 g2:Option Addr):Value:=.iface 112 (.agg #[.slice g0 L L,.slice g1 L L,.slice g2 L L])
def RdA (m L:Nat) (B:Nat->Bool) (Φ:Nat->World->Option Addr->Prop) (w:World) (e:Ending) (w':World):Prop:=
 Old w w'/\((rdB m B=false/\e=.returned (.tuple #[.nilIface,.bool false]))∨
  (rdB m B=true/\m=2/\∃g0 g1,e=.returned (.tuple #[if2 L g0 g1,.bool true])/\Φ 0 w' g0/\Φ 1 w' g1)∨
  (rdB m B=true/\m=3/\∃g0 g1 g2,e=.returned (.tuple #[if3 L g0 g1 g2,.bool true])/\Φ 0 w' g0/\Φ 1 w' g1/\Φ 2 w' g2))
theorem Tryz.infoRRs:(Tryz.prog.info? 76).map (fun i=>(i.zero,i.size,i.bytes))=some (some (.slice none 0 0),1,24):=by kernel_rfl
def RdK (W:World) (p m L k:Nat) (Φ:Nat->World->Option Addr->Prop):Prop:=
 ∃vs:List Value,W.ownsRow p 76 1 (.slice (some ⟨p,0,none⟩) m m) m vs/\∀i,i<k->∃g,vs[i]? = some (.slice g L L)/\Φ i W g
theorem RdK.lt {W:World} {p m L k:Nat} {Φ:Nat->World->Option Addr->Prop} (h:RdK W p m L k Φ):p<W.heap.size:=by
 obtain ⟨vs,ho,_⟩:=h;exact (ho.lt p rfl).2
theorem RdK.old {W W':World} {p m L k:Nat} {Φ:Nat->World->Option Addr->Prop} (hΦ:∀j W W' g,Φ j W g->Old W W'->Φ j W' g) (h:RdK W p m L k Φ) (q:Old W W'):RdK W' p m L k Φ:=by
 obtain ⟨vs,ho,hv⟩:=h;refine ⟨vs,⟨ho.1,?_⟩,fun i hi=>?_⟩
 ·rcases ho.2 with hn | ⟨p',cap,cur,e,hb,hgg,rest⟩
  ·exact .inl hn
  ·refine .inr ⟨p',cap,cur,e,hb,?_,rest⟩;rw [q.block p' (Array.getElem?_eq_some_iff.1 hgg).1];exact hgg
 ·obtain ⟨g,e,hg⟩:=hv i hi;exact ⟨g,e,hΦ i W W' g hg q⟩
theorem RdK.cell {W:World} {p m L k:Nat} {Φ:Nat->World->Option Addr->Prop} (h:RdK W p m L k Φ) (j:Nat) (hj:j<m):(∃y,W.cell? ⟨p,j,none⟩=some y)/\W.frozen? ⟨p,j,none⟩=false:=by
 obtain ⟨vs,ho,_⟩:=h;have hl:=ho.1;refine ⟨⟨vs[j]'(by omega),?_⟩,World.ownsRow.frozenAt ho j⟩;rw [World.ownsRow.cellAt ho j (by omega)];exact List.getElem?_eq_getElem _
theorem RdK.at {W:World} {p m L k:Nat} {Φ:Nat->World->Option Addr->Prop} (h:RdK W p m L k Φ) (j:Nat) (hj:j<k) (hm:k<=m):∃g,W.cell? ⟨p,j,none⟩=some (.slice g L L)/\Φ j W g:=by
 obtain ⟨vs,ho,hv⟩:=h;have hl:=ho.1;obtain ⟨g,e,hg⟩:=hv j hj;refine ⟨g,?_,hg⟩;rw [World.ownsRow.cellAt ho j (by omega)];exact e
theorem RdK.put {W:World} {p m L k:Nat} {Φ:Nat->World->Option Addr->Prop} (hΦ:∀j W g x,j<m->Φ j W g->Φ j (W.setCell ⟨p,k,none⟩ x) g) (h:RdK W p m L k Φ) (hk:k<m) (g:Option Addr) (hg:Φ k W g):RdK (W.setCell ⟨p,k,none⟩ (.slice g L L)) p m L (k+1) Φ:=by
 obtain ⟨vs,ho,hv⟩:=h;have hl:vs.length=m:=by have:=ho.1;omega
 refine ⟨_,(World.ownsRow.stored ho k (.slice g L L)).1,fun i hi=>?_⟩;rcases Nat.lt_or_ge i k with h1 | h1
 ·obtain ⟨g',e,hg'⟩:=hv i h1;exact ⟨g',by rw [List.getElem?_set_ne (by omega)];exact e,hΦ i W g' _ (by omega) hg'⟩
 ·obtain rfl:i=k:=by omega
  exact ⟨g,by rw [List.getElem?_set_self (by omega)],hΦ i W g _ hk hg⟩
theorem Qel (m:Nat) (w:World) (B:Bool) (hB:decide (2<=m/\m<=3)=B):Calls Tryz.prog 62 #[.int .i64 (m:Int)] w fun e w'=>e=.returned (.bool B)/\w'=w:=by
 by_cases h2:2<=m
 ·have d1:decide ((2:Int)≤(m:Int))=true:=decide_eq_true (by omega);have HBB:Hid (decide (m≤3)=B):=by show _ = _;rw [← hB];simp [h2]
  by_cases h3:m<=3
  ·have d3:decide ((m:Int)≤3)=true:=decide_eq_true (by omega);have d4:=decide_eq_true h3;obtain rfl:B=true:=by rw [← HBB.out];exact d4
   clear hB HBB h2 h3;go_enter Tryz.func62,Tryz.ntmps62;go_wp2_with fail;go_ret;exact ⟨rfl,rfl⟩
  ·have d3:decide ((m:Int)≤3)=false:=decide_eq_false (by omega);have d4:=decide_eq_false h3;obtain rfl:B=false:=by rw [← HBB.out];exact d4
   clear hB HBB h2 h3;go_enter Tryz.func62,Tryz.ntmps62;go_wp2_with fail;go_ret;exact ⟨rfl,rfl⟩
 ·have d1:decide ((2:Int)≤(m:Int))=false:=decide_eq_false (by omega);obtain rfl:B=false:=by rw [← hB];exact decide_eq_false (fun h=>h2 h.1)
  clear hB h2;go_enter Tryz.func62,Tryz.ntmps62;go_wp2_with fail;go_ret;exact ⟨rfl,rfl⟩
theorem Qql (x0 x1 x2:Int) (a3:Option Addr) (l3 c3:Nat) (rg:Option Addr) (L:Nat) (b5:Bool) (a6:Option Addr) (l6 c6:Nat) (a1:Option Addr) (m cap1:Nat) (w:World) (B:Nat→Bool) (Φ:Nat→World→Option Addr→Prop) (us:Nat→Value)
  (hm:m<=1048576) (hus:∀j,j<m->∃a l c,us j=.slice a l c) (hc:0<m->∃b,a1=some ⟨b,0,none⟩/\b<w.heap.size/\∀j,j<m->w.cell? ⟨b,j,none⟩=some (us j))
  (hΦ:∀j W W' g,Φ j W g->Old W W'->Φ j W' g) (hΨ:∀p,w.heap.size+2=p->∀j W g k x,Φ j W g->Φ j (W.setCell ⟨p,k,none⟩ x) g)
  (cr:∀j,j<m->∀W,Old w W->w.heap.size+2<W.heap.size->Calls Tryz.prog 63 #[.slice rg L L,.agg #[.bool false,us j]] W fun e w'=>Old W w'/\((B j=false/\∃g,e=.returned (.tuple #[.slice g 0 0,.bool false]))∨(B j=true/\∃g,e=.returned (.tuple #[.slice g L L,.bool true])/\Φ j w' g))) :
  Calls Tryz.prog 32 #[.agg #[.int .i64 x0,.int .i64 x1,.int .i64 x2,.slice a3 l3 c3,.slice rg L L,.bool b5,.slice a6 l6 c6],.agg #[.slice a1 m cap1]] w (RdA m L B Φ w):=by
 have HA:Hid (Old w ((w.alloc (.cells #[.int .i64 x0,.int .i64 x1,.int .i64 x2,.slice a3 l3 c3,.slice rg L L,.bool b5,.slice a6 l6 c6] 67)).alloc (.cells #[.slice a1 m cap1] 35))):=((Old.refl w).alloc _).alloc _
 by_cases h23:2<=m/\m<=3
 rotate_left
 ·have HB:Hid (rdB m B=false):=by show _ = _;unfold rdB;rw [decide_eq_false h23];rfl
  have CT:=Qel m ((w.alloc (.cells #[.int .i64 x0,.int .i64 x1,.int .i64 x2,.slice a3 l3 c3,.slice rg L L,.bool b5,.slice a6 l6 c6] 67)).alloc (.cells #[.slice a1 m cap1] 35)) false (decide_eq_false h23);clear cr h23 hc hus;go_enter Tryz.func32,Tryz.ntmps32;go_wp2_with (go_at_call 62;refine CT.mono ?_;rintro e w1 ⟨rfl,rfl⟩);exact bodyPost_ret (v:=.tuple #[.nilIface,.bool false]) (by simp [results,Tryz.results32,go_sem]) rfl ⟨HA.out,.inl ⟨HB.out,rfl⟩⟩
 obtain ⟨b,rfl,hb,hcell⟩:=hc (by omega);obtain ⟨i0,hi,hz0,hz1,hz2⟩:=info_parts Tryz.infoRRs;have HC:=Qaa hcell;have HUS:=Qaa hus;have HCR:=Qaa cr;have HΦ:=Qaa hΦ;have HΨ:=Qaa (hΨ _ rfl);have hm3:=h23;have BR:Hid (Bk ((w.alloc (.cells #[.int .i64 x0,.int .i64 x1,.int .i64 x2,.slice a3 l3 c3,.slice rg L L,.bool b5,.slice a6 l6 c6] 67)).alloc (.cells #[.slice (some ⟨b,0,none⟩) m cap1] 35)) w.heap.size #[.int .i64 x0,.int .i64 x1,.int .i64 x2,.slice a3 l3 c3,.slice rg L L,.bool b5,.slice a6 l6 c6] 67):=(Bk.new' w _ _ rfl).alloc _;clear h23 hc hcell hus cr hΦ hΨ;have CT:=fun W=>Qel m W true (decide_eq_true hm3)
 go_enter Tryz.func32,Tryz.ntmps32;go_wp2_with (first | (go_at_call 62;refine (CT _).mono ?_;rintro e w1 ⟨rfl,rfl⟩) | (at_make;refine wpList_make_full _ rfl _ _ 106 rfl (w.heap.size+2) 76 i0 (.slice none 0 0) 1 Tryz.underlying106 hi hz0 hz1 .i64 .i64 _ _ m rfl rfl rfl rfl (by rw [hz2];omega) (by unfold maxLen;omega) (by simp) ?_;intro w2 hown hgrow;have t0:w2.cell? ⟨w.heap.size+1,0,none⟩=some (.slice (some ⟨b,0,none⟩) m cap1):=((Qbg hgrow).cell (p:=⟨w.heap.size+1,0,none⟩) (by simp)).trans (by simp [Qad,Qa0])));have HRK0:Hid (RdK w2 (w.heap.size+2) m L 0 Φ):=⟨_,(by simpa using hown),fun i hi=>by omega⟩;have HG2:=Qaa (Old.trans HA.out (Qbg hgrow));have BR2:=Qaa (BR.out.old (Qbg hgrow));clear hown hgrow BR t0
 go_loopw [23] (fun i W=>∃k:Nat,k<=m/\i=.int .i64 k/\Hid (∀j,j<k->B j=true)/\Hid (RdK W (w.heap.size+2) m L k Φ)/\Hid (Old w W)/\Hid (Bk W w.heap.size #[.int .i64 x0,.int .i64 x1,.int .i64 x2,.slice a3 l3 c3,.slice rg L L,.bool b5,.slice a6 l6 c6] 67)) (fun i _=>m - (intOf i).toNat)
 case atStart=>exact ⟨0,by omega,rfl,fun j hj=>by omega,HRK0,HG2,BR2⟩
 case round=>
  obtain ⟨k,hk,rfl,H1,HRK,HG,BK⟩:=hrel;clear HRK0 HG2 BR2;have hsr:=HRK.out.lt
  by_cases hlt:k<m
  ·have d1:decide ((k:Int)<(m:Int))=true:=decide_eq_true (by omega);have c1:=(HG.out.cell (p:=⟨b,k,none⟩) hb).trans (HC.out k hlt);obtain ⟨au,lu,cu,eu⟩:=HUS.out k hlt;have cr:=HCR.out k hlt;rw [eu] at c1 cr;have s4:=BK.out.c (i:=4) rfl;have HBN:Hid (B k=false→rdB m B=false):=Qyl hlt
   have HBY:Hid (B k=true->∀j,j<k+1->B j=true):=fun h j hj=>by
    rcases Nat.lt_or_ge j k with h1 | h1
    ·exact H1.out j h1
    ·obtain rfl:j=k:=by omega
     exact h
   clear eu H1;go_wp2_with fail;refine (cr _ HG.out hsr).mono ?_
   rintro e w3 ⟨g3,h⟩;have HG3:=Qaa (Old.trans HG.out g3);have BK3:=Qaa (BK.out.old g3);have HR3:=Qaa (HRK.out.old HΦ.out g3);clear g3 c1 s4 cr;rcases h with ⟨hB,g,rfl⟩ | ⟨hB,g,rfl,hφ⟩
   ·have HB:=Qaa (HBN.out hB);clear hB;go_wp2_with fail;exact bodyPost_ret (v:=.tuple #[.nilIface,.bool false]) (by simp [results,Tryz.results32,go_sem]) rfl ⟨HG3.out,.inl ⟨HB.out,rfl⟩⟩
   ·have HN:=Qaa (HBY.out hB);obtain ⟨⟨y,q0⟩,f0⟩:=HR3.out.cell k hlt;have HR4:=Qaa (HR3.out.put (fun j W g x _ h=>HΨ.out j W g k x h) hlt g hφ);have HG4:Hid (Old w (w3.setCell ⟨w.heap.size+2,k,none⟩ (.slice g L L))):=HG3.out.own (p:=⟨w.heap.size+2,k,none⟩) (by simp) _;have BK4:Hid (Bk (w3.setCell ⟨w.heap.size+2,k,none⟩ (.slice g L L)) w.heap.size #[.int .i64 x0,.int .i64 x1,.int .i64 x2,.slice a3 l3 c3,.slice rg L L,.bool b5,.slice a6 l6 c6] 67):=(heap_setCell_other _ _ _ _ (by show w.heap.size≠w.heap.size+2;omega)).trans BK3.out;clear hB hφ HBN HBY;go_wp2_with fail;exact ⟨⟨k+1,by omega,by go_num,HN,HR4,HG4,BK4⟩,by simp [intOf];omega⟩
  ·have d1:decide ((k:Int)<(m:Int))=false:=decide_eq_false (by omega);obtain rfl:k=m:=by omega
   have HB:=Qaa (Que hm3 H1.out);rcases (show k=2∨k=3 by omega) with rfl | rfl
   ·obtain ⟨g0,e0,p0⟩:=HRK.out.at 0 (by omega) (by omega);obtain ⟨g1,e1,p1⟩:=HRK.out.at 1 (by omega) (by omega);have HP:Hid (Φ 0 wr g0∧Φ 1 wr g1):=⟨p0,p1⟩;clear p0 p1 H1 d1 hlt hk hm hm3;go_wp2_with fail
    go_quiet (fail)
    go_wp2_with fail;exact bodyPost_ret (v:=.tuple #[if2 L g0 g1,.bool true]) (by simp [results,Tryz.results32,go_sem]) rfl ⟨HG.out.drewN _,.inr (.inl ⟨HB.out,rfl,g0,g1,rfl,HΦ.out _ _ _ _ HP.out.1 ((Old.refl wr).drewN _),HΦ.out _ _ _ _ HP.out.2 ((Old.refl wr).drewN _)⟩)⟩
   ·obtain ⟨g0,e0,p0⟩:=HRK.out.at 0 (by omega) (by omega);obtain ⟨g1,e1,p1⟩:=HRK.out.at 1 (by omega) (by omega);obtain ⟨g2,e2,p2⟩:=HRK.out.at 2 (by omega) (by omega);have HP:Hid (Φ 0 wr g0∧Φ 1 wr g1∧Φ 2 wr g2):=⟨p0,p1,p2⟩;clear p0 p1 p2 H1 d1 hlt hk hm hm3;go_wp2_with fail
    go_quiet (fail)
    go_wp2_with fail;exact bodyPost_ret (v:=.tuple #[if3 L g0 g1 g2,.bool true]) (by simp [results,Tryz.results32,go_sem]) rfl ⟨HG.out.drewN _,.inr (.inr ⟨HB.out,rfl,g0,g1,g2,rfl,HΦ.out _ _ _ _ HP.out.1 ((Old.refl wr).drewN _),HΦ.out _ _ _ _ HP.out.2.1 ((Old.refl wr).drewN _),HΦ.out _ _ _ _ HP.out.2.2 ((Old.refl wr).drewN _)⟩)⟩
def smR (p:Int) (ss:List Int):List Int:=ss.map (fun x=>x%p)
theorem Qkr (p:Int) (ss:List Int):(smR p ss).length=ss.length:=by simp [smR]
theorem Qou (p:Int) (ss:List Int) (k:Nat) (h:k<ss.length):(smR p ss).getD k 0=ss.getD k 0%p:=by simp [smR,List.getD,h]
def smS (ps ss:List Int):List (List Int):=ps.map (fun p=>smR p ss)
theorem Qov (ps ss:List Int):(smS ps ss).length=ps.length:=by simp [smS]
theorem Qow (ps ss:List Int) (k:Nat) (h:k<ps.length):(smS ps ss).getD k []=smR (ps.getD k 0) ss:=by simp [smS,List.getD,h]
theorem Quf (p:Int) (ss:List Int) (kb:Nat) (sa:Option Addr) (sc:Nat) (w:World) (bK:Bk w kb #[.slice sa ss.length sc] 22) (hv:Row w (.slice sa ss.length sc) ss) (hl:1≤ss.length∧ss.length≤1000) (hs:∀i,i<ss.length→-9223372036854775808≤ss.getD i 0∧ss.getD i 0≤9223372036854775807) (hp:1≤p∧p≤4294967296) :
  Calls Tryz.prog 69 #[.int .i64 p,.pointer (some ⟨kb,0,none⟩)] w fun e w'=>∃v',e=.returned v'/\Old w w'/\Own w' w.heap.size v' (smR p ss):=by
 obtain ⟨i0,hi,hz0,hz1,hz2⟩:=info_parts Tryz.infoInt;rcases hv with ⟨_,_,e,e'⟩ | ⟨b1,o1,cap1,e,hb1,h01,hc1⟩
 ·subst e';simp at hl
 simp only [Value.slice.injEq,true_and] at e;obtain ⟨rfl,e8⟩:=e;have HC1:=Qaa hc1;have HE:=Qaa (Qou p ss);have HLZ:=Qaa (Qkr p ss);have HS:=Qaa hs;have HB:=Qaa bK;have z0:=bK.c (i:=0) rfl;generalize smR p ss=zs at *;clear hc1 hs bK e8 h01;go_enter Tryz.func69,Tryz.ntmps69;go_wp2_with (at_make;refine wpList_make_full _ rfl _ _ 22 rfl w.heap.size 3 i0 (.int .i64 0) 1 Tryz.underlying22 hi hz0 hz1 .i64 .i64 _ _ ss.length rfl rfl rfl rfl (by rw [hz2];omega) (by unfold maxLen;omega) (Nat.le_refl _) ?_;intro w1 hown hgrow;have z1:=(HB.out.old (Old.by_ (Old.refl _) hgrow (fun b hb=>by cases hb))).c (i:=0) rfl)
 have HO:Hid (Qbc w1 w.heap.size w.heap.size ss.length (List.replicate ss.length 0)):=by
  rw [Qbj] at hown;exact hown
 have HG:=Qaa (Old.by_ (Old.refl _) hgrow (fun b hb=>by cases hb));clear hown hgrow z1 z0
 go_loopw [12,5,6] (fun i _ _ W=>∃k:Nat,k<=ss.length/\i=.int .i64 k/\Hid (Qbc W w.heap.size w.heap.size ss.length (Qbr zs k))/\Hid (Old w W)) (fun i _ _ _=>ss.length - (intOf i).toNat)
 case atStart=>exact ⟨0,by omega,rfl,(by show Qbc _ _ _ _ _;rw [Qch,HLZ.out];exact HO.out),HG⟩
 case round=>
  obtain ⟨k,hk,rfl,HO1,HG1⟩:=hrel;clear HO HG
  by_cases hlt:k<ss.length
  ·have i1:(k:Int)<(ss.length:Int):=by omega
   have c1:=(HG1.out.cell (p:=⟨b1,o1+k,none⟩) hb1).trans (HC1.out k hlt);have c3:=HO1.out.get (Qbd zs k (by have:=HLZ.out;omega) |>.trans HLZ.out) k hlt;have c4:=HO1.out.free k;have hx:=HS.out k hlt;have HX:=Qaa (HE.out k hlt);generalize ss.getD k 0=x at *;generalize (Qbr zs k).getD k 0=oldv at *;have cr:=fun W=>Qcm x p W hx hp
   have HP:Hid (Qbc (wr.setCell ⟨w.heap.size,k,none⟩ (.int .i64 (x%p))) w.heap.size w.heap.size ss.length (Qbr zs (k+1))):=by
    have:=HO1.out.put k (x%p);rw [<- HX.out,Qc4 zs k (by have:=HLZ.out;omega)] at this;rw [<- HX.out];exact this
   have HN2:Hid (Old w (wr.setCell ⟨w.heap.size,k,none⟩ (.int .i64 (x%p)))):=HG1.out.own (p:=⟨w.heap.size,k,none⟩) (Nat.le_refl _) _;obtain ⟨q,hq⟩:∃q,x%p=q:=⟨_,rfl⟩
   rw [hq] at cr HP HN2;clear hq HX HO1 HG1;go_wp2_with fail;refine (cr _).mono ?_
   rintro e w2 ⟨rfl,hw⟩;obtain rfl:=hw.symm;clear hw;go_wp2_with fail;exact ⟨⟨k+1,by omega,by go_num,HP,HN2⟩,by simp [intOf];omega⟩
  ·have d1:decide ((k:Int)<(ss.length:Int))=false:=by simp;omega
   obtain rfl:k=ss.length:=by omega
   have HF:Hid (Own wr w.heap.size (.slice (some ⟨w.heap.size,0,none⟩) ss.length ss.length) zs):=by
    have:=HO1.out.own ((Qbd zs ss.length (by have:=HLZ.out;omega)).trans HLZ.out);rw [show Qbr zs ss.length=zs by rw [<- HLZ.out];exact Qc3 zs] at this;exact this
   go_wp2_with fail;go_ret;exact ⟨_,rfl,HG1.out,HF.out⟩
theorem Qmw (N:Int) (ps:List Int) (Rf:Nat→Int) (gr kb:Nat) (w:World) (hr:Rgs w gr N ps Rf ps.length) (hm:1≤ps.length∧ps.length≤1000) (zss:List (List Int))
  (cj:∀k,k<ps.length->∀W,Old w W->Calls Tryz.prog 69 #[.int .i64 (ps.getD k 0),.pointer (some ⟨kb,0,none⟩)] W fun e w'=>∃v',e=.returned v'/\Old W w'/\Own w' W.heap.size v' (zss.getD k [])) :
  Calls Tryz.prog 68 #[.slice (some ⟨gr,0,none⟩) ps.length ps.length,.func (.func 69) #[] #[.pointer (some ⟨kb,0,none⟩)]] w fun e w'=>e=.returned (.slice (some ⟨w.heap.size,0,none⟩) ps.length ps.length)/\Old w w'/\Ows (TS 149 5 ps.length (elR N false ps Rf zss)) w' w.heap.size w'.heap.size [.slice (some ⟨w.heap.size,0,none⟩) ps.length ps.length]:=by
 obtain ⟨i0,hi,hz0,hz1,hz2⟩:=info_parts Tryz.infoRingRow;have HC:=Qaa (fun k hk=>hr.at k hk hk);have hb:=hr.lt;have HCJ:=Qaa cj;have HEL:Hid (∀k,elR N false ps Rf zss k=TR (ps.getD k 0) N (Rf k) false (TI (zss.getD k []))):=fun k=>rfl
 have HGD:=Qaa (Qkd N false ps Rf zss);generalize elR N false ps Rf zss=Es at *;clear hr cj;go_enter Tryz.func68,Tryz.ntmps68;go_wp2_with (at_make;refine wpList_make_full _ rfl _ _ 76 rfl 0 149 i0 (.agg #[.int .i64 0,.int .i64 0,.int .i64 0,.bool false,.slice none 0 0]) 5 Tryz.underlying76 hi hz0 hz1 .i64 .i64 _ _ ps.length rfl rfl rfl rfl (by rw [hz2];omega) (by unfold maxLen;omega) (Nat.zero_le _) ?_;intro w1 hown hgrow);have HO:Hid (TSc 149 5 ps.length 0 Es w1 w.heap.size ps.length _ (fun _ _=>False)):=TSc.start hown;have HG:Hid (Old w w1):=Below.grown (Below.refl _ _) hgrow (Nat.le_refl _) (fun _ h=>by cases h);clear hown hgrow
 go_loopw [13,6,7] (fun i _ _ W=>∃(k:Nat) (vs:List Value) (Bs:Nat->Nat->Prop),k<=ps.length/\i=.int .i64 k/\Hid (TSc 149 5 ps.length k Es W w.heap.size ps.length vs Bs)/\Hid (∀j b,j<k->Bs j b->w.heap.size<b)/\Hid (Old w W)) (fun i _ _ _=>ps.length - (intOf i).toNat)
 case atStart=>exact ⟨0,_,_,by omega,rfl,HO,(fun j b hj=>by omega),HG⟩
 case round=>
  obtain ⟨k,vs,Bs,hk,rfl,H1,HB,HG1⟩:=hrel;clear HO HG
  by_cases hlt:k<ps.length
  ·have ilt:(k:Int)<(ps.length:Int):=by omega
   obtain ⟨c0,c1,c2⟩:=HC.out k hlt;have cj:=HCJ.out k hlt;have q0:=(HG1.out.cell (p:=⟨gr,k*3,none⟩) hb).trans c0;have q1:=(HG1.out.cell (p:=⟨gr,k*3+1,none⟩) hb).trans c1;have q2:=(HG1.out.cell (p:=⟨gr,k*3+2,none⟩) hb).trans c2;have hsr:=Qa1 H1.out.row;have HEK:=Qaa (HEL.out k);clear c0 c1 c2;generalize ps.getD k 0=P at *;generalize Rf k=R at *;generalize zss.getD k []=zs at *
   have HAS5:Hid (∀W',Old (wr.alloc (.cells #[.int .i64 P,.int .i64 N,.int .i64 R] 133)) W'->(W'.cell? ⟨wr.heap.size,0,none⟩=some (.int .i64 P)/\W'.cell? ⟨wr.heap.size,1,none⟩=some (.int .i64 N)/\W'.cell? ⟨wr.heap.size,2,none⟩=some (.int .i64 R))):=fun W' q=>
    ⟨(q.cell (p:=⟨wr.heap.size,0,none⟩) (by simp)).trans (Qad _ _ _ _ _ rfl),(q.cell (p:=⟨wr.heap.size,1,none⟩) (by simp)).trans (Qad _ _ _ _ _ rfl),(q.cell (p:=⟨wr.heap.size,2,none⟩) (by simp)).trans (Qad _ _ _ _ _ rfl)⟩
   have HAS6:Hid (∀W' y0 y1 y2 y3 y4,Old (wr.alloc (.cells #[.int .i64 P,.int .i64 N,.int .i64 R] 133)) W'->((fun W'=>W'.cell? ⟨wr.heap.size,0,none⟩=some (.int .i64 P)/\W'.cell? ⟨wr.heap.size,1,none⟩=some (.int .i64 N)/\W'.cell? ⟨wr.heap.size,2,none⟩=some (.int .i64 R)) (((((W'.setCell ⟨w.heap.size,k*5,none⟩ y0).setCell ⟨w.heap.size,k*5+1,none⟩ y1).setCell ⟨w.heap.size,k*5+2,none⟩ y2).setCell ⟨w.heap.size,k*5+3,none⟩ y3).setCell ⟨w.heap.size,k*5+4,none⟩ y4))):=fun W' y0 y1 y2 y3 y4 q=>by
    obtain ⟨s0,s1,s2⟩:=HAS5.out W' q
    have key:∀(bb j:Nat) (z:Value),bb≠w.heap.size->W'.cell? ⟨bb,j,none⟩=some z->(((((W'.setCell ⟨w.heap.size,k*5,none⟩ y0).setCell ⟨w.heap.size,k*5+1,none⟩ y1).setCell ⟨w.heap.size,k*5+2,none⟩ y2).setCell ⟨w.heap.size,k*5+3,none⟩ y3).setCell ⟨w.heap.size,k*5+4,none⟩ y4).cell? ⟨bb,j,none⟩=some z:=fun bb j z hb hz=>by
     rw [Qb9 _ _ _ _ hb,Qb9 _ _ _ _ hb,Qb9 _ _ _ _ hb,Qb9 _ _ _ _ hb,Qb9 _ _ _ _ hb];exact hz
    exact ⟨key _ _ _ (by omega) s0,key _ _ _ (by omega) s1,key _ _ _ (by omega) s2⟩
   have HGA:Hid (Old w (wr.alloc (.cells #[.int .i64 P,.int .i64 N,.int .i64 R] 133))):=HG1.out.alloc _
   have HX:Hid (∀w6 y n c Bz,Old (wr.alloc (.cells #[.int .i64 P,.int .i64 N,.int .i64 R] 133)) w6->TI zs w6 Bz [.slice y n c]->(∀b,Bz b->wr.heap.size+1<=b)->(∃vs',TSc 149 5 ps.length (k+1) Es (((((w6.setCell ⟨w.heap.size,k*5,none⟩ (.int .i64 P)).setCell ⟨w.heap.size,k*5+1,none⟩ (.int .i64 N)).setCell ⟨w.heap.size,k*5+2,none⟩ (.int .i64 R)).setCell ⟨w.heap.size,k*5+3,none⟩ (.bool false)).setCell ⟨w.heap.size,k*5+4,none⟩ (.slice y n c)) w.heap.size ps.length vs' (fun q=>if q=k then Bz else Bs q))/\(∀j b,j<k+1->(fun q=>if q=k then Bz else Bs q) j b->w.heap.size<b)/\Old w (((((w6.setCell ⟨w.heap.size,k*5,none⟩ (.int .i64 P)).setCell ⟨w.heap.size,k*5+1,none⟩ (.int .i64 N)).setCell ⟨w.heap.size,k*5+2,none⟩ (.int .i64 R)).setCell ⟨w.heap.size,k*5+3,none⟩ (.bool false)).setCell ⟨w.heap.size,k*5+4,none⟩ (.slice y n c))):=fun w6 y n c Bz g6 hTI hlo=>by
    have g7:=Old.trans ((Old.refl wr).alloc _) g6;refine ⟨(H1.out.old HGD.out g7).store5 HGD.out hlt _ _ _ _ _ (B:=Bz) (fun W' hW'=>?_) (fun hb=>by have:=hlo _ hb;omega) (fun j hj b h1 h2=>?_),fun j b hj hb=>?_,?_⟩
    ·rw [HEK.out];exact ⟨_,rfl,(Qcr zs).far hTI (fun b hb=>hW' b (by have:=hlo b hb;omega))⟩
    ·have h4:=H1.out.lt HGD.out j b hj h1;have:=hlo b h2;omega
    ·by_cases e:j=k
     ·simp only [e,if_true] at hb;have:=hlo b hb;omega
     ·simp only [e,if_false] at hb;exact HB.out j b (by omega) hb
    ·exact (((((Old.trans HG1.out g7).own (p:=⟨w.heap.size,k*5,none⟩) (Nat.le_refl _) _).own (p:=⟨w.heap.size,k*5+1,none⟩) (Nat.le_refl _) _).own (p:=⟨w.heap.size,k*5+2,none⟩) (Nat.le_refl _) _).own (p:=⟨w.heap.size,k*5+3,none⟩) (Nat.le_refl _) _).own (p:=⟨w.heap.size,k*5+4,none⟩) (Nat.le_refl _) _
   have HCE:Hid (∀w6,Old (wr.alloc (.cells #[.int .i64 P,.int .i64 N,.int .i64 R] 133)) w6->∀i,i<5->(∃z,w6.cell? ⟨w.heap.size,k*5+i,none⟩=some z)/\w6.frozen? ⟨w.heap.size,k*5+i,none⟩=false):=fun w6 g6 i hi5=>by
    have H2:=H1.out.old HGD.out (Old.trans ((Old.refl wr).alloc _) g6);have h5:=H2.cell k i hlt hi5;have h6:=Qbe H2.row.1 k hlt;exact ⟨⟨_,h5.trans (List.getElem?_eq_getElem (by omega))⟩,H2.frozen _⟩
   clear H1 HB HEK;go_wp2_with fail
   go_region_held3 (fun W'=>W'.cell? ⟨wr.heap.size,0,none⟩=some (.int .i64 P)/\W'.cell? ⟨wr.heap.size,1,none⟩=some (.int .i64 N)/\W'.cell? ⟨wr.heap.size,2,none⟩=some (.int .i64 R)) (first | with_reducible exact HAS5.out _ Q5.out | with_reducible exact HAS5.out _ (Below.drew (Old.refl _)) | with_reducible exact HAS6.out _ _ _ _ _ _ Q5.out | with_reducible exact HAS5.out _ (Old.refl _)) (first
    | (go_at_call 69;refine (cj _ (Below.drew HGA.out)).mono ?_;rintro e w5 ⟨v5,rfl,q5,o5⟩;obtain ⟨x5,c5,rfl⟩:=(Own.row o5).slice;have Q5:=Qaa (Old.trans (Below.drew (Old.refl _)) q5);have O5:=Qaa (by simp at o5;exact o5);clear q5 o5;obtain ⟨⟨z0,hz0⟩,hf0⟩:=HCE.out w5 Q5.out 0 (by omega);obtain ⟨⟨z1,hz1⟩,hf1⟩:=HCE.out w5 Q5.out 1 (by omega);obtain ⟨⟨z2,hz2⟩,hf2⟩:=HCE.out w5 Q5.out 2 (by omega);obtain ⟨⟨z3,hz3⟩,hf3⟩:=HCE.out w5 Q5.out 3 (by omega);obtain ⟨⟨z4,hz4⟩,hf4⟩:=HCE.out w5 Q5.out 4 (by omega);rw [Nat.add_zero] at hz0 hf0)
    | fail)
   all_goals
    obtain ⟨Bz,hTI,hlo⟩:=TI.of O5.out;obtain ⟨⟨vs',n1⟩,n2,n3⟩:=HX.out w5 x5 zs.length c5 Bz Q5.out hTI hlo;have N1:=Qaa n1;have N2:Hid (∀j b,j<k+1->(fun q=>if q=k then Bz else Bs q) j b->w.heap.size<b):=n2;have N3:=Qaa n3;clear n1 n2 n3 hTI hlo HX;go_wp2_with fail;exact ⟨⟨k+1,vs',_,by omega,by go_num,N1,N2,N3⟩,by simp [intOf];omega⟩
  ·have d1:decide ((k:Int)<(ps.length:Int))=false:=by simp;omega
   obtain rfl:k=ps.length:=by omega
   have HE:=Qaa (H1.out.done HGD.out (Nat.le_refl _) (fun j b hj hb=>Nat.le_of_lt (HB.out j b hj hb)));go_wp2_with fail;go_ret;exact ⟨rfl,HG1.out,HE.out⟩
def SmA (N:Int) (ps ss:List Int) (Rf:Nat->Int) (w:World) (e:Ending) (w':World):Prop:=
 ∃g,w.heap.size<=g/\e=.returned (.slice (some ⟨g,0,none⟩) ps.length ps.length)/\Old w w'/\Ows (TS 149 5 ps.length (elR N false ps Rf (smS ps ss))) w' w.heap.size w'.heap.size [.slice (some ⟨g,0,none⟩) ps.length ps.length]
theorem Qi0 (N:Int) (ps ss:List Int) (Rf:Nat→Int) (gr:Nat) (v:Value) (w:World) (hr:Rgs w gr N ps Rf ps.length) (hm:1≤ps.length∧ps.length≤1000) (hv:Row w v ss) (hl:1≤ss.length∧ss.length≤1000) (hs:∀i,i<ss.length→-9223372036854775808≤ss.getD i 0∧ss.getD i 0≤9223372036854775807) (hp:∀k,k<ps.length→1≤ps.getD k 0∧ps.getD k 0≤4294967296) :
  Calls Tryz.prog 36 #[.slice (some ⟨gr,0,none⟩) ps.length ps.length,v] w (SmA N ps ss Rf w):=by
 obtain ⟨sa,sc,ev⟩:=hv.slice;subst ev;have BB:Bk (w.alloc (.cells #[.slice sa ss.length sc] 22)) w.heap.size #[.slice sa ss.length sc] 22:=Bk.new' w _ _ rfl
 have K:=Qmw N ps Rf gr w.heap.size (w.alloc (.cells #[.slice sa ss.length sc] 22)) (hr.old ((Old.refl w).alloc _)) hm (smS ps ss) (fun k hk W g=>by
  rw [Qow ps ss k hk];exact Quf (ps.getD k 0) ss w.heap.size sa sc W (BB.old g) (hv.old (Old.trans ((Old.refl w).alloc _) g)) hl hs (hp k hk))
 have HK:Hid (Calls Tryz.prog 68 #[.slice (some ⟨gr,0,none⟩) ps.length ps.length,.func (.func 69) #[] #[.pointer (some ⟨w.heap.size,0,none⟩)]] (w.alloc (.cells #[.slice sa ss.length sc] 22)) fun e w'=>e=.returned (.slice (some ⟨w.heap.size+1,0,none⟩) ps.length ps.length)/\Old (w.alloc (.cells #[.slice sa ss.length sc] 22)) w'/\Ows (TS 149 5 ps.length (elR N false ps Rf (smS ps ss))) w' (w.heap.size+1) w'.heap.size [.slice (some ⟨w.heap.size+1,0,none⟩) ps.length ps.length]):=by
  have h1:(w.alloc (.cells #[.slice sa ss.length sc] 22)).heap.size=w.heap.size+1:=by simp
  rw [h1] at K;exact K
 clear K hr hv hs hp BB;go_enter Tryz.func36,Tryz.ntmps36;go_wp2_with fail;refine HK.out.mono ?_
 rintro e w1 ⟨rfl,g1,o1⟩;have HG1:=Qaa (Old.trans ((Old.refl w).alloc _) g1);have HO:Hid (Ows (TS 149 5 ps.length (elR N false ps Rf (smS ps ss))) w1 w.heap.size w1.heap.size [.slice (some ⟨w.heap.size+1,0,none⟩) ps.length ps.length]):=o1.low (by omega) (Nat.le_refl _) (Nat.le_refl _);clear g1 o1 HK;go_wp2_with fail;go_ret;exact ⟨w.heap.size+1,by omega,rfl,HG1.out,HO.out⟩
theorem RRs.same {W W':World} {g:Nat} {N:Int} {n:Bool} {ps:List Int} {Rf:Nat->Int} {us:Nat->Option Addr} {k:Nat} (h:RRs W g N n ps Rf us k) (e:W'.heap[g]? = W.heap[g]?):RRs W' g N n ps Rf us k:=by
 obtain ⟨ys,hl,ho,hy⟩:=h;refine ⟨ys,hl,⟨ho.1,?_⟩,hy⟩;rcases ho.2 with hn | ⟨p,cap,cur,e',hb,hgg,rest⟩
 ·exact .inl hn
 ·refine .inr ⟨p,cap,cur,e',hb,?_,rest⟩
  have:p=g:=by
   simp only [Value.slice.injEq,Option.some.injEq,Addr.mk.injEq] at e';exact e'.1.1.symm
  subst this;rw [e];exact hgg
def PaT (w:World) (b:Nat) (ps:List Int) (xsss:List (List (List Int))) (au:Nat->Option Addr) (cu:Nat->Nat) (uf:Nat->Nat->Option Addr) (cf:Nat->Nat->Nat):Prop:=
 b<w.heap.size/\∀j,j<xsss.length->w.cell? ⟨b,j,none⟩=some (.slice (au j) (xsss.getD j []).length (cu j))/\(0<(xsss.getD j []).length->Qgr w (.slice (au j) (xsss.getD j []).length (cu j)) ps (xsss.getD j []) (uf j) (cf j))
theorem PaT.old {w w':World} {b:Nat} {ps:List Int} {xsss:List (List (List Int))} {au:Nat->Option Addr} {cu:Nat->Nat} {uf:Nat->Nat->Option Addr} {cf:Nat->Nat->Nat} (h:PaT w b ps xsss au cu uf cf) (g:Old w w'):PaT w' b ps xsss au cu uf cf:=
 ⟨Nat.lt_of_lt_of_le h.1 g.size,fun j hj=>⟨(g.cell (p:=⟨b,j,none⟩) h.1).trans (h.2 j hj).1,fun h0=>((h.2 j hj).2 h0).old g⟩⟩
theorem TTT.at {xsss:List (List (List Int))} {W:World} {B:Nat->Prop} {v:Value} (ps:List Int) (h:TTT xsss W B [v]) (h0:0<xsss.length):∃b cap au cu uf cf,v=.slice (some ⟨b,0,none⟩) xsss.length cap/\PaT W b ps xsss au cu uf cf:=by
 rcases h with ⟨e,_⟩ | ⟨p,cap,vs,Bs,e,hc,hbb⟩
 ·omega
 simp at e;subst e;have hvl:vs.length=xsss.length:=by have:=hc.row.1;omega
 have key:∀j,∃q:Option Addr×Nat×(Nat->Option Addr)×(Nat->Nat),j<xsss.length->W.cell? ⟨p,j,none⟩=some (.slice q.1 (xsss.getD j []).length q.2.1)/\(0<(xsss.getD j []).length->Qgr W (.slice q.1 (xsss.getD j []).length q.2.1) ps (xsss.getD j []) q.2.2.1 q.2.2.2):=fun j=>by
  by_cases hj:j<xsss.length
  ·have h1:=hc.el j hj;rw [Qee (by omega)] at h1;have ho:=TSS.whole h1;obtain ⟨a,c,e⟩:=TSS.slice h1
   have hcl:W.cell? ⟨p,j,none⟩=some (.slice a (xsss.getD j []).length c):=by
    rw [World.ownsRow.cellAt hc.row j (by omega),<- e];exact List.getElem?_eq_getElem _
   rw [e] at ho;rcases Nat.eq_zero_or_pos (xsss.getD j []).length with hz | hz
   ·exact ⟨(a,c,fun _=>none,fun _=>0),fun _=>⟨hcl,fun h=>by omega⟩⟩
   ·obtain ⟨us,cs,hat⟩:=ho.at ps hz;exact ⟨(a,c,us,cs),fun _=>⟨hcl,fun _=>hat⟩⟩
  ·exact ⟨(none,0,fun _=>none,fun _=>0),fun h=>absurd h hj⟩
 obtain ⟨f,hf⟩:=Classical.skolem.1 key;exact ⟨p,cap,fun j=>(f j).1,fun j=>(f j).2.1,fun j=>(f j).2.2.1,fun j=>(f j).2.2.2,rfl,Qa1 hc.row,hf⟩
def PhG (base:Nat) (N:Int) (ps:List Int) (Rf:Nat->Int) (uf:Nat->Nat->Option Addr) (j:Nat) (W:World) (g:Option Addr):Prop:=
 ∃gn,g=some ⟨gn,0,none⟩/\base+2<gn/\RRs W gn N false ps Rf (uf j) ps.length
theorem PhG.old {base:Nat} {N:Int} {ps:List Int} {Rf:Nat->Int} {uf:Nat->Nat->Option Addr} (j:Nat) (W W':World) (g:Option Addr) (h:PhG base N ps Rf uf j W g) (q:Old W W'):PhG base N ps Rf uf j W' g:=by
 obtain ⟨gn,e,hl,hr⟩:=h;exact ⟨gn,e,hl,hr.old q⟩
def ciB (N:Int) (ps:List Int) (xsss:List (List (List Int))):Bool:=rdB xsss.length (fun j=>rwB N ps (xsss.getD j []))
theorem Qug (N T E:Int) (a3:Option Addr) (l3 c3:Nat) (gr:Nat) (b5:Bool) (a6:Option Addr) (l6 c6:Nat) (a1:Option Addr) (cap1:Nat) (w:World) (ps:List Int) (Rf:Nat→Int) (xsss:List (List (List Int))) (au:Nat→Option Addr) (cu:Nat→Nat) (uf:Nat→Nat→Option Addr) (cf:Nat→Nat→Nat)
  (hm:xsss.length<=1048576) (hr:∀r∈xsss,r.length<=1048576/\∀q∈r,q.length<=1048576) (hpa:0<xsss.length->∃b,a1=some ⟨b,0,none⟩/\PaT w b ps xsss au cu uf cf)
  (hrg:Rgs w gr N ps Rf ps.length) (hsp:spB N ps=true) :
  Calls Tryz.prog 32 #[.agg #[.int .i64 N,.int .i64 T,.int .i64 E,.slice a3 l3 c3,.slice (some ⟨gr,0,none⟩) ps.length ps.length,.bool b5,.slice a6 l6 c6],.agg #[.slice a1 xsss.length cap1]] w (RdA xsss.length ps.length (fun j=>rwB N ps (xsss.getD j [])) (PhG w.heap.size N ps Rf uf) w):=by
 refine Qql N T E a3 l3 c3 _ ps.length b5 a6 l6 c6 a1 xsss.length cap1 w _ _ (fun j=>.slice (au j) (xsss.getD j []).length (cu j)) hm (fun j _=>⟨_,_,_,rfl⟩) (fun h0=>?_) (fun j W W' g h q=>PhG.old j W W' g h q) (fun p hp j W g k x h=>?_) (fun j hj W q hW=>?_)
 ·obtain ⟨b,e,hp⟩:=hpa h0;exact ⟨b,e,hp.1,fun j hj=>(hp.2 j hj).1⟩
 ·subst hp;obtain ⟨gn,e,hl,hr⟩:=h;exact ⟨gn,e,hl,hr.same (heap_setCell_other _ _ _ _ (by show gn≠w.heap.size+2;omega))⟩
 ·obtain ⟨b,e,hp⟩:=hpa (by omega);have hmem:xsss.getD j []∈xsss:=by simp [List.getD,hj]
  refine (Qok N false ps (xsss.getD j []) Rf (uf j) (cf j) gr (au j) (cu j) W (hrg.old q) hsp (hr _ hmem).1 (hr _ hmem).2 (fun h0=>((hp.2 j hj).2 h0).old q)).mono ?_
  rintro e w' ⟨g',h⟩;refine ⟨g',?_⟩;rcases h with ⟨hB,rfl⟩ | ⟨hB,gn,hgn,rfl,hrr⟩
  ·exact .inl ⟨hB,_,rfl⟩
  ·exact .inr ⟨hB,_,rfl,gn,rfl,by omega,hrr⟩
theorem Qwx (x0 x1 x2:Int) (a3:Option Addr) (l3 c3:Nat) (b5:Bool) (a6:Option Addr) (l6 c6:Nat) (a1:Option Addr) (cap1:Nat) (w:World) (ps:List Int) (xsss:List (List (List Int))) (au:Nat→Option Addr) (cu:Nat→Nat) (uf:Nat→Nat→Option Addr) (cf:Nat→Nat→Nat)
  (hm:xsss.length<=1048576) (hpa:0<xsss.length->∃b,a1=some ⟨b,0,none⟩/\PaT w b ps xsss au cu uf cf) :
  Calls Tryz.prog 32 #[.agg #[.int .i64 x0,.int .i64 x1,.int .i64 x2,.slice a3 l3 c3,.slice none 0 0,.bool b5,.slice a6 l6 c6],.agg #[.slice a1 xsss.length cap1]] w (RdA xsss.length 0 (fun j=>decide ((xsss.getD j []).length=0)) (fun _ _ _=>True) w):=by
 refine Qql x0 x1 x2 a3 l3 c3 none 0 b5 a6 l6 c6 a1 xsss.length cap1 w _ _ (fun j=>.slice (au j) (xsss.getD j []).length (cu j)) hm (fun j _=>⟨_,_,_,rfl⟩) (fun h0=>?_) (fun j W W' g h q=>trivial) (fun p hp j W g k x h=>trivial) (fun j hj W q hW=>?_)
 ·obtain ⟨b,e,hp⟩:=hpa h0;exact ⟨b,e,hp.1,fun j hj=>(hp.2 j hj).1⟩
 ·refine (Qh3 false (xsss.getD j []).length (au j) (cu j) W).mono ?_
  rintro e w' ⟨g',h⟩;refine ⟨g',?_⟩;rcases h with ⟨hB,rfl⟩ | ⟨hB,g,rfl⟩
  ·exact .inl ⟨hB,_,rfl⟩
  ·exact .inr ⟨hB,g,rfl,trivial⟩
theorem RdA.any {m L:Nat} {B:Nat->Bool} {Φ:Nat->World->Option Addr->Prop} {w:World} {e:Ending} {w':World} (h:RdA m L B Φ w e w'):Old w w'/\∃x,e=.returned (.tuple #[x,.bool (rdB m B)]):=by
 obtain ⟨g,h⟩:=h;refine ⟨g,?_⟩;rcases h with ⟨hB,rfl⟩ | ⟨hB,_,g0,g1,rfl,_⟩ | ⟨hB,_,g0,g1,g2,rfl,_⟩
 ·exact ⟨_,by rw [hB]⟩
 ·exact ⟨_,by rw [hB]⟩
 ·exact ⟨_,by rw [hB]⟩
end Go.Proofs.YthcidnnkakppcaaGreatDoor
namespace Go.Proofs.YthcidnnkakppcaaGreatDoor
open Go.ChangeShapes Go.WideShapes Go.ChangeAt Go.RowKit
open M2
theorem Q22 {N T E:Int} {xs:List Int} (h:prB N T E xs=true):2<=T/\T<=65536:=by
 unfold prB inQ at h;simp only [Bool.and_eq_true,decide_eq_true_eq] at h;omega
theorem Quh {N T E:Int} {xs:List Int} (h:prB N T E xs=true):spB N xs=true:=by
 unfold prB at h;rw [Bool.and_eq_true] at h;exact h.1
end Go.Proofs.YthcidnnkakppcaaGreatDoor
namespace Go.Proofs.YthcidnnkakppcaaGreatDoor
open Go.ChangeShapes Go.WideShapes Go.ChangeAt Go.RowKit
theorem Qrt (p r p' r' N':Int) (n n':Bool) (Nn:Nat) (xs ys:List Int) (ua ub:Option Addr) (ca cb:Nat) (w:World) (hv:Row w (.slice ua Nn ca) xs) (hu:Row w (.slice ub Nn cb) ys) (hp:2≤p∧p≤268435456) (hN:2≤Nn∧Nn≤16) (la:xs.length=Nn) (lb:ys.length=Nn) (ha:∀i,i<Nn→(0≤xs.getD i 0∧xs.getD i 0<p)∧(0≤ys.getD i 0∧ys.getD i 0<p)) :
  Calls Tryz.prog 104 #[.agg #[.int .i64 p,.int .i64 Nn,.int .i64 r,.bool n,.slice ua Nn ca],.agg #[.int .i64 p',.int .i64 N',.int .i64 r',.bool n',.slice ub Nn cb]] w fun e w'=>∃g,e=.returned (.slice (some ⟨g,0,none⟩) Nn Nn)/\Old w w'/\Own w' w.heap.size (.slice (some ⟨g,0,none⟩) Nn Nn) (Qef Qdd p xs ys):=by
 obtain ⟨i0,hi,hz0,hz1,hz2⟩:=info_parts Tryz.infoInt;rcases hv with ⟨_,_,e,e'⟩ | ⟨b1,o1,cap1,e,hb1,h01,hc1⟩
 ·subst e';simp at la;omega
 rcases hu with ⟨_,_,e_,e'⟩ | ⟨b2,o2,cap2,e_,hb2,h02,hc2⟩
 ·subst e';simp at lb;omega
 simp only [Value.slice.injEq] at e e_;obtain ⟨rfl,e7,e8⟩:=e;obtain ⟨rfl,e9,e10⟩:=e_;have HC1:Hid (∀j,j<Nn->w.cell? ⟨b1,o1+j,none⟩=some (.int .i64 (xs.getD j 0))):=fun j hj=>hc1 j (by omega)
 have HC2:Hid (∀j,j<Nn->w.cell? ⟨b2,o2+j,none⟩=some (.int .i64 (ys.getD j 0))):=fun j hj=>hc2 j (by omega)
 have HE:Hid (∀k,k<Nn->(Qef Qdd p xs ys).getD k 0=Qdd p (xs.getD k 0) (ys.getD k 0)):=fun k hk=>Qhz _ _ _ _ _ (by omega)
 have hlen:(Qef Qdd p xs ys).length=Nn:=by rw [Qfq,la]
 have HA:=Qaa ha;generalize Qef Qdd p xs ys=zs at *;clear hc1 hc2 la lb ha e7 e8 e9 e10 h01 h02
 have HB:Hid (∀W',Old ((w.alloc (.cells #[.int .i64 p,.int .i64 Nn,.int .i64 r,.bool n,.slice (some ⟨b1,o1,none⟩) Nn ca] 149)).alloc (.cells #[.int .i64 p',.int .i64 N',.int .i64 r',.bool n',.slice (some ⟨b2,o2,none⟩) Nn cb] 149)) W'->(W'.cell? ⟨w.heap.size,0,none⟩=some (.int .i64 p)/\W'.cell? ⟨w.heap.size,1,none⟩=some (.int .i64 Nn)/\W'.cell? ⟨w.heap.size,4,none⟩=some (.slice (some ⟨b1,o1,none⟩) Nn ca)/\W'.cell? ⟨w.heap.size+1,4,none⟩=some (.slice (some ⟨b2,o2,none⟩) Nn cb))):=fun W' g=>
  ⟨(g.cell (p:=⟨w.heap.size,0,none⟩) (by simp;omega)).trans (by simp [Qad,Qa0]),(g.cell (p:=⟨w.heap.size,1,none⟩) (by simp;omega)).trans (by simp [Qad,Qa0]),(g.cell (p:=⟨w.heap.size,4,none⟩) (by simp;omega)).trans (by simp [Qad,Qa0]),(g.cell (p:=⟨w.heap.size+1,4,none⟩) (by simp)).trans (by simp [Qad,Qa0])⟩
 have HSZ:Hid (((w.alloc (.cells #[.int .i64 p,.int .i64 Nn,.int .i64 r,.bool n,.slice (some ⟨b1,o1,none⟩) Nn ca] 149)).alloc (.cells #[.int .i64 p',.int .i64 N',.int .i64 r',.bool n',.slice (some ⟨b2,o2,none⟩) Nn cb] 149)).heap.size=w.heap.size+1+1):=by show _ = _;simp
 have hpn:¬p=0:=by omega
 go_enter Tryz.func104,Tryz.ntmps104;go_wp2_with (at_make;refine wpList_make_full _ rfl _ _ 22 rfl (w.heap.size+1+1) 3 i0 (.int .i64 0) 1 Tryz.underlying22 hi hz0 hz1 .i64 .i64 _ _ Nn rfl rfl rfl rfl (by rw [hz2];omega) (by unfold maxLen;omega) (by simp) ?_;intro w1 hown hgrow;have z1:=(HB.out w1 (Old.by_ (Old.refl _) hgrow (fun b hb=>by cases hb))).2.1)
 have HO:Hid (Qbc w1 (w.heap.size+1+1) (w.heap.size+1+1) Nn (List.replicate Nn 0)):=by
  rw [Qbj,HSZ.out] at hown;exact hown
 have HG:Hid (Old ((w.alloc (.cells #[.int .i64 p,.int .i64 Nn,.int .i64 r,.bool n,.slice (some ⟨b1,o1,none⟩) Nn ca] 149)).alloc (.cells #[.int .i64 p',.int .i64 N',.int .i64 r',.bool n',.slice (some ⟨b2,o2,none⟩) Nn cb] 149)) w1):=Old.by_ (Old.refl _) hgrow (fun b hb=>by cases hb);clear hown hgrow z1
 go_loopw [14] (fun i W=>∃k:Nat,k<=Nn/\i=.int .i64 k/\Hid (Qbc W (w.heap.size+1+1) (w.heap.size+1+1) Nn (Qbr zs k))/\Hid (Old ((w.alloc (.cells #[.int .i64 p,.int .i64 Nn,.int .i64 r,.bool n,.slice (some ⟨b1,o1,none⟩) Nn ca] 149)).alloc (.cells #[.int .i64 p',.int .i64 N',.int .i64 r',.bool n',.slice (some ⟨b2,o2,none⟩) Nn cb] 149)) W)) (fun i _=>Nn - (intOf i).toNat)
 case atStart=>exact ⟨0,by omega,rfl,(by show Qbc _ _ _ _ _;rw [Qch,hlen];exact HO.out),HG⟩
 case round=>
  obtain ⟨k,hk,rfl,HO1,HG2⟩:=hrel;clear HO HG;have HG1:=Qaa (Old.trans (((Old.refl w).alloc _).alloc _) HG2.out)
  by_cases hlt:k<Nn
  ·have i1:(k:Int)<(Nn:Int):=by omega
   have c1:=(HG1.out.cell (p:=⟨b1,o1+k,none⟩) hb1).trans (HC1.out k hlt);have c2:=(HG1.out.cell (p:=⟨b2,o2+k,none⟩) hb2).trans (HC2.out k hlt);obtain ⟨z0,z1,z4,z5⟩:=HB.out wr HG2.out;have c3:=HO1.out.get (Qbd zs k (by omega) |>.trans hlen) k hlt;have c4:=HO1.out.free k;have HX:=Qaa (HE.out k hlt);obtain ⟨⟨bx1,bx2⟩,⟨by1,by2⟩⟩:=HA.out k hlt;generalize xs.getD k 0=x at *;generalize ys.getD k 0=y at *;generalize (Qbr zs k).getD k 0=oldv at *
   have HP:Hid (Qbc (wr.setCell ⟨w.heap.size+1+1,k,none⟩ (.int .i64 (Qdd p x y))) (w.heap.size+1+1) (w.heap.size+1+1) Nn (Qbr zs (k+1))):=by
    have:=HO1.out.put k (Qdd p x y);rw [<- HX.out,Qc4 zs k (by omega)] at this;rw [<- HX.out];exact this
   obtain ⟨q,hq⟩:∃q,Qdd p x y=q:=⟨_,rfl⟩
   have e3:(IntKind.i64.wrap (x+y)).tmod p=q:=by
    rw [IntKind.wrap_i64];rw [show (x+y+9223372036854775808)%18446744073709551616 - 9223372036854775808=x+y by omega];rw [Int.tmod_eq_emod_of_nonneg (by omega)];exact hq
   have e4:(x+y).tmod p=q:=by
    rw [Int.tmod_eq_emod_of_nonneg (by omega)];exact hq
   have e5:(x+y)%p=q:=hq
   have hqb:0<=q/\q<268435456:=by
    have g1:=Int.emod_nonneg (x+y) (show p≠0 by omega);have g2:=Int.emod_lt_of_pos (x+y) (show 0<p by omega);omega
   rw [hq] at HP;clear hq HX;have HN2:Hid (Old ((w.alloc (.cells #[.int .i64 p,.int .i64 Nn,.int .i64 r,.bool n,.slice (some ⟨b1,o1,none⟩) Nn ca] 149)).alloc (.cells #[.int .i64 p',.int .i64 N',.int .i64 r',.bool n',.slice (some ⟨b2,o2,none⟩) Nn cb] 149)) (wr.setCell ⟨w.heap.size+1+1,k,none⟩ (.int .i64 q))):=HG2.out.own (by simp;try omega) _;go_wp2_with fail
   go_region
   go_wp2_with fail;exact ⟨⟨k+1,by omega,by go_num,HP.out,HN2.out.drewN 1⟩,by simp [intOf];omega⟩
  ·have d1:decide ((k:Int)<(Nn:Int))=false:=by simp;omega
   obtain rfl:k=Nn:=by omega
   have HF:Hid (Own wr (w.heap.size+1+1) (.slice (some ⟨w.heap.size+1+1,0,none⟩) k k) zs):=by
    have:=HO1.out.own ((Qbd zs k (by omega)).trans hlen);rw [show Qbr zs k=zs by rw [<- hlen];exact Qc3 zs] at this;exact this
   go_wp2_with fail;go_ret;exact ⟨_,rfl,HG1.out,HF.out.low (by omega)⟩
theorem Qox:(Tryz.prog.info? 3).map (·.size)=some 1:=by kernel_rfl
theorem Qh9 (cur cs:List Value) (h:cur.length=cs.length):splice cur 0 cs=cs:=by
 simp [splice,h]
theorem Qqm {ops:Array Oper} {rest:List Oper} {a:Act} {w:World} {Q:Exit→Act→World→Prop} {ty:TypeId} {pos:String} {d:Option Tmp} {x y:Operand} {af:Array Edge}
  (g base N b o cap:Nat) (us xs:List Int) (hx:a.eval x=.slice (some ⟨g,0,none⟩) N N) (hy:a.eval y=.slice (some ⟨b,o,none⟩) N cap) (hO:Qbc w base g N us) (hu:us.length=N) (hl:xs.length=N)
  (hsrc:∀j,j<N->w.cell? ⟨b,o+j,none⟩=some (.int .i64 (xs.getD j 0)))
  (h:∀w',Qbc w' base g N xs->Below g w w'->wpList Tryz.prog ops Q rest (a.put d (goInt N)) w') :
  wpList Tryz.prog ops Q (⟨d,.call {callee:=.builtin .copy,args:=#[x,y],argTypes:=#[22,22]},ty,pos,af,none⟩ :: rest) a w:=by
 rcases hO.2 with ⟨e,_⟩ | ⟨g',cap',cur,e,hb,hg,h1,h2,h3,h4⟩
 ·cases e
 ·injection e with e1 e2 e3
  injection e1 with e4
  injection e4 with e5
  subst e5 e3;have hcl:cur.toList.length=(xs.map (Value.int .i64)).length:=by simp [h3,hl]
  refine wpList_copy_splice rfl x y 22 22 rfl 3 Tryz.underlying22 Qox _ _ _ _ _ _ hx hy g 0 cur.toList 3 (by rw [Array.toArray_toList];exact hg) (xs.map (Value.int .i64)) (by simp [hl]) (fun _=>⟨rfl,_,rfl,?_⟩) (by rw [hcl];omega) (by simp [Value.oneCell']) g w (Below.refl _ _) (Nat.le_refl _) ?_
  ·intro j v hj
   have hjl:j<N:=by
    have:=(List.getElem?_eq_some_iff.1 hj).1
    simpa [hl] using this
   have e1:v=.int .i64 (xs.getD j 0):=by
    have hjx:j<xs.length:=by omega
    simp [List.getElem?_map,hjx] at hj;rw [<- hj];simp [List.getD,hjx]
   have e2:(⟨b,o,none⟩:Addr).add j=⟨b,o+j,none⟩:=by
    unfold Addr.add;split
    ·rename_i h;simp [h]
    ·rfl
   rw [e2,e1];exact hsrc j hjl
  ·intro w' hg' hb';rw [show (xs.map (Value.int .i64)).length=N by simp [hl]];refine h w' ⟨by simp [hl],Or.inr ⟨g,N,_,rfl,hb,hg'.out,Nat.le_refl _,h2,?_,?_⟩⟩ hb'
   ·rw [Qh9 _ _ hcl];simp [hl]
   ·rw [Qh9 _ _ hcl,List.toList_toArray,Nat.mul_one];exact List.take_of_length_le (by simp [hl])
end Go.Proofs.YthcidnnkakppcaaGreatDoor
namespace Go.Proofs.YthcidnnkakppcaaGreatDoor
open Go.ChangeShapes Go.WideShapes Go.ChangeAt Go.RowKit
open M1
def invS (P B:Nat) (ps xs:List Nat) (i:Nat):Nat->Nat
 | 0=>0
 | c+1=>(invS P B ps xs i c+xs.getD c 0*(B^(ps.getD c 0*i)%P))%P
theorem Q02 (P B:Nat) (ps xs:List Nat) (i:Nat) (hP:0<P):∀c,invS P B ps xs i c<P
 | 0=>hP
 | c+1=>Nat.mod_lt _ hP
def Q03 (P N R:Nat) (xs:List Nat):List Nat:=(List.range N).map (fun i=>invS P (invM R P) (Qvm N) xs i N*invM (N%P) P%P)
theorem Qks (P N R:Nat) (xs:List Nat):(Q03 P N R xs).length=N:=by simp [Q03]
theorem Qqn (P N R:Nat) (xs:List Nat) (k:Nat) (h:k<N):(Q03 P N R xs).getD k 0=invS P (invM R P) (Qvm N) xs k N*invM (N%P) P%P:=by simp [Q03,List.getD,h]
end Go.Proofs.YthcidnnkakppcaaGreatDoor
namespace Go.Proofs.YthcidnnkakppcaaGreatDoor
open Go.ChangeShapes Go.WideShapes Go.ChangeAt Go.RowKit
theorem Qmx (N T E:Int) (ps:List Int) (xsss:List (List (List Int))) (v u:Value) (w:World) (hv:Row w v ps) (hu:Qmd w u xsss) (hl:xsss.length≤1048576) (hr:∀r∈xsss,r.length≤1048576∧∀q∈r,q.length≤1048576) (hs:spB N ps=true) :
  Calls Tryz.prog 21 #[.agg #[.int .i64 N,.int .i64 T,.int .i64 E,v],.agg #[u]] w fun e w'=>e=.returned (.bool (ciB N ps xsss))/\Old w w':=by
 have HV:=Qaa hv;have HU:=Qaa hu;have HR:=Qaa hr;have HS:=Qaa hs;have KI:=fun W=>Ql1 (xsss.length:Int) 2 3 W
 obtain ⟨a0,c0,ev⟩:=hv.slice;obtain ⟨a1,c1,eu⟩:=hu.slice;subst ev eu;have HA:Hid (Old w ((w.alloc (.cells #[.int .i64 N,.int .i64 T,.int .i64 E,.slice a0 ps.length c0] 32)).alloc (.cells #[.slice a1 xsss.length c1] 35))):=((Old.refl w).alloc _).alloc _;have BA:Hid (Bk ((w.alloc (.cells #[.int .i64 N,.int .i64 T,.int .i64 E,.slice a0 ps.length c0] 32)).alloc (.cells #[.slice a1 xsss.length c1] 35)) w.heap.size #[.int .i64 N,.int .i64 T,.int .i64 E,.slice a0 ps.length c0] 32):=(Bk.new' w _ _ rfl).alloc _;clear hv hu hr hs
 by_cases hm:2<=xsss.length/\xsss.length<=3
 case neg=>
  have HB:Hid (ciB N ps xsss=false):=by show _ = _;unfold ciB rdB;rw [decide_eq_false hm];rfl
  have ei:inQ (xsss.length:Int) 2 3=false:=by
   unfold inQ;rw [Bool.and_eq_false_iff]
   by_cases h2:2<=xsss.length
   ·exact .inr (decide_eq_false (by omega))
   ·exact .inl (decide_eq_false (by omega))
  rw [ei] at KI;clear hm ei;go_enter Tryz.func21,Tryz.ntmps21;go_wp2_with fail;refine (KI _).mono ?_
  rintro e w1 ⟨rfl,hw⟩;subst hw;go_wp2_with fail;go_ret;exact ⟨Qa9 HB.out.symm,HA.out⟩
 have ei:inQ (xsss.length:Int) 2 3=true:=by
  unfold inQ;rw [decide_eq_true (show (2:Int)<=(xsss.length:Int) by omega),decide_eq_true (show (xsss.length:Int)<=3 by omega)];rfl
 rw [ei] at KI;have HNo:Hid (∀k,k<xsss.length->rwB N ps (xsss.getD k [])=false->ciB N ps xsss=false):=fun k hk h=>Qyl (B:=fun j=>rwB N ps (xsss.getD j [])) hk h
 have HYes:Hid ((∀k,k<xsss.length->rwB N ps (xsss.getD k [])=true)->ciB N ps xsss=true):=fun h=>Que hm h
 generalize ciB N ps xsss=R at *;clear ei;go_enter Tryz.func21,Tryz.ntmps21;go_wp2_with fail;refine (KI _).mono ?_
 rintro e w1 ⟨rfl,hw⟩;subst hw;go_wp2_with fail
 go_loopw [15] (fun i W=>∃k:Nat,k<=xsss.length/\i=.int .i64 k/\Hid (∀j,j<k->rwB N ps (xsss.getD j [])=true)/\Hid (Old w W)/\Hid (Bk W w.heap.size #[.int .i64 N,.int .i64 T,.int .i64 E,.slice a0 ps.length c0] 32)) (fun i _=>xsss.length - (intOf i).toNat)
 case atStart=>exact ⟨0,by omega,rfl,fun j hj=>by omega,HA,BA⟩
 case round=>
  obtain ⟨k,hk,rfl,H1,HG,BK⟩:=hrel;clear HA BA
  by_cases hlt:k<xsss.length
  ·have d1:decide ((k:Int)<(xsss.length:Int))=true:=decide_eq_true (by omega);rcases HU.out with ⟨a,cap,e,e2⟩ | ⟨b,o,cap,us,e,hb2,h3,hc⟩
   ·subst e2;simp at hlt
   simp only [Value.slice.injEq,true_and] at e;obtain ⟨rfl,rfl⟩:=e;obtain ⟨c1',r1⟩:=hc k hlt;obtain ⟨a2,cap2,e1⟩:=r1.slice;rw [e1] at c1' r1;have q1:=(HG.out.cell (p:=⟨b,o+k,none⟩) hb2).trans c1';have R1:=Qaa (r1.old HG.out);have hmem:xsss.getD k []∈xsss:=by simp [List.getD,hlt]
   have hrl:=HR.out _ hmem;have HN:=Qaa (HNo.out k hlt)
   have HY:Hid (rwB N ps (xsss.getD k [])=true->∀j,j<k+1->rwB N ps (xsss.getD j [])=true):=fun h j hj=>by
    rcases Nat.lt_or_ge j k with h1 | h1
    ·exact H1.out j h1
    ·obtain rfl:j=k:=by omega
     exact h
   have c5:=fun W (h1:Row W (.slice a0 ps.length c0) ps) h2=>Qof N ps (xsss.getD k []) (.slice a0 ps.length c0) (.slice a2 (xsss.getD k []).length cap2) W h1 h2 hrl.1 hrl.2 HS.out
   obtain ⟨r,hr⟩:∃r,rwB N ps (xsss.getD k [])=r:=⟨_,rfl⟩
   rw [hr] at c5 HN HY;generalize xsss.getD k []=xss at *;have z0:=BK.out.c (i:=0) rfl;have z1:=BK.out.c (i:=1) rfl;have z2:=BK.out.c (i:=2) rfl;have z3:=BK.out.c (i:=3) rfl;clear hc c1' r1 e1 hmem hr H1 hrl;go_wp2_with fail;refine (Qbu N T E a0 ps.length c0 _).mono ?_
   rintro e w2 ⟨rfl,g2⟩;have HG2:=Qaa (Old.trans HG.out g2);have BK2:=Qaa (BK.out.old g2);have R2:=Qaa (R1.out.old g2);clear g2 z0 z1 z2 z3 q1;go_wp2_with fail;refine (c5 _ (HV.out.old HG2.out) R2.out).mono ?_
   rintro e w3 ⟨rfl,g3⟩;have HG3:=Qaa (Old.trans HG2.out g3);have BK3:=Qaa (BK2.out.old g3);clear g3 c5
   cases r
   ·have HB:=Qaa (HN.out rfl);go_wp2_with fail;go_ret;exact ⟨Qa9 HB.out.symm,HG3.out⟩
   ·have HB:=Qaa (HY.out rfl);go_wp2_with fail;exact ⟨⟨k+1,by omega,by go_num,HB,HG3,BK3⟩,by simp [intOf];omega⟩
  ·have d1:decide ((k:Int)<(xsss.length:Int))=false:=decide_eq_false (by omega);obtain rfl:k=xsss.length:=by omega
   have HB:=Qaa (HYes.out H1.out);go_wp2_with fail;go_ret;exact ⟨Qa9 HB.out.symm,HG.out⟩
end Go.Proofs.YthcidnnkakppcaaGreatDoor
