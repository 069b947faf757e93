/- Proved: what its theorems say. -/
import Derived.Lib.AppendZeros
import Derived.Test.YtdaepfjocofkjaaGreatDoorEn39
set_option linter.unusedVariables false
set_option linter.unusedSimpArgs false
set_option maxHeartbeats 4000000
set_option maxRecDepth 100000
namespace Go.Proofs.YtdaepfjocofkjaaGreatDoor
open Go.ChangeShapes Go.WideShapes Go.ChangeAt Go.RowKit
open M2
theorem Q07 {w:World} {k:Nat} {x y:Value} {t:TypeId} (h:Bk w k #[x,y] t) (x':Value):Bk (w.setCell ⟨k,0,none⟩ x') k #[x',y] t:=heap_setCell_same w k 0 _ _ x' h
theorem Q08 {w:World} {k:Nat} {x y:Value} {t:TypeId} (h:Bk w k #[x,y] t) (x' y':Value):Bk ((w.setCell ⟨k,0,none⟩ x').setCell ⟨k,1,none⟩ y') k #[x',y'] t:=heap_setCell_same _ k 1 _ _ y' (Q07 h x')
end Go.Proofs.YtdaepfjocofkjaaGreatDoor
namespace Go.Proofs.YtdaepfjocofkjaaGreatDoor
open Go.ChangeShapes Go.WideShapes Go.ChangeAt Go.RowKit
theorem Qiz (gr:Option Addr) (lr cr:Nat) (aA aB:Option Addr) (lA cA lB cB:Nat) (w:World) (b1 b2:Bool) (P1 P2:World->Option Addr->Nat->Nat->Prop)
 (o1:∀W W' p l c,Old W W'->P1 W p l c->P1 W' p l c)
 (s1:∀W p l c v v',P1 W p l c->P1 ((W.setCell ⟨w.heap.size+1,0,none⟩ v).setCell ⟨w.heap.size+1,1,none⟩ v') p l c)
 (s2:∀W p l c v v',P2 W p l c->P2 ((W.setCell ⟨w.heap.size+1,0,none⟩ v).setCell ⟨w.heap.size+1,1,none⟩ v') p l c)
 (K1:∀W,Old w W->w.heap.size+2<=W.heap.size->Calls Tryz.prog 64 #[.slice gr lr cr,.agg #[.bool false,.slice aA lA cA]] W fun e w'=>Old W w'/\∃p l c,e=.returned (.tuple #[.slice p l c,.bool b1])/\P1 w' p l c)
 (K2:∀W,Old w W->w.heap.size+2<=W.heap.size->Calls Tryz.prog 64 #[.slice gr lr cr,.agg #[.bool false,.slice aB lB cB]] W fun e w'=>Old W w'/\∃p l c,e=.returned (.tuple #[.slice p l c,.bool b2])/\P2 w' p l c) :
 Calls Tryz.prog 35 #[.slice gr lr cr,.agg #[.slice aA lA cA,.slice aB lB cB]] w fun e w'=>Old w w'/\∃p l c p' l' c',e=.returned (.tuple #[.agg #[.slice p l c,.slice p' l' c'],.bool (b1&&b2)])/\P1 w' p l c/\P2 w' p' l' c':=by
 have HK1:=Qaa K1;have HK2:=Qaa K2;have HO1:=Qaa o1;have HS1:=Qaa s1;have HS2:=Qaa s2;have HA:Hid (Old w ((w.alloc (.cells #[.slice aA lA cA,.slice aB lB cB] 37)).alloc (.cells #[.slice none 0 0,.slice none 0 0] 74))):=((Old.refl w).alloc _).alloc _;have HSZ:Hid (w.heap.size+2<=((w.alloc (.cells #[.slice aA lA cA,.slice aB lB cB] 37)).alloc (.cells #[.slice none 0 0,.slice none 0 0] 74)).heap.size):=by simp [Hid]
 have BP:Hid (Bk ((w.alloc (.cells #[.slice aA lA cA,.slice aB lB cB] 37)).alloc (.cells #[.slice none 0 0,.slice none 0 0] 74)) w.heap.size #[.slice aA lA cA,.slice aB lB cB] 37):=(Bk.new' w _ _ rfl).alloc _;have BR:Hid (Bk ((w.alloc (.cells #[.slice aA lA cA,.slice aB lB cB] 37)).alloc (.cells #[.slice none 0 0,.slice none 0 0] 74)) (w.heap.size+1) #[.slice none 0 0,.slice none 0 0] 74):=Bk.new' _ _ _ (by simp);clear K1 K2 o1 s1 s2
 cases b1
 all_goals
  go_enter Tryz.func35,Tryz.ntmps35;go_wp2_with fail;refine (HK1.out _ HA.out HSZ.out).mono ?_
  rintro e w1 ⟨g1,p,l,c,rfl,h1⟩;have H1:=Qaa h1;have HG1:=Qaa (Old.trans HA.out g1);have HZ1:=Qaa (Nat.le_trans HSZ.out g1.size);have P1':=Qaa (BP.out.old g1);have R1':=Qaa (BR.out.old g1);clear g1 h1 BP BR HA HK1 HSZ;have z1:=P1'.out.c (i:=1) rfl;go_wp2_with fail;refine (HK2.out _ HG1.out HZ1.out).mono ?_
  rintro e w2 ⟨g2,p',l',c',rfl,h2⟩;have H2:=Qaa h2;have H1':=Qaa (HO1.out _ _ _ _ _ g2 H1.out);have HG2:=Qaa (Old.trans HG1.out g2);have R2':=Qaa (R1'.out.old g2);clear g2 h2 P1' R1' HK2 z1 H1 HO1 HZ1;have z0:=R2'.out.c (i:=0) rfl;have z1:=R2'.out.c (i:=1) rfl;have f0:w2.frozen? ⟨w.heap.size+1,0,none⟩=false:=frozen_of_row _ _ _ _ _ R2'.out
  have f1:w2.frozen? ⟨w.heap.size+1,1,none⟩=false:=frozen_of_row _ _ _ _ _ R2'.out
  go_wp2_with fail;have qq:=Q08 R2'.out (.slice p l c) (.slice p' l' c');have q0:=qq.c (i:=0) rfl;have q1:=qq.c (i:=1) rfl;refine bodyPost_ret (v:=.tuple #[.agg #[.slice p l c,.slice p' l' c'],.bool _]) (by simp [results,Tryz.results35,go_sem,q0,q1];rfl) rfl ?_
  exact ⟨(HG2.out.own (p:=⟨w.heap.size+1,0,none⟩) (by simp) _).own (p:=⟨w.heap.size+1,1,none⟩) (by simp) _,p,l,c,p',l',c',rfl,HS1.out _ _ _ _ _ _ H1'.out,HS2.out _ _ _ _ _ _ H2.out⟩
end Go.Proofs.YtdaepfjocofkjaaGreatDoor
namespace Go.Proofs.YtdaepfjocofkjaaGreatDoor
open Go.ChangeShapes Go.WideShapes Go.ChangeAt Go.RowKit
open M1
theorem Qls (aA aB:Option Addr) (lA cA lB cB:Nat) (w:World) :
 Calls Tryz.prog 35 #[.slice none 0 0,.agg #[.slice aA lA cA,.slice aB lB cB]] w fun e w'=>Old w w'/\∃p l c p' l' c' b,e=.returned (.tuple #[.agg #[.slice p l c,.slice p' l' c'],.bool b]):=by
 have key:∀(a1:Option Addr) (l1 c1:Nat) (W:World),Calls Tryz.prog 64 #[.slice none 0 0,.agg #[.bool false,.slice a1 l1 c1]] W fun e w'=>Old W w'/\∃p l c,e=.returned (.tuple #[.slice p l c,.bool (decide (l1=0))])/\True:=fun a1 l1 c1 W=>
  (Qh9 false l1 a1 c1 W).mono fun e w' h=>by
   obtain ⟨g,⟨hd,e1⟩ | ⟨hd,gg,e1⟩⟩:=h
   ·exact ⟨g,none,0,0,by rw [hd];exact e1,trivial⟩
   ·exact ⟨g,gg,0,0,by rw [hd];exact e1,trivial⟩
 refine (Qiz none 0 0 aA aB lA cA lB cB w _ _ (fun _ _ _ _=>True) (fun _ _ _ _=>True) (fun _ _ _ _ _ _ _=>trivial) (fun _ _ _ _ _ _ _=>trivial) (fun _ _ _ _ _ _ _=>trivial) (fun W _ _=>key aA lA cA W) (fun W _ _=>key aB lB cB W)).mono fun e w' h=>?_
 obtain ⟨g,p,l,c,p',l',c',e1,_⟩:=h;exact ⟨g,p,l,c,p',l',c',_,e1⟩
theorem Qnp (Nn:Nat) (ps:List Int) (Rf:Nat->Int) (xss yss:List (List Int)) (ux uy:Nat->Option Addr) (cx cy:Nat->Nat) (g:Nat) (aA aB:Option Addr) (cA cB:Nat) (w:World) (hN:2<=Nn/\Nn<=16) (hps:1<=ps.length/\ps.length<=6) (hrg:Rgs w g Nn ps Rf ps.length) (hsp:spB Nn ps=true)
 (hlx:xss.length<=1048576) (hrx:∀r∈xss,r.length<=1048576) (hx:0<xss.length->Qd4 w (.slice aA xss.length cA) ps xss ux cx) (hly:yss.length<=1048576) (hry:∀r∈yss,r.length<=1048576) (hy:0<yss.length->Qd4 w (.slice aB yss.length cB) ps yss uy cy) :
 Calls Tryz.prog 35 #[.slice (some ⟨g,0,none⟩) ps.length ps.length,.agg #[.slice aA xss.length cA,.slice aB yss.length cB]] w fun e w'=>Old w w'/\(((rwB Nn ps xss&&rwB Nn ps yss)=false/\∃p l c p' l' c',e=.returned (.tuple #[.agg #[.slice p l c,.slice p' l' c'],.bool false]))∨((rwB Nn ps xss&&rwB Nn ps yss)=true/\∃g1 g2,e=.returned (.tuple #[.agg #[.slice g1 ps.length ps.length,.slice g2 ps.length ps.length],.bool true])/\RdX Nn ps Rf xss w' (.slice g1 ps.length ps.length)/\RdX Nn ps Rf yss w' (.slice g2 ps.length ps.length))):=by
 have key:∀(a1:Option Addr) (zss:List (List Int)) (uz:Nat->Option Addr) (cz:Nat->Nat) (c1:Nat) (hl:zss.length<=1048576) (hr:∀r∈zss,r.length<=1048576) (hz:0<zss.length->Qd4 w (.slice a1 zss.length c1) ps zss uz cz) (W:World),Old w W->w.heap.size+2<=W.heap.size->
  Calls Tryz.prog 64 #[.slice (some ⟨g,0,none⟩) ps.length ps.length,.agg #[.bool false,.slice a1 zss.length c1]] W fun e w'=>Old W w'/\∃p l c,e=.returned (.tuple #[.slice p l c,.bool (rwB Nn ps zss)])/\(rwB Nn ps zss=true->∃g',w.heap.size+2<=g'/\p=some ⟨g',0,none⟩/\l=ps.length/\c=ps.length/\RRs w' g' Nn false ps Rf uz ps.length):=fun a1 zss uz cz c1 hl hr hz W q hq=>
  (Qoj Nn false ps zss Rf uz cz g a1 c1 W (hrg.old q) hsp hl hr (fun h=>(hz h).old q)).mono fun e w' h=>by
   obtain ⟨gg,⟨hd,e1⟩ | ⟨hd,g',hg',e1,hrr⟩⟩:=h
   ·exact ⟨gg,none,0,0,by rw [hd];exact e1,fun h=>by rw [hd] at h;cases h⟩
   ·exact ⟨gg,_,_,_,by rw [hd];exact e1,fun _=>⟨g',by omega,rfl,rfl,rfl,hrr⟩⟩
 have old:∀(zss:List (List Int)) (uz:Nat->Option Addr) (W W':World) (p:Option Addr) (l c:Nat),Old W W'->(rwB Nn ps zss=true->∃g',w.heap.size+2<=g'/\p=some ⟨g',0,none⟩/\l=ps.length/\c=ps.length/\RRs W g' Nn false ps Rf uz ps.length)->(rwB Nn ps zss=true->∃g',w.heap.size+2<=g'/\p=some ⟨g',0,none⟩/\l=ps.length/\c=ps.length/\RRs W' g' Nn false ps Rf uz ps.length):=fun zss uz W W' p l c q h hb=>by
  obtain ⟨g',h1,h2,h3,h4,h5⟩:=h hb;exact ⟨g',h1,h2,h3,h4,h5.old q⟩
 have set:∀(zss:List (List Int)) (uz:Nat->Option Addr) (W:World) (p:Option Addr) (l c:Nat) (v v':Value),(rwB Nn ps zss=true->∃g',w.heap.size+2<=g'/\p=some ⟨g',0,none⟩/\l=ps.length/\c=ps.length/\RRs W g' Nn false ps Rf uz ps.length)->(rwB Nn ps zss=true->∃g',w.heap.size+2<=g'/\p=some ⟨g',0,none⟩/\l=ps.length/\c=ps.length/\RRs ((W.setCell ⟨w.heap.size+1,0,none⟩ v).setCell ⟨w.heap.size+1,1,none⟩ v') g' Nn false ps Rf uz ps.length):=fun zss uz W p l c v v' h hb=>by
  obtain ⟨g',h1,h2,h3,h4,h5⟩:=h hb;refine ⟨g',h1,h2,h3,h4,h5.same ?_⟩;have hne:g'≠w.heap.size+1:=by omega
  exact (heap_setCell_other _ ⟨w.heap.size+1,1,none⟩ g' _ hne).trans (heap_setCell_other _ ⟨w.heap.size+1,0,none⟩ g' _ hne)
 refine (Qiz (some ⟨g,0,none⟩) ps.length ps.length aA aB xss.length cA yss.length cB w _ _ _ _ (old xss ux) (set xss ux) (set yss uy) (key aA xss ux cx cA hlx hrx hx) (key aB yss uy cy cB hly hry hy)).mono fun e w' h=>?_
 obtain ⟨q,p,l,c,p',l',c',e1,h1,h2⟩:=h;refine ⟨q,?_⟩
 cases hb:(rwB Nn ps xss&&rwB Nn ps yss)
 ·rw [hb] at e1;exact .inl ⟨rfl,_,_,_,_,_,_,e1⟩
 ·rw [hb] at e1;obtain ⟨b1,b2⟩:=(Bool.and_eq_true _ _).mp hb;obtain ⟨g1,k1,rfl,rfl,rfl,r1⟩:=h1 b1;obtain ⟨g2,k2,rfl,rfl,rfl,r2⟩:=h2 b2;have l1:=(Qem b1).1;have l2:=(Qem b2).1;obtain ⟨bb,cc,_,hbb,_⟩:=hx (by omega);exact .inr ⟨rfl,_,_,e1,Qt2 (base:=0) (uf:=fun _=>ux) (j:=0) hN ⟨g1,rfl,by omega,r1⟩ ((hx (by omega)).old q) b1,Qt2 (base:=0) (uf:=fun _=>uy) (j:=0) hN ⟨g2,rfl,by omega,r2⟩ ((hy (by omega)).old q) b2⟩
theorem Qw9 {Nn:Nat} {ps:List Int} {Rf:Nat->Int} {z0 z1:List (List Int)} {w:World} {lo m hi:Nat} {s0 s1:Value} (h0:Ows (TS 91 5 ps.length (elR Nn false ps Rf z0)) w lo m [s0]) (h1:Ows (TS 91 5 ps.length (elR Nn false ps Rf z1)) w m hi [s1]) (hlm:lo<=m) (hmh:m<=hi) :
 Ows (TS 72 1 2 (elP Nn false ps Rf [z0,z1])) (w.alloc (.cells #[s0,s1] 72)) lo (w.alloc (.cells #[s0,s1] 72)).heap.size [.slice (some ⟨w.heap.size,0,none⟩) 2 2]:=by
 have hh0:=h0.1;have hh1:=h1.1;have O:Old w (w.alloc (.cells #[s0,s1] 72)):=(Old.refl w).alloc _;obtain ⟨_,B0,t0,b0⟩:=Ows.old (Qe2 _ _ _ (Qcv _ _ _ _ _)) h0 O;obtain ⟨_,B1,t1,b1⟩:=Ows.old (Qe2 _ _ _ (Qcv _ _ _ _ _)) h1 O;have hrow:=World.ownsRow_lit (base:=0) (e:=72) (size:=1) w #[s0,s1] 2 (Nat.zero_le _) (by unfold maxLen;omega) rfl;have hs:(w.alloc (.cells #[s0,s1] 72)).heap.size=w.heap.size+1:=by simp
 refine ⟨Nat.le_refl _,fun b=>b=w.heap.size∨∃j,j<2/\(fun j=>if j=0 then B0 else B1) j b,.inr ⟨w.heap.size,2,[s0,s1],fun j=>if j=0 then B0 else B1,rfl,⟨hrow,fun j hj=>?_,fun j hj=>?_,fun i j hi' hj' hij b p1 p2=>?_⟩,fun b=>Iff.rfl⟩,fun b hb=>?_⟩
 ·rcases (show j=0∨j=1 by omega) with rfl | rfl
  ·exact t0
  ·exact t1
 ·rcases (show j=0∨j=1 by omega) with rfl | rfl
  ·exact fun h=>by have:=b0 _ h;omega
  ·exact fun h=>by have:=b1 _ h;omega
 ·rcases (show i=0∨i=1 by omega) with rfl | rfl
  ·rcases (show j=0∨j=1 by omega) with rfl | rfl
   ·omega
   ·have:=b0 b p1;have:=b1 b p2;omega
  ·rcases (show j=0∨j=1 by omega) with rfl | rfl
   ·have:=b1 b p1;have:=b0 b p2;omega
   ·omega
 ·rcases hb with rfl | ⟨j,hj,hb⟩
  ·omega
  ·rcases (show j=0∨j=1 by omega) with rfl | rfl
   ·have:=b0 b hb;omega
   ·have:=b1 b hb;omega
theorem OwS.ows {xss:List (List Int)} {W:World} {lo hi:Nat} {v:Value} (h:OwS xss W lo hi v):Ows (TSS xss) W lo hi [v]:=⟨h.1,h.tss⟩
theorem Q2w {z0 z1:List (List Int)} {w:World} {lo m hi:Nat} {s0 s1:Value} (h0:Ows (TSS z0) w lo m [s0]) (h1:Ows (TSS z1) w m hi [s1]) (hlm:lo<=m) (hmh:m<=hi) :
 Ows (TTT [z0,z1]) (w.alloc (.cells #[s0,s1] 25)) lo (w.alloc (.cells #[s0,s1] 25)).heap.size [.slice (some ⟨w.heap.size,0,none⟩) 2 2]:=by
 have hh0:=h0.1;have hh1:=h1.1;have O:Old w (w.alloc (.cells #[s0,s1] 25)):=(Old.refl w).alloc _;obtain ⟨_,B0,t0,b0⟩:=Ows.old (Qcd _) h0 O;obtain ⟨_,B1,t1,b1⟩:=Ows.old (Qcd _) h1 O;have hrow:=World.ownsRow_lit (base:=0) (e:=25) (size:=1) w #[s0,s1] 2 (Nat.zero_le _) (by unfold maxLen;omega) rfl;have hs:(w.alloc (.cells #[s0,s1] 25)).heap.size=w.heap.size+1:=by simp
 refine ⟨Nat.le_refl _,fun b=>b=w.heap.size∨∃j,j<2/\(fun j=>if j=0 then B0 else B1) j b,.inr ⟨w.heap.size,2,[s0,s1],fun j=>if j=0 then B0 else B1,rfl,⟨hrow,fun j hj=>?_,fun j hj=>?_,fun i j hi' hj' hij b p1 p2=>?_⟩,fun b=>Iff.rfl⟩,fun b hb=>?_⟩
 ·rcases (show j=0∨j=1 by simp at hj;omega) with rfl | rfl
  ·exact t0
  ·exact t1
 ·rcases (show j=0∨j=1 by simp at hj;omega) with rfl | rfl
  ·exact fun h=>by have:=b0 _ h;omega
  ·exact fun h=>by have:=b1 _ h;omega
 ·rcases (show i=0∨i=1 by simp at hi';omega) with rfl | rfl
  ·rcases (show j=0∨j=1 by simp at hj';omega) with rfl | rfl
   ·omega
   ·have:=b0 b p1;have:=b1 b p2;omega
  ·rcases (show j=0∨j=1 by simp at hj';omega) with rfl | rfl
   ·have:=b1 b p1;have:=b0 b p2;omega
   ·omega
 ·rcases hb with rfl | ⟨j,hj,hb⟩
  ·omega
  ·rcases (show j=0∨j=1 by omega) with rfl | rfl
   ·have:=b0 b hb;omega
   ·have:=b1 b hb;omega
end Go.Proofs.YtdaepfjocofkjaaGreatDoor
