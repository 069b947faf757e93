/- Proved: what its theorems say. -/
import Derived.Test.YtanijpekdnkicaaGreatDoorTc20
import Derived.Lib.AppendZeros
import Derived.Deep.RegionHeld3
import Derived.Test.YtanijpekdnkicaaGreatDoorTc06
import Derived.Test.YtanijpekdnkicaaGreatDoorTc23
import Derived.Test.YtanijpekdnkicaaGreatDoorTc14
import Derived.Test.YtanijpekdnkicaaGreatDoorTc00
import Derived.Test.YtanijpekdnkicaaGreatDoorTc01
import Derived.Deep.RegionWith
import Derived.Deep.RegionLawGrows
import Derived.Test.YtanijpekdnkicaaGreatDoorTc29
import Derived.Test.YtanijpekdnkicaaGreatDoorTc10
import Derived.Test.YtanijpekdnkicaaGreatDoorTc25
import Derived.Test.YtanijpekdnkicaaGreatDoorTc02
import Derived.Test.YtanijpekdnkicaaGreatDoorTc03
import Derived.Test.YtanijpekdnkicaaGreatDoorTc22
import Derived.Test.YtanijpekdnkicaaGreatDoorTc15
import Derived.Test.YtanijpekdnkicaaGreatDoorTc27
import Derived.Test.YtanijpekdnkicaaGreatDoorTc19
import Derived.Test.YtanijpekdnkicaaGreatDoorTc21
import Derived.Test.YtanijpekdnkicaaGreatDoorTc18
import Derived.Test.YtanijpekdnkicaaGreatDoorSzAdd
import Derived.Deep.DeepCutAuto
import Derived.ScopeJumps
import Derived.Test.YtanijpekdnkicaaGreatDoorTc17
import Derived.Lib.BitFns
import Derived.Test.YtanijpekdnkicaaGreatDoorRows
import Derived.Lib.Walk
import Derived.Laws.LoneSync
import Derived.Test.YtanijpekdnkicaaGreatDoorTc31
import Derived.Test.YtanijpekdnkicaaGreatDoorTc13
import Derived.KernelRfl
import Derived.Test.YtanijpekdnkicaaGreatDoorTc16
import Derived.Handy
import Derived.Deep.QuietTactic
import Derived.BigQuiet
import Derived.Test.YtanijpekdnkicaaGreatDoorTc11
namespace Go.Proofs.YtanijpekdnkicaaGreatDoor
open Go.ChangeShapes Go.WideShapes Go.ChangeAt Go.RowKit
open M1
set_option linter.unusedVariables false
set_option linter.unusedSimpArgs false
def oth (ps:List Nat) (i:Nat):List Nat:=ps.take i++ps.drop (i+1)
end Go.Proofs.YtanijpekdnkicaaGreatDoor
namespace Go.Proofs.YtanijpekdnkicaaGreatDoor
open Go.ChangeShapes Go.WideShapes Go.ChangeAt Go.RowKit
set_option linter.unusedVariables false
set_option linter.unusedSimpArgs false
open M2
theorem bk_oneA {w:World} {k:Nat} {x y:Value} {t:TypeId} (h:Bk w k #[x,y] t) (x':Value):Bk (w.setCell ⟨k,0,none⟩ x') k #[x',y] t:=heap_setCell_same w k 0 _ _ x' h
theorem bk_twoA {w:World} {k:Nat} {x y:Value} {t:TypeId} (h:Bk w k #[x,y] t) (x' y':Value):Bk ((w.setCell ⟨k,0,none⟩ x').setCell ⟨k,1,none⟩ y') k #[x',y'] t:=heap_setCell_same _ k 1 _ _ y' (bk_oneA h x')
end Go.Proofs.YtanijpekdnkicaaGreatDoor
namespace Go.Proofs.YtanijpekdnkicaaGreatDoor
open Go.ChangeShapes Go.WideShapes Go.ChangeAt Go.RowKit
set_option linter.unusedVariables false
set_option linter.unusedSimpArgs false
set_option maxRecDepth 100000 in
set_option maxHeartbeats 4000000 in
theorem rowPairIn_w (gr:Option Addr) (lr cr:Nat) (aA aB:Option Addr) (lA cA lB cB:Nat) (w:World) (b1 b2:Bool) (P1 P2:World→Option Addr→Nat→Nat→Prop)
 (o1:∀W W' p l c,Old W W'→P1 W p l c→P1 W' p l c)
 (s1:∀W p l c v v',P1 W p l c→P1 ((W.setCell ⟨w.heap.size+1,0,none⟩ v).setCell ⟨w.heap.size+1,1,none⟩ v') p l c)
 (s2:∀W p l c v v',P2 W p l c→P2 ((W.setCell ⟨w.heap.size+1,0,none⟩ v).setCell ⟨w.heap.size+1,1,none⟩ v') p l c)
 (K1:∀W,Old w W→w.heap.size+2≤W.heap.size→Calls Tryz.prog 115 #[.slice gr lr cr,.agg #[.bool false,.slice aA lA cA]] W fun e w'=>Old W w'∧∃p l c,e=.returned (.tuple #[.slice p l c,.bool b1])∧P1 w' p l c)
 (K2:∀W,Old w W→w.heap.size+2≤W.heap.size→Calls Tryz.prog 115 #[.slice gr lr cr,.agg #[.bool false,.slice aB lB cB]] W fun e w'=>Old W w'∧∃p l c,e=.returned (.tuple #[.slice p l c,.bool b2])∧P2 w' p l c) :
 Calls Tryz.prog 85 #[.slice gr lr cr,.agg #[.slice aA lA cA,.slice aB lB cB]] w fun e w'=>Old w w'∧∃p l c p' l' c',e=.returned (.tuple #[.agg #[.slice p l c,.slice p' l' c'],.bool (b1&&b2)])∧P1 w' p l c∧P2 w' p' l' c':=by
 have HK1:=hidP K1
 have HK2:=hidP K2
 have HO1:=hidP o1
 have HS1:=hidP s1
 have HS2:=hidP s2
 have HA:Hid (Old w ((w.alloc (.cells #[.slice aA lA cA,.slice aB lB cB] 77)).alloc (.cells #[.slice none 0 0,.slice none 0 0] 138))):=((Old.refl w).alloc _).alloc _
 have HSZ:Hid (w.heap.size+2≤((w.alloc (.cells #[.slice aA lA cA,.slice aB lB cB] 77)).alloc (.cells #[.slice none 0 0,.slice none 0 0] 138)).heap.size):=by simp [Hid]
 have BP:Hid (Bk ((w.alloc (.cells #[.slice aA lA cA,.slice aB lB cB] 77)).alloc (.cells #[.slice none 0 0,.slice none 0 0] 138)) w.heap.size #[.slice aA lA cA,.slice aB lB cB] 77):=(Bk.new' w _ _ rfl).alloc _
 have BR:Hid (Bk ((w.alloc (.cells #[.slice aA lA cA,.slice aB lB cB] 77)).alloc (.cells #[.slice none 0 0,.slice none 0 0] 138)) (w.heap.size+1) #[.slice none 0 0,.slice none 0 0] 138):=Bk.new' _ _ _ (by simp)
 clear K1 K2 o1 s1 s2
 cases b1
 all_goals
  go_enter Tryz.func85,Tryz.ntmps85
  go_wp2_with fail
  refine (HK1.out _ HA.out HSZ.out).mono ?_
  rintro e w1 ⟨g1,p,l,c,rfl,h1⟩
  have H1:=hidP h1
  have HG1:Hid (Old w w1):=Old.trans HA.out g1
  have HZ1:Hid (w.heap.size+2≤w1.heap.size):=Nat.le_trans HSZ.out g1.size
  have P1':=hidP (BP.out.old g1)
  have R1':=hidP (BR.out.old g1)
  clear g1 h1 BP BR HA HK1 HSZ
  have z0:=P1'.out.c (i:=0) rfl
  have z1:=P1'.out.c (i:=1) rfl
  go_wp2_with fail
  refine (HK2.out _ HG1.out HZ1.out).mono ?_
  rintro e w2 ⟨g2,p',l',c',rfl,h2⟩
  have H2:=hidP h2
  have H1':=hidP (HO1.out _ _ _ _ _ g2 H1.out)
  have HG2:Hid (Old w w2):=Old.trans HG1.out g2
  have R2':=hidP (R1'.out.old g2)
  clear g2 h2 P1' R1' HK2 z0 z1 H1 HO1 HZ1
  have z0:=R2'.out.c (i:=0) rfl
  have z1:=R2'.out.c (i:=1) rfl
  have f0:w2.frozen? ⟨w.heap.size+1,0,none⟩=false:=frozen_of_row _ _ _ _ _ R2'.out
  have f1:w2.frozen? ⟨w.heap.size+1,1,none⟩=false:=frozen_of_row _ _ _ _ _ R2'.out
  go_wp2_with fail
  have qq:=bk_twoA R2'.out (.slice p l c) (.slice p' l' c')
  have q0:=qq.c (i:=0) rfl
  have q1:=qq.c (i:=1) rfl
  refine bodyPost_ret (v:=.tuple #[.agg #[.slice p l c,.slice p' l' c'],.bool _]) (by simp [results,Tryz.results85,go_sem,q0,q1];rfl) rfl ?_
  exact ⟨(HG2.out.own (p:=⟨w.heap.size+1,0,none⟩) (by simp) _).own (p:=⟨w.heap.size+1,1,none⟩) (by simp) _,p,l,c,p',l',c',rfl,HS1.out _ _ _ _ _ _ H1'.out,HS2.out _ _ _ _ _ _ H2.out⟩
end Go.Proofs.YtanijpekdnkicaaGreatDoor
namespace Go.Proofs.YtanijpekdnkicaaGreatDoor
open Go.ChangeShapes Go.WideShapes Go.ChangeAt Go.RowKit
set_option linter.unusedVariables false
set_option linter.unusedSimpArgs false
open M1
theorem rowPairIn_in (Nn:Nat) (ps:List Int) (Rf:Nat→Int) (xss yss:List (List Int)) (ux uy:Nat→Option Addr) (cx cy:Nat→Nat) (g:Nat) (aA aB:Option Addr) (cA cB:Nat) (w:World) (hN:2≤Nn∧Nn≤16) (hps:1≤ps.length∧ps.length≤6) (hrg:Rgs w g Nn ps Rf ps.length) (hsp:spB Nn ps=true)
 (hlx:xss.length≤1048576) (hrx:∀r∈xss,r.length≤1048576) (hx:0<xss.length→RowsAt w (.slice aA xss.length cA) ps xss ux cx) (hly:yss.length≤1048576) (hry:∀r∈yss,r.length≤1048576) (hy:0<yss.length→RowsAt w (.slice aB yss.length cB) ps yss uy cy) :
 Calls Tryz.prog 85 #[.slice (some ⟨g,0,none⟩) ps.length ps.length,.agg #[.slice aA xss.length cA,.slice aB yss.length cB]] w fun e w'=>Old w w'∧(((rwB Nn ps xss&&rwB Nn ps yss)=false∧∃p l c p' l' c',e=.returned (.tuple #[.agg #[.slice p l c,.slice p' l' c'],.bool false]))∨((rwB Nn ps xss&&rwB Nn ps yss)=true∧∃g1 g2,e=.returned (.tuple #[.agg #[.slice g1 ps.length ps.length,.slice g2 ps.length ps.length],.bool true])∧RdX Nn ps Rf xss w' (.slice g1 ps.length ps.length)∧RdX Nn ps Rf yss w' (.slice g2 ps.length ps.length))):=by
 have key:∀(a1:Option Addr) (zss:List (List Int)) (uz:Nat→Option Addr) (cz:Nat→Nat) (c1:Nat) (hl:zss.length≤1048576) (hr:∀r∈zss,r.length≤1048576) (hz:0<zss.length→RowsAt w (.slice a1 zss.length c1) ps zss uz cz) (W:World),Old w W→w.heap.size+2≤W.heap.size→
  Calls Tryz.prog 115 #[.slice (some ⟨g,0,none⟩) ps.length ps.length,.agg #[.bool false,.slice a1 zss.length c1]] W fun e w'=>Old W w'∧∃p l c,e=.returned (.tuple #[.slice p l c,.bool (rwB Nn ps zss)])∧(rwB Nn ps zss=true→∃g',w.heap.size+2≤g'∧p=some ⟨g',0,none⟩∧l=ps.length∧c=ps.length∧RRs w' g' Nn false ps Rf uz ps.length):=fun a1 zss uz cz c1 hl hr hz W q hq=>
  (impl_rowsIn Nn false ps zss Rf uz cz g a1 c1 W (hrg.old q) hsp hl hr (fun h=>(hz h).old q)).mono fun e w' h=>by
   obtain ⟨gg,⟨hd,e1⟩ | ⟨hd,g',hg',e1,hrr⟩⟩:=h
   ·exact ⟨gg,none,0,0,by rw [hd];exact e1,fun h=>by rw [hd] at h;cases h⟩
   ·exact ⟨gg,_,_,_,by rw [hd];exact e1,fun _=>⟨g',by omega,rfl,rfl,rfl,hrr⟩⟩
 have old:∀(zss:List (List Int)) (uz:Nat→Option Addr) (W W':World) (p:Option Addr) (l c:Nat),Old W W'→(rwB Nn ps zss=true→∃g',w.heap.size+2≤g'∧p=some ⟨g',0,none⟩∧l=ps.length∧c=ps.length∧RRs W g' Nn false ps Rf uz ps.length)→(rwB Nn ps zss=true→∃g',w.heap.size+2≤g'∧p=some ⟨g',0,none⟩∧l=ps.length∧c=ps.length∧RRs W' g' Nn false ps Rf uz ps.length):=fun zss uz W W' p l c q h hb=>by
  obtain ⟨g',h1,h2,h3,h4,h5⟩:=h hb
  exact ⟨g',h1,h2,h3,h4,h5.old q⟩
 have set:∀(zss:List (List Int)) (uz:Nat→Option Addr) (W:World) (p:Option Addr) (l c:Nat) (v v':Value),(rwB Nn ps zss=true→∃g',w.heap.size+2≤g'∧p=some ⟨g',0,none⟩∧l=ps.length∧c=ps.length∧RRs W g' Nn false ps Rf uz ps.length)→(rwB Nn ps zss=true→∃g',w.heap.size+2≤g'∧p=some ⟨g',0,none⟩∧l=ps.length∧c=ps.length∧RRs ((W.setCell ⟨w.heap.size+1,0,none⟩ v).setCell ⟨w.heap.size+1,1,none⟩ v') g' Nn false ps Rf uz ps.length):=fun zss uz W p l c v v' h hb=>by
  obtain ⟨g',h1,h2,h3,h4,h5⟩:=h hb
  refine ⟨g',h1,h2,h3,h4,h5.same ?_⟩
  have hne:g'≠w.heap.size+1:=by omega
  exact (heap_setCell_other _ ⟨w.heap.size+1,1,none⟩ g' _ hne).trans (heap_setCell_other _ ⟨w.heap.size+1,0,none⟩ g' _ hne)
 refine (rowPairIn_w (some ⟨g,0,none⟩) ps.length ps.length aA aB xss.length cA yss.length cB w _ _ _ _ (old xss ux) (set xss ux) (set yss uy) (key aA xss ux cx cA hlx hrx hx) (key aB yss uy cy cB hly hry hy)).mono fun e w' h=>?_
 obtain ⟨q,p,l,c,p',l',c',e1,h1,h2⟩:=h
 refine ⟨q,?_⟩
 cases hb:(rwB Nn ps xss&&rwB Nn ps yss)
 ·rw [hb] at e1
  exact .inl ⟨rfl,_,_,_,_,_,_,e1⟩
 ·rw [hb] at e1
  obtain ⟨b1,b2⟩:=(Bool.and_eq_true _ _).mp hb
  obtain ⟨g1,k1,rfl,rfl,rfl,r1⟩:=h1 b1
  obtain ⟨g2,k2,rfl,rfl,rfl,r2⟩:=h2 b2
  have l1:=(rw_parts b1).1
  have l2:=(rw_parts b2).1
  obtain ⟨bb,cc,_,hbb,_⟩:=hx (by omega)
  exact .inr ⟨rfl,_,_,e1,RdX_ofZ (base:=0) (uf:=fun _=>ux) (j:=0) hN ⟨g1,rfl,by omega,r1⟩ ((hx (by omega)).old q) b1,RdX_ofZ (base:=0) (uf:=fun _=>uy) (j:=0) hN ⟨g2,rfl,by omega,r2⟩ ((hy (by omega)).old q) b2⟩
end Go.Proofs.YtanijpekdnkicaaGreatDoor
namespace Go.Proofs.YtanijpekdnkicaaGreatDoor
open Go.ChangeShapes Go.WideShapes Go.ChangeAt Go.RowKit
open M1
open M2
set_option linter.unusedVariables false
set_option linter.unusedSimpArgs false
def PkT (w:World) (b:Nat) (ps:List Int) (kss:List PrV) (aA aB:Nat→Option Addr) (cA cB:Nat→Nat) (ux uy:Nat→Nat→Option Addr) (dx dy:Nat→Nat→Nat):Prop:=
 b<w.heap.size∧∀j,j<kss.length→w.cell? ⟨b,j*2,none⟩=some (.slice (aA j) (pk kss j).1.length (cA j))∧w.cell? ⟨b,j*2+1,none⟩=some (.slice (aB j) (pk kss j).2.length (cB j))∧(0<(pk kss j).1.length→RowsAt w (.slice (aA j) (pk kss j).1.length (cA j)) ps (pk kss j).1 (ux j) (dx j))∧(0<(pk kss j).2.length→RowsAt w (.slice (aB j) (pk kss j).2.length (cB j)) ps (pk kss j).2 (uy j) (dy j))
theorem PkT.old {w w':World} {b:Nat} {ps:List Int} {kss:List PrV} {aA aB:Nat→Option Addr} {cA cB:Nat→Nat} {ux uy:Nat→Nat→Option Addr} {dx dy:Nat→Nat→Nat} (h:PkT w b ps kss aA aB cA cB ux uy dx dy) (g:Old w w'):PkT w' b ps kss aA aB cA cB ux uy dx dy:=
 ⟨Nat.lt_of_lt_of_le h.1 g.size,fun j hj=>⟨(g.cell (p:=⟨b,j*2,none⟩) h.1).trans (h.2 j hj).1,(g.cell (p:=⟨b,j*2+1,none⟩) h.1).trans (h.2 j hj).2.1,fun h0=>((h.2 j hj).2.2.1 h0).old g,fun h0=>((h.2 j hj).2.2.2 h0).old g⟩⟩
def PkV (w:World) (v:Value) (ps:List Int) (kss:List PrV):Prop:=
 (∃a cap,v=.slice a 0 cap∧kss=[])∨∃b cap aA aB cA cB ux uy dx dy,v=.slice (some ⟨b,0,none⟩) kss.length cap∧0<kss.length∧PkT w b ps kss aA aB cA cB ux uy dx dy
theorem PkV.old {w w':World} {v:Value} {ps:List Int} {kss:List PrV} (h:PkV w v ps kss) (g:Old w w'):PkV w' v ps kss:=by
 rcases h with h | ⟨b,cap,aA,aB,cA,cB,ux,uy,dx,dy,e,h0,h⟩
 ·exact .inl h
 ·exact .inr ⟨b,cap,aA,aB,cA,cB,ux,uy,dx,dy,e,h0,h.old g⟩
theorem PkV.slice {w:World} {v:Value} {ps:List Int} {kss:List PrV} (h:PkV w v ps kss):∃a c,v=.slice a kss.length c:=by
 rcases h with ⟨a,cap,e,e2⟩ | ⟨b,cap,aA,aB,cA,cB,ux,uy,dx,dy,e,h0,h⟩
 ·exact ⟨a,cap,by rw [e,e2];rfl⟩
 ·exact ⟨_,_,e⟩
theorem TKS.at {kss:List PrV} {W:World} {B:Nat→Prop} {v:Value} (ps:List Int) (h:TKS kss W B [v]):PkV W v ps kss:=by
 rcases h with ⟨h0,h1,_⟩ | ⟨p,cap,vs,Bs,e,hc,_⟩
 ·simp at h1
  exact .inl ⟨none,0,h1,List.length_eq_zero_iff.1 h0⟩
 ·simp at e
  subst e
  rcases Nat.eq_zero_or_pos kss.length with h0 | h0
  ·rw [h0]
   exact .inl ⟨_,_,rfl,List.length_eq_zero_iff.1 h0⟩
  ·have key:∀j,∃q:(Option Addr×Nat×(Nat→Option Addr)×(Nat→Nat))×Option Addr×Nat×(Nat→Option Addr)×(Nat→Nat),j<kss.length→W.cell? ⟨p,j*2,none⟩=some (.slice q.1.1 (pk kss j).1.length q.1.2.1)∧W.cell? ⟨p,j*2+1,none⟩=some (.slice q.2.1 (pk kss j).2.length q.2.2.1)∧(0<(pk kss j).1.length→RowsAt W (.slice q.1.1 (pk kss j).1.length q.1.2.1) ps (pk kss j).1 q.1.2.2.1 q.1.2.2.2)∧(0<(pk kss j).2.length→RowsAt W (.slice q.2.1 (pk kss j).2.length q.2.2.1) ps (pk kss j).2 q.2.2.2.1 q.2.2.2.2):=fun j=>by
    by_cases hj:j<kss.length
    ·obtain ⟨x,y,B1,B2,e,hE,hF,_⟩:=hc.el j hj
     have c0:=hc.cell j 0 hj (by omega)
     have c1:=hc.cell j 1 hj (by omega)
     rw [e] at c0 c1
     obtain ⟨a1,d1,rfl⟩:=TSS.slice hE
     obtain ⟨a2,d2,rfl⟩:=TSS.slice hF
     obtain ⟨u1,s1,r1⟩:=(TSS.whole hE).ats ps
     obtain ⟨u2,s2,r2⟩:=(TSS.whole hF).ats ps
     exact ⟨((a1,d1,u1,s1),a2,d2,u2,s2),fun _=>⟨c0,c1,r1,r2⟩⟩
    ·exact ⟨((none,0,fun _=>none,fun _=>0),none,0,fun _=>none,fun _=>0),fun h=>absurd h hj⟩
   obtain ⟨f,hf⟩:=Classical.skolem.1 key
   exact .inr ⟨p,cap,fun j=>(f j).1.1,fun j=>(f j).2.1,fun j=>(f j).1.2.1,fun j=>(f j).2.2.1,fun j=>(f j).1.2.2.1,fun j=>(f j).2.2.2.1,fun j=>(f j).1.2.2.2,fun j=>(f j).2.2.2.2,rfl,h0,ownsRow_lt hc.row,hf⟩
end Go.Proofs.YtanijpekdnkicaaGreatDoor
namespace Go.Proofs.YtanijpekdnkicaaGreatDoor
open Go.ChangeShapes Go.WideShapes Go.ChangeAt Go.RowKit
open M1
set_option linter.unusedVariables false
set_option linter.unusedSimpArgs false
theorem RdX.put {N:Int} {ps:List Int} {Rf:Nat→Int} {xss:List (List Int)} {W:World} {v:Value} (h0:0<ps.length) (h:RdX N ps Rf xss W v) {k:Nat} (noI:∀o (x:Int),W.cell? ⟨k,o,none⟩≠some (.int .i64 x)) (i:Nat) (z:Value):RdX N ps Rf xss (W.setCell ⟨k,i,none⟩ z) v:=by
 obtain ⟨us,⟨b,cap,e,hbl,hc⟩,hus⟩:=h
 have hbk:b≠k:=fun e=>by
  subst e
  exact noI _ _ (hc 0 h0).1
 have oth:∀b' o,b'≠k→(W.setCell ⟨k,i,none⟩ z).cell? ⟨b',o,none⟩=W.cell? ⟨b',o,none⟩:=fun b' o hne=>World.cell?_of_block (heap_setCell_other W ⟨k,i,none⟩ b' _ hne)
 refine ⟨us,⟨b,cap,e,by simpa using hbl,fun q hq=>?_⟩,fun q hq=>⟨?_,(hus q hq).2⟩⟩
 ·obtain ⟨h1,h2,h3,h4,h5⟩:=hc q hq
  refine ⟨?_,?_,?_,?_,?_⟩ <;> rw [oth _ _ hbk] <;> assumption
 ·rcases (hus q hq).1 with hr | ⟨b',o',cap',e',hb',h0',hc'⟩
  ·exact .inl hr
  ·have hne:b'≠k:=fun e=>by
    subst e
    exact noI _ _ (hc' 0 h0')
   exact .inr ⟨b',o',cap',e',by simpa using hb',h0',fun j hj=>by rw [oth _ _ hne];exact hc' j hj⟩
theorem noI3 {W:World} {k:Nat} {a0 a1 a2:Option Addr} {l0 c0 l1 c1 l2 c2:Nat} {t:TypeId} (h:Bk W k #[.slice a0 l0 c0,.slice a1 l1 c1,.slice a2 l2 c2] t):∀o (x:Int),W.cell? ⟨k,o,none⟩≠some (.int .i64 x):=fun o x hx=>by
 rw [cell_of_row _ _ _ _ _ _ h] at hx
 rcases o with _ | _ | _ | o
 ·simp at hx
 ·simp at hx
 ·simp at hx
 ·simp at hx
theorem noIr {W:World} {base g n:Nat} {T:TypeId} {vs:List Value} (h:W.ownsRow base T 2 (.slice (some ⟨g,0,none⟩) n n) n vs) (hs:∀(i:Nat) (y:Value),vs[i]? = some y→∃a l c,y=.slice a l c):∀o (x:Int),W.cell? ⟨g,o,none⟩≠some (.int .i64 x):=fun o x hx=>by
 by_cases ho:o<n*2
 ·rw [World.ownsRow.cellAt h o ho] at hx
  obtain ⟨a,l,c,e⟩:=hs o _ hx
  cases e
 ·rcases h.2 with ⟨h',_⟩ | ⟨g',cap',cur,h',hb,hg,hnc,hcm,hcs,htake⟩
  ·simp at h'
  ·simp only [Value.slice.injEq,Option.some.injEq,Addr.mk.injEq,and_true,true_and] at h'
   obtain ⟨rfl,rfl⟩:=h'
   rw [cell_of_row W g o cur T (0,0) hg] at hx
   have:=(Array.getElem?_eq_some_iff.1 hx).1
   omega
theorem make_slices {n i:Nat} {y:Value} (hy:(madeCells (Value.agg #[.slice none 0 0,.slice none 0 0]).cells n).toList[i]? = some y):∃a l c,y=.slice a l c:=by
 have hi:=(List.getElem?_eq_some_iff.1 hy).1
 rw [List.getElem?_eq_getElem hi] at hy
 cases hy
 simp only [Array.length_toList] at hi
 simp only [Array.getElem_toList,madeCells,Array.getElem_map,Array.getElem_range]
 have e:(Value.agg #[.slice none 0 0,.slice none 0 0]).cells=#[.slice none 0 0,.slice none 0 0]:=rfl
 rw [e]
 have h2:i%(#[Value.slice none 0 0,.slice none 0 0]:Array Value).size=i%2:=rfl
 rw [h2]
 rcases (show i%2=0∨i%2=1 by omega) with h | h <;> rw [h] <;> exact ⟨_,_,_,rfl⟩
theorem set_slices {vs:List Value} (h:∀(i:Nat) (y:Value),vs[i]? = some y→∃a l c,y=.slice a l c) (j:Nat) (a:Option Addr) (l c:Nat):∀(i:Nat) (y:Value),(vs.set j (.slice a l c))[i]? = some y→∃a l c,y=.slice a l c:=fun i y hy=>by
 rw [List.getElem?_set] at hy
 split at hy
 ·split at hy
  ·cases hy
   exact ⟨_,_,_,rfl⟩
  ·cases hy
 ·exact h i y hy
def PkR (Nn:Nat) (ps:List Int) (Rf:Nat→Int) (kss:List PrV) (W:World) (gp:Nat) (ga gb:Nat→Option Addr):Prop:=
 gp<W.heap.size∧∀j,j<ps.length→W.cell? ⟨gp,j*2,none⟩=some (.slice (ga j) ps.length ps.length)∧W.cell? ⟨gp,j*2+1,none⟩=some (.slice (gb j) ps.length ps.length)∧RdX Nn ps Rf (pk kss j).1 W (.slice (ga j) ps.length ps.length)∧RdX Nn ps Rf (pk kss j).2 W (.slice (gb j) ps.length ps.length)
theorem PkR.old {Nn:Nat} {ps:List Int} {Rf:Nat→Int} {kss:List PrV} {W W':World} {gp:Nat} {ga gb:Nat→Option Addr} (h:PkR Nn ps Rf kss W gp ga gb) (g:Old W W'):PkR Nn ps Rf kss W' gp ga gb:=
 ⟨Nat.lt_of_lt_of_le h.1 g.size,fun j hj=>by
  obtain ⟨h1,h2,h3,h4⟩:=h.2 j hj
  exact ⟨(g.cell (p:=⟨gp,j*2,none⟩) h.1).trans h1,(g.cell (p:=⟨gp,j*2+1,none⟩) h.1).trans h2,h3.old g,h4.old g⟩⟩
def RpA (Nn:Nat) (ps:List Int) (Rf:Nat→Int) (kss:List PrV) (w:World) (e:Ending) (w':World):Prop:=
 Old w w'∧(((decide (kss.length=ps.length)&&pkB Nn ps kss)=false∧∃p l c,e=.returned (.tuple #[.slice p l c,.bool false]))∨((decide (kss.length=ps.length)&&pkB Nn ps kss)=true∧∃gp ga gb,e=.returned (.tuple #[.slice (some ⟨gp,0,none⟩) ps.length ps.length,.bool true])∧PkR Nn ps Rf kss w' gp ga gb))
theorem Tryz.infoRowPair:(Tryz.prog.info? 138).map (fun i=>(i.zero,i.size,i.bytes))=some (some (.agg #[.slice none 0 0,.slice none 0 0]),2,48):=by kernel_rfl
set_option maxRecDepth 100000 in
set_option maxHeartbeats 8000000 in
theorem readPairs_any (Nn:Nat) (T E:Int) (a3:Option Addr) (l3 c3:Nat) (g:Nat) (a6:Option Addr) (l6 c6:Nat) (ps:List Int) (Rf:Nat→Int) (kss:List PrV) (u:Value) (w:World) (hN:2≤Nn∧Nn≤16) (hps:1≤ps.length∧ps.length≤6) (hrg:Rgs w g Nn ps Rf ps.length) (hs:spB Nn ps=true) (hu:PkV w u ps kss) (hl:kss.length≤1048576) (hr:∀r∈kss,PrLe 1048576 r) :
 Calls Tryz.prog 43 #[.agg #[.int .i64 (Nn:Int),.int .i64 T,.int .i64 E,.slice a3 l3 c3,.slice (some ⟨g,0,none⟩) ps.length ps.length,.bool false,.slice a6 l6 c6],u] w (RpA Nn ps Rf kss w):=by
 have HU:=hidP hu
 have HR:=hidP hr
 obtain ⟨i0,hi,hz0,hz1,hz2⟩:=info_parts Tryz.infoRowPair
 obtain ⟨a1,c1,rfl⟩:=hu.slice
 have HA:Hid (Old w (w.alloc (.cells #[.int .i64 (Nn:Int),.int .i64 T,.int .i64 E,.slice a3 l3 c3,.slice (some ⟨g,0,none⟩) ps.length ps.length,.bool false,.slice a6 l6 c6] 81))):=(Old.refl w).alloc _
 have BA:Hid (Bk (w.alloc (.cells #[.int .i64 (Nn:Int),.int .i64 T,.int .i64 E,.slice a3 l3 c3,.slice (some ⟨g,0,none⟩) ps.length ps.length,.bool false,.slice a6 l6 c6] 81)) w.heap.size #[.int .i64 (Nn:Int),.int .i64 T,.int .i64 E,.slice a3 l3 c3,.slice (some ⟨g,0,none⟩) ps.length ps.length,.bool false,.slice a6 l6 c6] 81):=Bk.new' w _ _ rfl
 have KP:=hidP (fun (xss yss:List (List Int)) W (q:Old w W) (aA aB:Option Addr) (cA cB:Nat) (ux uy:Nat→Option Addr) (dx dy:Nat→Nat) (hx:0<xss.length→RowsAt W (.slice aA xss.length cA) ps xss ux dx) (hy:0<yss.length→RowsAt W (.slice aB yss.length cB) ps yss uy dy) (hq:PrLe 1048576 (xss,yss))=>rowPairIn_in Nn ps Rf xss yss ux uy dx dy g aA aB cA cB W hN hps (hrg.old q) hs (by have:((xss.length:Nat):Int)≤1048576:=hq.1.1;omega) (fun r hr=>by have:((r.length:Nat):Int)≤1048576:=hq.1.2 r hr;omega) hx (by have:((yss.length:Nat):Int)≤1048576:=hq.2.1;omega) (fun r hr=>by have:((r.length:Nat):Int)≤1048576:=hq.2.2 r hr;omega) hy)
 have h0p:0<ps.length:=hps.1
 have hp6:ps.length≤6:=hps.2
 clear hu hr hs hrg hN hps
 have x4:=BA.out.c (i:=4) rfl
 by_cases hm:kss.length=ps.length
 case neg=>
  have HB:Hid ((decide (kss.length=ps.length)&&pkB Nn ps kss)=false):=by show _ = _;rw [decide_eq_false hm];rfl
  have d:((kss.length:Int) != (ps.length:Int))=true:=by simp;omega
  clear hm
  go_enter Tryz.func43,Tryz.ntmps43
  go_wp2_with fail
  go_ret2
  exact ⟨HA.out,.inl ⟨HB.out,_,_,_,rfl⟩⟩
 have d:((kss.length:Int) != (ps.length:Int))=false:=by simp;omega
 have HNo:Hid (∀k,k<kss.length→prG Nn ps (pk kss k)=false→(decide (kss.length=ps.length)&&pkB Nn ps kss)=false):=fun k hk h=>by rw [pkB_no k hk h,Bool.and_false]
 have HYes:Hid ((∀k,k<kss.length→prG Nn ps (pk kss k)=true)→(decide (kss.length=ps.length)&&pkB Nn ps kss)=true):=fun h=>by rw [pkB_yes h,decide_eq_true hm];rfl
 have HM:=hidP hm
 clear hm
 obtain ⟨W0,hW0⟩:∃B:World,w.alloc (.cells #[.int .i64 (Nn:Int),.int .i64 T,.int .i64 E,.slice a3 l3 c3,.slice (some ⟨g,0,none⟩) ps.length ps.length,.bool false,.slice a6 l6 c6] 81)=B:=⟨_,rfl⟩
 rw [hW0] at HA BA x4
 obtain ⟨kp,hkp⟩:∃k,w.heap.size=k:=⟨_,rfl⟩
 have HKP:=hidP hkp
 rw [hkp] at BA x4
 have HKS:Hid (W0.heap.size=kp+1):=by show _ = _;rw [← hW0,← hkp];simp
 obtain ⟨nk,hnk⟩:∃k,kss.length=k:=⟨_,rfl⟩
 have HNK:=hidP hnk
 have hnkl:nk≤6:=by have:=HM.out;omega
 rw [hnk] at d ⊢
 clear hnk hl
 go_enter Tryz.func43,Tryz.ntmps43
 go_wp2_with (at_make;refine wpList_make_full _ rfl _ _ 89 rfl 0 138 i0 (.agg #[.slice none 0 0,.slice none 0 0]) 2 Tryz.underlying89 hi hz0 hz1 .i64 .i64 _ _ nk rfl rfl rfl rfl (by rw [hz2];omega) (by unfold maxLen;omega) (Nat.zero_le _) ?_;intro w1 hown hgrow)
 have HG1:Hid (Old W0 w1):=Below.grown (Below.refl _ _) hgrow (Nat.le_refl _) (fun _ h=>by cases h)
 have HG:=hidP (Old.trans HA.out HG1.out)
 have HBK:=hidP (BA.out.old HG1.out)
 obtain ⟨gp,hgp⟩:∃k,W0.heap.size=k:=⟨_,rfl⟩
 rw [hgp] at hown ⊢
 have HGP:Hid (kp<gp):=by
  have h:=HKS.out
  show kp<gp
  omega
 have HO:Hid (w1.ownsRow 0 138 2 (.slice (some ⟨gp,0,none⟩) nk nk) nk _):=hown
 clear hgrow hown hgp HKS HG1 HA BA x4 hW0 hkp d
 go_wp2_with fail
 go_loopw [22] (fun i W=>∃(k:Nat) (vs:List Value) (ga gb:Nat→Option Addr),k≤nk∧i=.int .i64 k∧Hid (∀j,j<k→prG Nn ps (pk kss j)=true)∧Hid (Old w W)∧Hid (Bk W kp #[.int .i64 (Nn:Int),.int .i64 T,.int .i64 E,.slice a3 l3 c3,.slice (some ⟨g,0,none⟩) ps.length ps.length,.bool false,.slice a6 l6 c6] 81)∧Hid (W.ownsRow 0 138 2 (.slice (some ⟨gp,0,none⟩) nk nk) nk vs)∧Hid (∀(i:Nat) (y:Value),vs[i]? = some y→∃a l c,y=.slice a l c)∧Hid (∀j,j<k→vs[j*2]? = some (.slice (ga j) ps.length ps.length)∧vs[j*2+1]? = some (.slice (gb j) ps.length ps.length)∧RdX Nn ps Rf (pk kss j).1 W (.slice (ga j) ps.length ps.length)∧RdX Nn ps Rf (pk kss j).2 W (.slice (gb j) ps.length ps.length))) (fun i _=>nk - (intOf i).toNat)
 case atStart=>exact ⟨0,_,fun _=>none,fun _=>none,by omega,rfl,fun j hj=>by omega,HG,HBK,HO,fun i y hy=>make_slices hy,fun j hj=>by omega⟩
 case round=>
  obtain ⟨k,vs,ga,gb,hk,rfl,H1,HG2,BK,HO2,HS,HX⟩:=hrel
  clear HG HBK HO
  by_cases hlt:k<nk
  ·have d1:decide ((k:Int)<(nk:Int))=true:=decide_eq_true (by omega)
   have hltk:k<kss.length:=by have:=HNK.out;omega
   rcases HU.out with ⟨a,cap,e,e2⟩ | ⟨b,cap,aA,aB,cA,cB,ux,uy,dx,dy,e,h3,hc⟩
   ·subst e2
    simp at hltk
   have e':a1=some ⟨b,0,none⟩∧c1=cap:=by simpa using e
   obtain ⟨rfl,rfl⟩:=e'
   clear e
   obtain ⟨s1,s2,r1,r2⟩:=(hc.old HG2.out).2 k hltk
   have hmem:pk kss k∈kss:=by simp [pk,List.getD,hltk]
   have HQ:=hidP (HR.out _ hmem)
   have R1:=hidP r1
   have R2:=hidP r2
   have HN1:=hidP (HNo.out k hltk)
   have H1s:Hid (prG Nn ps (pk kss k)=true→∀j,j<k+1→prG Nn ps (pk kss j)=true):=fun h j hj=>by
    rcases Nat.lt_or_ge j k with h5 | h5
    ·exact H1.out j h5
    ·obtain rfl:j=k:=by omega
     exact h
   have HPK:Hid (∀(X:PrV→Prop),X (pk kss k)→X (pk kss k)):=fun X h=>h
   clear hc r1 r2 hmem H1 h3
   obtain ⟨q,hq⟩:∃q,pk kss k=q:=⟨_,rfl⟩
   have HEQ:=hidP hq
   rw [hq] at s1 s2 R1 R2 HQ HN1 H1s
   clear hq HPK
   obtain ⟨xss,yss⟩:=q
   simp only at s1 s2
   generalize aA k=xA at *
   generalize cA k=zA at *
   generalize aB k=xB at *
   generalize cB k=zB at *
   obtain ⟨W1,hW1⟩:∃B:World,wr.alloc (.cells #[.slice xA xss.length zA,.slice xB yss.length zB] 77)=B:=⟨_,rfl⟩
   have O1:Old wr W1:=by rw [← hW1];exact (Old.refl wr).alloc _
   have X1:Hid (Bk W1 wr.heap.size #[.slice xA xss.length zA,.slice xB yss.length zB] 77):=by rw [← hW1];exact Bk.new' wr _ _ rfl
   have B1:=hidP (BK.out.old O1)
   have G1:=hidP (Old.trans HG2.out O1)
   have OO1:=hidP O1
   have K1:=hidP (KP.out xss yss W1 G1.out xA xB zA zB (ux k) (uy k) (dx k) (dy k) (fun h=>(R1.out h).old O1) (fun h=>(R2.out h).old O1) HQ.out)
   obtain ⟨kq,hkq⟩:∃k,wr.heap.size=k:=⟨_,rfl⟩
   rw [hkq] at X1
   have y4:=B1.out.c (i:=4) rfl
   have z0:=X1.out.c (i:=0) rfl
   have z1:=X1.out.c (i:=1) rfl
   clear O1 R1 R2 HQ KP
   go_wp2_with fail
   refine K1.out.mono ?_
   rintro e w2 ⟨g2,h⟩
   have G2:=hidP (Old.trans G1.out g2)
   have B2:=hidP (B1.out.old g2)
   have Q2:=hidP (Old.trans OO1.out g2)
   clear g2 y4 z0 z1 K1 hW1 hkq
   rcases h with ⟨hg,p,l,c,p',l',c',rfl⟩ | ⟨hg,g1,g2,rfl,hra,hrb⟩
   ·have HF:=hidP (HN1.out hg)
    clear hg H1s HN1
    go_wp2_with fail
    go_ret2
    exact ⟨G2.out.alloc _,.inl ⟨HF.out,_,_,_,rfl⟩⟩
   ·have HS1:=hidP (H1s.out hg)
    clear hg H1s HN1
    obtain ⟨W3,hW3⟩:∃B:World,w2.alloc (.cells #[.slice g1 ps.length ps.length,.slice g2 ps.length ps.length] 138)=B:=⟨_,rfl⟩
    have O3:Old w2 W3:=by rw [← hW3];exact (Old.refl w2).alloc _
    have X3:Hid (Bk W3 w2.heap.size #[.slice g1 ps.length ps.length,.slice g2 ps.length ps.length] 138):=by rw [← hW3];exact Bk.new' w2 _ _ rfl
    have Q3:=Old.trans Q2.out O3
    have hlt3:=ownsRow_lt HO2.out
    have HO3:=hidP (ownsRow_far HO2.out (Q3.block gp hlt3))
    have B3:=hidP (B2.out.old O3)
    have G3:=hidP (Old.trans G2.out O3)
    have RA3:=hidP (hra.old O3)
    have RB3:=hidP (hrb.old O3)
    have HX3:Hid (∀j,j<k→RdX Nn ps Rf (pk kss j).1 W3 (.slice (ga j) ps.length ps.length)∧RdX Nn ps Rf (pk kss j).2 W3 (.slice (gb j) ps.length ps.length)):=fun j hj=>⟨(HX.out j hj).2.2.1.old Q3,(HX.out j hj).2.2.2.old Q3⟩
    have HXV:Hid (∀j,j<k→vs[j*2]? = some (.slice (ga j) ps.length ps.length)∧vs[j*2+1]? = some (.slice (gb j) ps.length ps.length)):=fun j hj=>⟨(HX.out j hj).1,(HX.out j hj).2.1⟩
    have hvl:vs.length=nk*2:=HO3.out.1
    obtain ⟨v0,hv0⟩:∃y,W3.cell? ⟨gp,k*2,none⟩=some y:=⟨_,(World.ownsRow.cellAt HO3.out (k*2) (by omega)).trans (List.getElem?_eq_getElem (by omega))⟩
    obtain ⟨v1,hv1⟩:∃y,W3.cell? ⟨gp,k*2+1,none⟩=some y:=⟨_,(World.ownsRow.cellAt HO3.out (k*2+1) (by omega)).trans (List.getElem?_eq_getElem (by omega))⟩
    have f0:W3.frozen? ⟨gp,k*2,none⟩=false:=World.ownsRow.frozenAt HO3.out _
    have f1:W3.frozen? ⟨gp,k*2+1,none⟩=false:=World.ownsRow.frozenAt HO3.out _
    have HI3:=noIr HO3.out HS.out
    have HO4:=(World.ownsRow.stored HO3.out (k*2) (.slice g1 ps.length ps.length)).1
    have HS4:=set_slices HS.out (k*2) g1 ps.length ps.length
    have HI4:=noIr HO4 HS4
    have HO5:=hidP (World.ownsRow.stored HO4 (k*2+1) (.slice g2 ps.length ps.length)).1
    have HS5:=hidP (set_slices HS4 (k*2+1) g2 ps.length ps.length)
    have PUT:Hid (∀xss v,RdX Nn ps Rf xss W3 v→RdX Nn ps Rf xss ((W3.setCell ⟨gp,k*2,none⟩ (.slice g1 ps.length ps.length)).setCell ⟨gp,k*2+1,none⟩ (.slice g2 ps.length ps.length)) v):=fun xss v h=>(h.put h0p HI3 _ _).put h0p HI4 _ _
    have hkp':=HKP.out
    have hgp':=HGP.out
    have G5:Hid (Old w ((W3.setCell ⟨gp,k*2,none⟩ (.slice g1 ps.length ps.length)).setCell ⟨gp,k*2+1,none⟩ (.slice g2 ps.length ps.length))):=(G3.out.own (p:=⟨gp,k*2,none⟩) (by show w.heap.size≤gp;omega) _).own (p:=⟨gp,k*2+1,none⟩) (by show w.heap.size≤gp;omega) _
    have B5:Hid (Bk ((W3.setCell ⟨gp,k*2,none⟩ (.slice g1 ps.length ps.length)).setCell ⟨gp,k*2+1,none⟩ (.slice g2 ps.length ps.length)) kp #[.int .i64 (Nn:Int),.int .i64 T,.int .i64 E,.slice a3 l3 c3,.slice (some ⟨g,0,none⟩) ps.length ps.length,.bool false,.slice a6 l6 c6] 81):=(heap_setCell_other _ ⟨gp,k*2+1,none⟩ kp _ (by show kp≠gp;omega)).trans ((heap_setCell_other W3 ⟨gp,k*2,none⟩ kp _ (by show kp≠gp;omega)).trans B3.out)
    have HXN:Hid (∀j,j<k+1→((vs.set (k*2) (.slice g1 ps.length ps.length)).set (k*2+1) (.slice g2 ps.length ps.length))[j*2]? = some (.slice ((fun q=>if q=k then g1 else ga q) j) ps.length ps.length)∧((vs.set (k*2) (.slice g1 ps.length ps.length)).set (k*2+1) (.slice g2 ps.length ps.length))[j*2+1]? = some (.slice ((fun q=>if q=k then g2 else gb q) j) ps.length ps.length)∧RdX Nn ps Rf (pk kss j).1 ((W3.setCell ⟨gp,k*2,none⟩ (.slice g1 ps.length ps.length)).setCell ⟨gp,k*2+1,none⟩ (.slice g2 ps.length ps.length)) (.slice ((fun q=>if q=k then g1 else ga q) j) ps.length ps.length)∧RdX Nn ps Rf (pk kss j).2 ((W3.setCell ⟨gp,k*2,none⟩ (.slice g1 ps.length ps.length)).setCell ⟨gp,k*2+1,none⟩ (.slice g2 ps.length ps.length)) (.slice ((fun q=>if q=k then g2 else gb q) j) ps.length ps.length)):=fun j hj=>by
     by_cases e:j=k
     ·subst e
      simp only [if_true]
      refine ⟨?_,?_,?_,?_⟩
      ·rw [List.getElem?_set_ne (by omega),List.getElem?_set_self (by omega)]
      ·rw [List.getElem?_set_self (by rw [List.length_set];omega)]
      ·rw [HEQ.out]
       exact PUT.out _ _ RA3.out
      ·rw [HEQ.out]
       exact PUT.out _ _ RB3.out
     ·simp only [e,if_false]
      have hjk:j<k:=by omega
      refine ⟨?_,?_,PUT.out _ _ (HX3.out j hjk).1,PUT.out _ _ (HX3.out j hjk).2⟩
      ·rw [List.getElem?_set_ne (by omega),List.getElem?_set_ne (by omega)]
       exact (HXV.out j hjk).1
      ·rw [List.getElem?_set_ne (by omega),List.getElem?_set_ne (by omega)]
       exact (HXV.out j hjk).2
    have w0:=X3.out.c (i:=0) rfl
    have w1:=X3.out.c (i:=1) rfl
    clear hra hrb HX HXV HX3 HI3 HI4 HO4 HS4 PUT RA3 RB3 HO3 HO2 HS G3 B3 B2 G2 Q2 Q3 O3 HEQ hvl
    generalize (fun q=>if q=k then g1 else ga q)=ga2 at *
    generalize (fun q=>if q=k then g2 else gb q)=gb2 at *
    go_wp2_with fail
    exact ⟨⟨k+1,_,ga2,gb2,by omega,by go_num,HS1,G5,B5,HO5,HS5,HXN⟩,by simp [intOf];omega⟩
  ·have d1:decide ((k:Int)<(nk:Int))=false:=decide_eq_false (by omega)
   obtain rfl:k=nk:=by omega
   have HF:=hidP (HYes.out (fun j hj=>H1.out j (by rw [← HNK.out];exact hj)))
   have hkl:k=ps.length:=by rw [← HNK.out];exact HM.out
   subst hkl
   have HPF:Hid (PkR Nn ps Rf kss wr gp ga gb):=⟨ownsRow_lt HO2.out,fun j hj=>⟨(World.ownsRow.cellAt HO2.out (j*2) (by omega)).trans (HX.out j hj).1,(World.ownsRow.cellAt HO2.out (j*2+1) (by omega)).trans (HX.out j hj).2.1,(HX.out j hj).2.2.1,(HX.out j hj).2.2.2⟩⟩
   clear HYes HNo HX HO2 HS
   go_wp2_with fail
   go_ret2
   exact ⟨HG2.out,.inr ⟨HF.out,gp,ga,gb,rfl,HPF.out⟩⟩
theorem lit2_own {Nn:Nat} {ps:List Int} {Rf:Nat→Int} {z0 z1:List (List Int)} {w:World} {lo m hi:Nat} {s0 s1:Value} (h0:Ows (TS 146 5 ps.length (elR Nn false ps Rf z0)) w lo m [s0]) (h1:Ows (TS 146 5 ps.length (elR Nn false ps Rf z1)) w m hi [s1]) (hlm:lo≤m) (hmh:m≤hi) :
 Ows (TS 84 1 2 (elP Nn false ps Rf [z0,z1])) (w.alloc (.cells #[s0,s1] 84)) lo (w.alloc (.cells #[s0,s1] 84)).heap.size [.slice (some ⟨w.heap.size,0,none⟩) 2 2]:=by
 have hh0:=h0.1
 have hh1:=h1.1
 have O:Old w (w.alloc (.cells #[s0,s1] 84)):=(Old.refl w).alloc _
 obtain ⟨_,B0,t0,b0⟩:=Ows.old (good_TS _ _ _ (good_elR _ _ _ _ _)) h0 O
 obtain ⟨_,B1,t1,b1⟩:=Ows.old (good_TS _ _ _ (good_elR _ _ _ _ _)) h1 O
 have hrow:=World.ownsRow_lit (base:=0) (e:=84) (size:=1) w #[s0,s1] 2 (Nat.zero_le _) (by unfold maxLen;omega) rfl
 have hs:(w.alloc (.cells #[s0,s1] 84)).heap.size=w.heap.size+1:=by simp
 refine ⟨Nat.le_refl _,fun b=>b=w.heap.size∨∃j,j<2∧(fun j=>if j=0 then B0 else B1) j b,.inr ⟨w.heap.size,2,[s0,s1],fun j=>if j=0 then B0 else B1,rfl,⟨hrow,fun j hj=>?_,fun j hj=>?_,fun i j hi' hj' hij b p1 p2=>?_⟩,fun b=>Iff.rfl⟩,fun b hb=>?_⟩
 ·rcases (show j=0∨j=1 by omega) with rfl | rfl
  ·exact t0
  ·exact t1
 ·rcases (show j=0∨j=1 by omega) with rfl | rfl
  ·exact fun h=>by have:=b0 _ h;omega
  ·exact fun h=>by have:=b1 _ h;omega
 ·rcases (show i=0∨i=1 by omega) with rfl | rfl
  ·rcases (show j=0∨j=1 by omega) with rfl | rfl
   ·omega
   ·have:=b0 b p1
    have:=b1 b p2
    omega
  ·rcases (show j=0∨j=1 by omega) with rfl | rfl
   ·have:=b1 b p1
    have:=b0 b p2
    omega
   ·omega
 ·rcases hb with rfl | ⟨j,hj,hb⟩
  ·omega
  ·rcases (show j=0∨j=1 by omega) with rfl | rfl
   ·have:=b0 b hb
    omega
   ·have:=b1 b hb
    omega
theorem parts2_own (Nn:Nat) (ps:List Int) (Rf:Nat→Int) (z0 z1:List (List Int)) (lo m hi:Nat) (g0 g1:Option Addr) (l0 c0 l1 c1:Nat) (w:World) (h0:Ows (TS 146 5 ps.length (elR Nn false ps Rf z0)) w lo m [.slice g0 l0 c0]) (h1:Ows (TS 146 5 ps.length (elR Nn false ps Rf z1)) w m hi [.slice g1 l1 c1]) (hlm:lo≤m) (hmh:m≤hi) :
 Calls Tryz.prog 46 #[.agg #[.slice g0 l0 c0,.slice g1 l1 c1]] w fun e w'=>∃p,e=.returned (.slice (some ⟨p,0,none⟩) 2 2)∧Old w w'∧Ows (TS 84 1 2 (elP Nn false ps Rf [z0,z1])) w' lo w'.heap.size [.slice (some ⟨p,0,none⟩) 2 2]:=by
 have O:Hid (Old w (w.alloc (.cells #[.slice g0 l0 c0,.slice g1 l1 c1] 95))):=(Old.refl w).alloc _
 have k0:=hidP (Ows.old (good_TS _ _ _ (good_elR _ _ _ _ _)) h0 O.out)
 have k1:=hidP (Ows.old (good_TS _ _ _ (good_elR _ _ _ _ _)) h1 O.out)
 clear h0 h1
 go_enter Tryz.func46,Tryz.ntmps46
 go_wp2_with fail
 go_ret
 have e:(w.alloc (.cells #[.slice g0 l0 c0,.slice g1 l1 c1] 95)).heap.size=w.heap.size+1:=by simp
 have L:=lit2_own k0.out k1.out hlm hmh
 rw [e] at L
 exact ⟨_,rfl,O.out.alloc _,L⟩
def swA (Nn:Nat) (ps:List Int) (zss:List (List Int)) (f:PrV→List (List Int)) (kss:List PrV) (xss:List (List Int)):Nat→List (List Int)
 | 0=>xss
 | i+1=>ppL Nn ps (swA Nn ps zss f kss xss i) (smS ps (zss.getD i [])) (f (pk kss i))
set_option maxRecDepth 100000 in
set_option maxHeartbeats 8000000 in
theorem switched_any (Nn:Nat) (T E:Int) (a3:Option Addr) (l3 c3:Nat) (g:Nat) (a6:Option Addr) (l6 c6:Nat) (ps:List Int) (Rf:Nat→Int) (kss:List PrV) (x0 x1 x2:List (List Int)) (g0 g1 g2:Option Addr) (q0 q1 q2:Nat) (gp:Nat) (ga gb:Nat→Option Addr) (w:World) (hT:TabW w) (hS:Sz4 Nn) (hps:1≤ps.length∧ps.length≤6) (hpb:∀k,k<ps.length→2≤ps.getD k 0∧ps.getD k 0≤268435456) (hrt:RtS Nn ps Rf) (hrg:Rgs w g Nn ps Rf ps.length)
 (o0:OkX Nn ps x0) (o1:OkX Nn ps x1) (o2:OkX Nn ps x2) (hk:kss.length=ps.length) (hkk:pkB Nn ps kss=true) (r0:RdX Nn ps Rf x0 w (.slice g0 ps.length q0)) (r1:RdX Nn ps Rf x1 w (.slice g1 ps.length q1)) (r2:RdX Nn ps Rf x2 w (.slice g2 ps.length q2)) (hp:PkR Nn ps Rf kss w gp ga gb) :
 Calls Tryz.prog 45 #[.agg #[.int .i64 (Nn:Int),.int .i64 T,.int .i64 E,.slice a3 l3 c3,.slice (some ⟨g,0,none⟩) ps.length ps.length,.bool false,.slice a6 l6 c6],.agg #[.slice g0 ps.length q0,.slice g1 ps.length q1,.slice g2 ps.length q2],.slice (some ⟨gp,0,none⟩) ps.length ps.length] w fun e w'=>∃h0 y0 d0 h1 y1 d1 m,e=.returned (.agg #[.slice h0 y0 d0,.slice h1 y1 d1])∧Old w w'∧w.heap.size≤m∧m≤w'.heap.size∧Ows (TS 146 5 ps.length (elR Nn false ps Rf (swA Nn ps x2 (·.2) kss x0 ps.length))) w' w.heap.size m [.slice h0 y0 d0]∧Ows (TS 146 5 ps.length (elR Nn false ps Rf (swA Nn ps x2 (·.1) kss x1 ps.length))) w' m w'.heap.size [.slice h1 y1 d1]:=by
 have R2:=hidP r2
 obtain ⟨us,⟨b2,cap2,e2,hb2,hc2⟩,hus⟩:=r2
 obtain ⟨rfl,rfl⟩:g2=some ⟨b2,0,none⟩∧q2=cap2:=by simpa using e2
 have HC2:Hid (∀W,Old w W→∀k,k<ps.length→W.cell? ⟨b2,k*5+4,none⟩=some (us k)):=fun W q k hk=>(q.cell (p:=⟨b2,k*5+4,none⟩) hb2).trans (hc2 k hk).2.2.2.2
 have HU2:Hid (∀W,Old w W→∀k,k<ps.length→Row W (us k) (x2.getD k [])∧∃x c,us k=.slice x (x2.getD k []).length c):=fun W q k hk=>⟨(hus k hk).1.old q,(hus k hk).2⟩
 clear hc2 hus e2 hb2
 have hN:2≤Nn∧Nn≤16:=by unfold Sz4 at hS;omega
 have okS:∀i,i<ps.length→OkX Nn ps (smS ps (x2.getD i [])):=fun i hi=>okX_small hpb (o2 i hi).1
 have okA:∀i,i<ps.length→OkX Nn ps (pk kss i).1∧OkX Nn ps (pk kss i).2:=fun i hi=>by
  have hm:pk kss i∈kss:=by simp [pk,List.getD,show i<kss.length by omega]
  have:=List.all_eq_true.1 hkk _ hm
  rw [Bool.and_eq_true] at this
  exact ⟨okX_rw this.1,okX_rw this.2⟩
 have ok0:∀i,OkX Nn ps (swA Nn ps x2 (·.2) kss x0 i):=fun i=>by
  cases i with
  | zero=>exact o0
  | succ i=>
    induction i with
    | zero=>exact okX_add hpb o0
    | succ i ih=>exact okX_add hpb ih
 have ok1:∀i,OkX Nn ps (swA Nn ps x2 (·.1) kss x1 i):=fun i=>by
  cases i with
  | zero=>exact o1
  | succ i=>
    induction i with
    | zero=>exact okX_add hpb o1
    | succ i ih=>exact okX_add hpb ih
 have KD:=hidP (fun i (hi:i<ps.length) W (q:Old w W) u (hu:Row W u (x2.getD i []))=>impl_smallRows Nn ps (x2.getD i []) Rf g u W (hrg.old q) (by omega) hu (by rw [(o2 i hi).1];omega) (fun j hj=>by
  have h1:=(o2 i hi).2 j (by rw [← (o2 i hi).1];exact hj)
  have h2:=hpb i hi
  omega) (fun k hk=>by have:=hpb k hk;omega))
 have K0:=hidP (fun i (hi:i<ps.length) W v d (q:Old w W) (h1:RdX Nn ps Rf (swA Nn ps x2 (·.2) kss x0 i) W v) (h2:RdX Nn ps Rf (smS ps (x2.getD i [])) W d)=>plusProduct_x Nn ps Rf (swA Nn ps x2 (·.2) kss x0 i) (smS ps (x2.getD i [])) (pk kss i).2 v d (.slice (gb i) ps.length ps.length) W (hT.old q) hS hps hpb hrt (ok0 i) (okS i hi) (okA i hi).2 h1 h2 (((hp.old q).2 i hi).2.2.2))
 have K1:=hidP (fun i (hi:i<ps.length) W v d (q:Old w W) (h1:RdX Nn ps Rf (swA Nn ps x2 (·.1) kss x1 i) W v) (h2:RdX Nn ps Rf (smS ps (x2.getD i [])) W d)=>plusProduct_x Nn ps Rf (swA Nn ps x2 (·.1) kss x1 i) (smS ps (x2.getD i [])) (pk kss i).1 v d (.slice (ga i) ps.length ps.length) W (hT.old q) hS hps hpb hrt (ok1 i) (okS i hi) (okA i hi).1 h1 h2 (((hp.old q).2 i hi).2.2.1))
 have HP:=hidP hp
 have R0:=hidP r0
 have R1:=hidP r1
 have HL:Hid (1≤ps.length):=hps.1
 have hL6:ps.length≤6:=hps.2
 have HS0:Hid (∀i,swA Nn ps x2 (·.2) kss x0 (i+1)=ppL Nn ps (swA Nn ps x2 (·.2) kss x0 i) (smS ps (x2.getD i [])) (pk kss i).2):=fun i=>rfl
 have HS1:Hid (∀i,swA Nn ps x2 (·.1) kss x1 (i+1)=ppL Nn ps (swA Nn ps x2 (·.1) kss x1 i) (smS ps (x2.getD i [])) (pk kss i).1):=fun i=>rfl
 have HZ0:Hid (swA Nn ps x2 (·.2) kss x0 0=x0):=rfl
 have HZ1:Hid (swA Nn ps x2 (·.1) kss x1 0=x1):=rfl
 obtain ⟨W1,hW1⟩:∃B:World,((w.alloc (.cells #[.int .i64 (Nn:Int),.int .i64 T,.int .i64 E,.slice a3 l3 c3,.slice (some ⟨g,0,none⟩) ps.length ps.length,.bool false,.slice a6 l6 c6] 81)).alloc (.cells #[.slice g0 ps.length q0,.slice g1 ps.length q1,.slice (some ⟨b2,0,none⟩) ps.length q2] 86)).alloc (.cells #[.slice none 0 0,.slice none 0 0] 95)=B:=⟨_,rfl⟩
 have O1:Hid (Old w W1):=by rw [← hW1];exact (((Old.refl w).alloc _).alloc _).alloc _
 have P1:Hid (Bk W1 w.heap.size #[.int .i64 (Nn:Int),.int .i64 T,.int .i64 E,.slice a3 l3 c3,.slice (some ⟨g,0,none⟩) ps.length ps.length,.bool false,.slice a6 l6 c6] 81):=by rw [← hW1];exact ((Bk.new' w _ _ rfl).alloc _).alloc _
 have C1:Hid (Bk W1 (w.heap.size+1) #[.slice g0 ps.length q0,.slice g1 ps.length q1,.slice (some ⟨b2,0,none⟩) ps.length q2] 86):=by rw [← hW1];exact (Bk.new' _ _ _ (by simp)).alloc _
 have E1:Hid (Bk W1 (w.heap.size+1+1) #[.slice none 0 0,.slice none 0 0] 95):=by rw [← hW1];exact Bk.new' _ _ _ (by simp)
 have HSZ:Hid (W1.heap.size=w.heap.size+1+1+1):=by show _ = _;rw [← hW1];simp
 obtain ⟨kp,hkp⟩:∃k,w.heap.size=k:=⟨_,rfl⟩
 have HKP:=hidP hkp
 rw [hkp] at P1 C1 E1 HSZ
 have y0:=C1.out.c (i:=0) rfl
 have y1:=C1.out.c (i:=1) rfl
 have HF0:Hid (RdX Nn ps Rf (swA Nn ps x2 (·.2) kss x0 0) W1 (.slice g0 ps.length q0)):=r0.old O1.out
 have HF1:Hid (RdX Nn ps Rf (swA Nn ps x2 (·.1) kss x1 0) W1 (.slice g1 ps.length q1)):=r1.old O1.out
 generalize hA0:swA Nn ps x2 (·.2) kss x0=A0 at *
 generalize hA1:swA Nn ps x2 (·.1) kss x1=A1 at *
 clear hT hS hpb hrt hrg o0 o1 o2 hk hkk r0 r1 hp okS okA ok0 ok1 hA0 hA1 hps hN
 go_enter Tryz.func45,Tryz.ntmps45
 go_wp2_with fail
 go_quiet (fail)
 have HW1:Hid (Old W1 (W1.drewN nq)):=(Old.refl W1).drewN _
 have HD0:=hidP (HF0.out.old HW1.out)
 have HD1:=hidP (HF1.out.old HW1.out)
 go_wp2_with fail
 go_loopw [18,7,8] (fun i va vb W=>∃(k:Nat) (a0:Option Addr) (c0:Nat) (a1:Option Addr) (c1:Nat),k≤ps.length∧i=.int .i64 k∧va=.slice a0 ps.length c0∧vb=.slice a1 ps.length c1∧Hid (Old W1 W)∧Hid (RdX Nn ps Rf (A0 k) W (.slice a0 ps.length c0))∧Hid (RdX Nn ps Rf (A1 k) W (.slice a1 ps.length c1))∧Hid (0<k→∃m,W1.heap.size≤m∧m≤W.heap.size∧Ows (TS 146 5 ps.length (elR Nn false ps Rf (A0 k))) W W1.heap.size m [.slice a0 ps.length c0]∧Ows (TS 146 5 ps.length (elR Nn false ps Rf (A1 k))) W m W.heap.size [.slice a1 ps.length c1])) (fun i _ _ _=>ps.length - (intOf i).toNat)
 case atStart=>exact ⟨0,g0,q0,g1,q1,Nat.zero_le _,rfl,rfl,rfl,HW1,HD0,HD1,fun h=>absurd h (Nat.lt_irrefl 0)⟩
 case round=>
  obtain ⟨k,a0,c0,a1,c1,hk,rfl,rfl,rfl,HG,HA0,HA1,HOW⟩:=hrel
  clear HF0 HF1 HD0 HD1 HW1
  have HGw:=hidP (Old.trans O1.out HG.out)
  by_cases hlt:k<ps.length
  ·have d1:decide ((k:Int)<(ps.length:Int))=true:=decide_eq_true (by omega)
   have i1:(k:Int)<(ps.length:Int):=by omega
   obtain ⟨s1,s2,-,-⟩:=(HP.out.old HGw.out).2 k hlt
   have KDk:=hidP (fun W q u=>KD.out k hlt W q u)
   have K0k:=hidP (fun W v d q=>K0.out k hlt W v d q)
   have K1k:=hidP (fun W v d q=>K1.out k hlt W v d q)
   have HS0k:=hidP (HS0.out k)
   have HS1k:=hidP (HS1.out k)
   obtain ⟨-,xu,cu,hu⟩:=HU2.out w (Old.refl w) k hlt
   have HRU:Hid (∀W,Old w W→Row W (.slice xu (x2.getD k []).length cu) (x2.getD k [])):=fun W q=>by rw [← hu];exact (HU2.out W q k hlt).1
   have HCU:Hid (∀W,Old w W→W.cell? ⟨b2,k*5+4,none⟩=some (.slice xu (x2.getD k []).length cu)):=fun W q=>by rw [← hu];exact HC2.out W q k hlt
   clear HU2 HC2 KD K0 K1 HS0 HS1 hu
   generalize x2.getD k []=dd at *
   generalize pk kss k=pq at *
   generalize ga k=xa at *
   generalize gb k=xb at *
   obtain ⟨W4,hW4⟩:∃B:World,wr.alloc (.cells #[.slice xa ps.length ps.length,.slice xb ps.length ps.length] 138)=B:=⟨_,rfl⟩
   have O4:Hid (Old wr W4):=by rw [← hW4];exact (Old.refl wr).alloc _
   have X4:Hid (Bk W4 wr.heap.size #[.slice xa ps.length ps.length,.slice xb ps.length ps.length] 138):=by rw [← hW4];exact Bk.new' wr _ _ rfl
   have HG4:=hidP (Old.trans HG.out O4.out)
   have HGw4:=hidP (Old.trans HGw.out O4.out)
   have HAS:Hid (∀W',Old W4 W'→W'.cell? ⟨kp,4,none⟩=some (.slice (some ⟨g,0,none⟩) ps.length ps.length)∧W'.cell? ⟨kp+1,2,none⟩=some (.slice (some ⟨b2,0,none⟩) ps.length q2)∧W'.cell? ⟨b2,k*5+4,none⟩=some (.slice xu dd.length cu)):=fun W' q=>⟨(P1.out.old (Old.trans HG4.out q)).c (i:=4) rfl,(C1.out.old (Old.trans HG4.out q)).c (i:=2) rfl,HCU.out W' (Old.trans HGw4.out q)⟩
   obtain ⟨kq,hkq⟩:∃q,wr.heap.size=q:=⟨_,rfl⟩
   rw [hkq] at X4
   go_wp2_with fail
   clear hW4 hkq HCU
   obtain ⟨v0,v1,v2⟩:=HAS.out _ (Old.refl W4)
   go_region_held3 (fun W'=>W'.cell? ⟨kp,4,none⟩=some (.slice (some ⟨g,0,none⟩) ps.length ps.length)∧W'.cell? ⟨kp+1,2,none⟩=some (.slice (some ⟨b2,0,none⟩) ps.length q2)∧W'.cell? ⟨b2,k*5+4,none⟩=some (.slice xu dd.length cu)) (first | with_reducible exact HAS.out _ G5.out | with_reducible exact HAS.out _ (Below.drew (Old.refl W4)) | with_reducible exact HAS.out _ (Old.refl W4) | fail) (first
    | (go_at_call 87;refine (KDk.out _ (Old.trans HGw4.out (Below.drew (Old.refl W4))) _ (HRU.out _ (Old.trans HGw4.out (Below.drew (Old.refl W4))))).mono ?_;rintro e w5 ⟨gd,hgd,rfl,g5,h5⟩;have G5:Hid (Old W4 w5):=Old.trans (Below.drew (Old.refl W4)) g5;have H5:=hidP h5;clear g5 h5 hgd)
    | fail)
   have HD5:Hid (RdX Nn ps Rf (smS ps dd) w5 (.slice (some ⟨gd,0,none⟩) ps.length ps.length)):=Ows.rd HL.out H5.out
   have HG5:=hidP (Old.trans HGw4.out G5.out)
   have HT5:=hidP (Old.trans HG4.out G5.out)
   have X5:=hidP (X4.out.old G5.out)
   have Q5:=hidP (Old.trans O4.out G5.out)
   have K6:=hidP (K0k.out w5 _ _ HG5.out (HA0.out.old Q5.out) HD5.out)
   have HA15:=hidP (HA1.out.old Q5.out)
   have z1:=X5.out.c (i:=1) rfl
   clear H5 KDk K0k HA0 HA1 HRU v0 v1 v2 HAS X4 O4 HG4 HGw4 G5 Q5 HOW
   go_wp2_with fail
   refine K6.out.mono ?_
   rintro e w6 ⟨v6,rfl,g6,m6⟩
   obtain ⟨a6',c6',rfl⟩:=(Mx.rd HL.out m6).slice
   have M6:=hidP m6
   have G6:=hidP g6
   have K7:=hidP (K1k.out w6 _ _ (Old.trans HG5.out g6) (HA15.out.old g6) (HD5.out.old g6))
   have X6:=hidP (X5.out.old g6)
   have z0:=X6.out.c (i:=0) rfl
   clear m6 g6 z1 K1k K6
   go_wp2_with fail
   refine K7.out.mono ?_
   rintro e w7 ⟨v7,rfl,g7,m7⟩
   obtain ⟨a7',c7',rfl⟩:=(Mx.rd HL.out m7).slice
   have HG7:Hid (Old W1 w7):=Old.trans (Old.trans HT5.out G6.out) g7
   have HN0:Hid (RdX Nn ps Rf (A0 (k+1)) w7 (.slice a6' ps.length c6')):=by
    show RdX Nn ps Rf (A0 (k+1)) w7 _
    rw [HS0k.out]
    exact (Mx.rd HL.out M6.out).old g7
   have HN1:Hid (RdX Nn ps Rf (A1 (k+1)) w7 (.slice a7' ps.length c7')):=by
    show RdX Nn ps Rf (A1 (k+1)) w7 _
    rw [HS1k.out]
    exact Mx.rd HL.out m7
   have HOWN:Hid (0<k+1→∃m,W1.heap.size≤m∧m≤w7.heap.size∧Ows (TS 146 5 ps.length (elR Nn false ps Rf (A0 (k+1)))) w7 W1.heap.size m [.slice a6' ps.length c6']∧Ows (TS 146 5 ps.length (elR Nn false ps Rf (A1 (k+1)))) w7 m w7.heap.size [.slice a7' ps.length c7']):=fun _=>by
    rw [HS0k.out,HS1k.out]
    obtain ⟨h6,m6⟩:=M6.out
    obtain ⟨h7,m7'⟩:=m7
    exact ⟨w6.heap.size,Nat.le_trans HT5.out.size G6.out.size,g7.size,Ows.old (good_TS _ _ _ (good_elR _ _ _ _ _)) (Ows.low m6 HT5.out.size m6.1 (Nat.le_refl _)) g7,Ows.low m7' (Nat.le_refl _) m7'.1 (Nat.le_refl _)⟩
   clear m7 g7 M6 G6 K7 X6 z0
   go_wp2_with fail
   exact ⟨⟨k+1,a6',c6',a7',c7',by omega,by go_num,rfl,rfl,HG7,HN0,HN1,HOWN⟩,by simp [intOf];omega⟩
  ·have d1:decide ((k:Int)<(ps.length:Int))=false:=decide_eq_false (by omega)
   obtain rfl:k=ps.length:=by omega
   obtain ⟨m,hm1,hm2,h0,h1⟩:=HOW.out HL.out
   have E2:=E1.out.old HG.out
   have y0:=E2.c (i:=0) rfl
   have y1:=E2.c (i:=1) rfl
   have f0:=frozen_of_row _ _ 0 _ _ E2
   have f1:=frozen_of_row _ _ 1 _ _ E2
   have Q0:Bk (wr.setCell ⟨kp+1+1,0,none⟩ (.slice a0 ps.length c0)) (kp+1+1) #[.slice a0 ps.length c0,.slice none 0 0] 95:=heap_setCell_same _ (kp+1+1) 0 _ _ _ E2
   have HQ1:Hid (Bk ((wr.setCell ⟨kp+1+1,0,none⟩ (.slice a0 ps.length c0)).setCell ⟨kp+1+1,1,none⟩ (.slice a1 ps.length c1)) (kp+1+1) #[.slice a0 ps.length c0,.slice a1 ps.length c1] 95):=heap_setCell_same _ (kp+1+1) 1 _ _ _ Q0
   have hsz:=HSZ.out
   have hkp':=HKP.out
   have OLD2:Hid (Old w ((wr.setCell ⟨kp+1+1,0,none⟩ (.slice a0 ps.length c0)).setCell ⟨kp+1+1,1,none⟩ (.slice a1 ps.length c1))):=(HGw.out.own (p:=⟨kp+1+1,0,none⟩) (by show w.heap.size≤kp+1+1;omega) _).own (p:=⟨kp+1+1,1,none⟩) (by show w.heap.size≤kp+1+1;omega) _
   have FAR:Hid (∀lo hi (E:Thing) cs,W1.heap.size≤lo→GoodT E→Ows E wr lo hi cs→Ows E ((wr.setCell ⟨kp+1+1,0,none⟩ (.slice a0 ps.length c0)).setCell ⟨kp+1+1,1,none⟩ (.slice a1 ps.length c1)) lo hi cs):=fun lo hi E cs hlo gE h=>far_Ows gE _ _ _ _ _ h (fun b hb _=>(heap_setCell_other _ ⟨kp+1+1,1,none⟩ b _ (by show b≠kp+1+1;omega)).trans (heap_setCell_other wr ⟨kp+1+1,0,none⟩ b _ (by show b≠kp+1+1;omega))) (by simp)
   have HR0:=hidP (Ows.low (FAR.out _ _ _ _ (Nat.le_refl _) (good_TS _ _ _ (good_elR _ _ _ _ _)) h0) (show w.heap.size≤_ by omega) (Nat.le_refl _) (by simpa using hm2))
   have HR1:=hidP (FAR.out _ _ _ _ hm1 (good_TS _ _ _ (good_elR _ _ _ _ _)) h1)
   have hm3:w.heap.size≤m:=by omega
   have hm4:m≤((wr.setCell ⟨kp+1+1,0,none⟩ (.slice a0 ps.length c0)).setCell ⟨kp+1+1,1,none⟩ (.slice a1 ps.length c1)).heap.size:=by simpa using hm2
   have HM:=hidP (And.intro hm3 hm4)
   clear Q0 hm1 hm2 hm3 hm4 h0 h1 E2 hsz hkp' HOW FAR
   go_wp2_with fail
   have q0:=HQ1.out.c (i:=0) rfl
   have q1:=HQ1.out.c (i:=1) rfl
   refine bodyPost_ret (v:=.agg #[.slice a0 ps.length c0,.slice a1 ps.length c1]) (by simp [results,Tryz.results45,go_sem,q0,q1]) rfl ?_
   refine ⟨a0,_,c0,a1,_,c1,m,rfl,OLD2.out,HM.out.1,HM.out.2,HR0.out,?_⟩
   have h:=HR1.out
   simpa using h
end Go.Proofs.YtanijpekdnkicaaGreatDoor
namespace Go.Proofs.YtanijpekdnkicaaGreatDoor
open Go.ChangeShapes Go.WideShapes Go.ChangeAt Go.RowKit
open M1
open M2
set_option linter.unusedVariables false
set_option linter.unusedSimpArgs false
theorem swA_len {Nn:Nat} {ps:List Int} {zss:List (List Int)} {f:PrV→List (List Int)} {kss:List PrV} {xss:List (List Int)} {n:Nat} (h:1≤n):(swA Nn ps zss f kss xss n).length=ps.length:=by
 cases n with
 | zero=>omega
 | succ n=>exact pairL_len _ _ _ _
set_option maxRecDepth 100000 in
set_option maxHeartbeats 2000000 in
theorem pairs_nil (ps:List Int) (kss:List PrV) (u:Value) (w:World) (hu:PkV w u ps kss) (hl:kss.length≤1048576) :
 Calls Tryz.prog 43 #[.agg rk0,u] w fun e w'=>Old w w'∧∃p l c b,e=.returned (.tuple #[.slice p l c,.bool b]):=by
 obtain ⟨i0,hi,hz0,hz1,hz2⟩:=info_parts Tryz.infoRowPair
 obtain ⟨a1,c1,rfl⟩:=hu.slice
 clear hu
 have HA:Hid (Old w (w.alloc (.cells rk0 81))):=(Old.refl w).alloc _
 have BA:Hid (Bk (w.alloc (.cells rk0 81)) w.heap.size rk0 81):=Bk.new' w _ _ rfl
 have x4:=BA.out.c (i:=4) rfl
 obtain ⟨W0,hW0⟩:∃B:World,w.alloc (.cells rk0 81)=B:=⟨_,rfl⟩
 rw [hW0] at HA BA x4
 obtain ⟨kp,hkp⟩:∃k,w.heap.size=k:=⟨_,rfl⟩
 rw [hkp] at BA x4
 have HL:=hidP hl
 by_cases hm:kss.length=0
 case neg=>
  have d:((kss.length:Int) != 0)=true:=by
   have:¬(kss.length:Int)=0:=by omega
   exact bne_iff_ne.2 this
  clear hm
  go_enter Tryz.func43,Tryz.ntmps43
  go_wp2_with fail
  go_ret2
  exact ⟨HA.out,_,_,_,_,rfl⟩
 rw [hm]
 go_enter Tryz.func43,Tryz.ntmps43
 go_wp2_with (at_make;refine wpList_make_full _ rfl _ _ 89 rfl 0 138 i0 (.agg #[.slice none 0 0,.slice none 0 0]) 2 Tryz.underlying89 hi hz0 hz1 .i64 .i64 _ _ 0 rfl rfl rfl rfl (by rw [hz2];omega) (by unfold maxLen;omega) (Nat.zero_le _) ?_;intro w1 hown hgrow)
 have HG1:Hid (Old W0 w1):=Below.grown (Below.refl _ _) hgrow (Nat.le_refl _) (fun _ h=>by cases h)
 have HG:=hidP (Old.trans HA.out HG1.out)
 clear hgrow hown HG1 HA BA x4 hW0 hkp
 go_wp2_with fail
 go_loopw [22] (fun i W=>i=.int .i64 0∧Hid (Old w W)) (fun i _=>0)
 case atStart=>exact ⟨rfl,HG⟩
 case round=>
  obtain ⟨rfl,HG2⟩:=hrel
  clear HG
  go_wp2_with fail
  go_ret2
  exact ⟨HG2.out,_,_,_,_,rfl⟩
end Go.Proofs.YtanijpekdnkicaaGreatDoor
namespace Go.Proofs.YtanijpekdnkicaaGreatDoor
open Go.ChangeShapes Go.WideShapes Go.ChangeAt Go.RowKit
open M1
set_option linter.unusedVariables false
set_option linter.unusedSimpArgs false
theorem OwS.ows {xss:List (List Int)} {W:World} {lo hi:Nat} {v:Value} (h:OwS xss W lo hi v):Ows (TSS xss) W lo hi [v]:=⟨h.1,h.tss⟩
theorem lit2_T {z0 z1:List (List Int)} {w:World} {lo m hi:Nat} {s0 s1:Value} (h0:Ows (TSS z0) w lo m [s0]) (h1:Ows (TSS z1) w m hi [s1]) (hlm:lo≤m) (hmh:m≤hi) :
 Ows (TTT [z0,z1]) (w.alloc (.cells #[s0,s1] 69)) lo (w.alloc (.cells #[s0,s1] 69)).heap.size [.slice (some ⟨w.heap.size,0,none⟩) 2 2]:=by
 have hh0:=h0.1
 have hh1:=h1.1
 have O:Old w (w.alloc (.cells #[s0,s1] 69)):=(Old.refl w).alloc _
 obtain ⟨_,B0,t0,b0⟩:=Ows.old (good_TSS _) h0 O
 obtain ⟨_,B1,t1,b1⟩:=Ows.old (good_TSS _) h1 O
 have hrow:=World.ownsRow_lit (base:=0) (e:=69) (size:=1) w #[s0,s1] 2 (Nat.zero_le _) (by unfold maxLen;omega) rfl
 have hs:(w.alloc (.cells #[s0,s1] 69)).heap.size=w.heap.size+1:=by simp
 refine ⟨Nat.le_refl _,fun b=>b=w.heap.size∨∃j,j<2∧(fun j=>if j=0 then B0 else B1) j b,.inr ⟨w.heap.size,2,[s0,s1],fun j=>if j=0 then B0 else B1,rfl,⟨hrow,fun j hj=>?_,fun j hj=>?_,fun i j hi' hj' hij b p1 p2=>?_⟩,fun b=>Iff.rfl⟩,fun b hb=>?_⟩
 ·rcases (show j=0∨j=1 by simp at hj;omega) with rfl | rfl
  ·exact t0
  ·exact t1
 ·rcases (show j=0∨j=1 by simp at hj;omega) with rfl | rfl
  ·exact fun h=>by have:=b0 _ h;omega
  ·exact fun h=>by have:=b1 _ h;omega
 ·rcases (show i=0∨i=1 by simp at hi';omega) with rfl | rfl
  ·rcases (show j=0∨j=1 by simp at hj';omega) with rfl | rfl
   ·omega
   ·have:=b0 b p1
    have:=b1 b p2
    omega
  ·rcases (show j=0∨j=1 by simp at hj';omega) with rfl | rfl
   ·have:=b1 b p1
    have:=b0 b p2
    omega
   ·omega
 ·rcases hb with rfl | ⟨j,hj,hb⟩
  ·omega
  ·rcases (show j=0∨j=1 by omega) with rfl | rfl
   ·have:=b0 b hb
    omega
   ·have:=b1 b hb
    omega
set_option maxRecDepth 100000 in
set_option maxHeartbeats 2000000 in
theorem l9Digits_any (Nn:Nat) (T E:Int) (ps:List Int) (Rf:Nat→Int) (kss:List PrV) (x0 x1 x2:List (List Int)) (v u0 u1 u2 uk:Value) (w:World) (hv:Row w v ps) (h0:RowS w u0 x0) (h1:RowS w u1 x1) (h2:RowS w u2 x2) (hk:RowK w uk kss) (hS:Sz4 Nn) (hps:1≤ps.length∧ps.length≤6) (hpb:∀k,k<ps.length→2≤ps.getD k 0∧ps.getD k 0≤268435456) (hrt:RtS Nn ps Rf) (o0:OkX Nn ps x0) (o1:OkX Nn ps x1) (o2:OkX Nn ps x2) (l0:x0.length=ps.length) (l1:x1.length=ps.length) (l2:x2.length=ps.length) (hkl:kss.length=ps.length) (hkk:pkB Nn ps kss=true) :
 Calls Tryz.prog 37 #[.agg #[.int .i64 (Nn:Int),.int .i64 T,.int .i64 E,v],u2,u0,u1,uk] w fun e w'=>∃r0,e=.returned (.agg r0)∧Old w w'∧XC [swA Nn ps x2 (·.2) kss x0 ps.length,swA Nn ps x2 (·.1) kss x1 ps.length] w' w.heap.size w'.heap.size r0:=by
 have hN:2≤Nn∧Nn≤16:=by unfold Sz4 at hS;omega
 have okS:∀i,i<ps.length→OkX Nn ps (smS ps (x2.getD i [])):=fun i hi=>okX_small hpb (o2 i hi).1
 have okA:∀i,i<ps.length→(OkX Nn ps (pk kss i).1∧(pk kss i).1.length=ps.length)∧OkX Nn ps (pk kss i).2∧(pk kss i).2.length=ps.length:=fun i hi=>by
  have hm:pk kss i∈kss:=by simp [pk,List.getD,show i<kss.length by omega]
  have:=List.all_eq_true.1 hkk _ hm
  rw [Bool.and_eq_true] at this
  exact ⟨⟨okX_rw this.1,(rw_parts this.1).1⟩,okX_rw this.2,(rw_parts this.2).1⟩
 have okF:∀(f:PrV→List (List Int)) (x:List (List Int)),OkX Nn ps x→x.length=ps.length→∀i,OkX Nn ps (swA Nn ps x2 f kss x i)∧(swA Nn ps x2 f kss x i).length=ps.length:=fun f x ox lx i=>by
  induction i with
  | zero=>exact ⟨ox,lx⟩
  | succ i ih=>exact ⟨okX_add hpb ih.1,pairL_len _ _ _ _⟩
 have lsm:∀i,(smS ps (x2.getD i [])).length=ps.length:=fun i=>by simp [smS]
 have KD:=hidP (fun i (hi:i<ps.length) W (q:Old w W) u (hu:Row W u (x2.getD i []))=>spec_l8Small Nn T E ps (x2.getD i []) v u W (hv.old q) hu hps (by have:=(o2 i hi).1;omega) hpb (fun j hj=>by
  have ha:=(o2 i hi).2 j (by rw [← (o2 i hi).1];exact hj)
  have hb:=hpb i hi
  omega))
 have KM1:Hid (∀i,i<ps.length→∀W,Old w W→∀d z,RowS W d (smS ps (x2.getD i []))→RowS W z (pk kss i).1→Calls Tryz.prog 79 #[.agg #[.int .i64 (Nn:Int),v],d,z] W fun e w'=>∃v',e=.returned v'∧Old W w'∧OwS (mulL Nn ps (smS ps (x2.getD i [])) (pk kss i).1) w' W.heap.size w'.heap.size v'):=fun i hi W q d z hd h2=>l5Mul_x Nn ps Rf (smS ps (x2.getD i [])) (pk kss i).1 v d z W (hv.old q) hd h2 hS hps hrt (lsm i) (okA i hi).1.2 (okS i hi) (okA i hi).1.1
 have KM2:Hid (∀i,i<ps.length→∀W,Old w W→∀d z,RowS W d (smS ps (x2.getD i []))→RowS W z (pk kss i).2→Calls Tryz.prog 79 #[.agg #[.int .i64 (Nn:Int),v],d,z] W fun e w'=>∃v',e=.returned v'∧Old W w'∧OwS (mulL Nn ps (smS ps (x2.getD i [])) (pk kss i).2) w' W.heap.size w'.heap.size v'):=fun i hi W q d z hd h2=>l5Mul_x Nn ps Rf (smS ps (x2.getD i [])) (pk kss i).2 v d z W (hv.old q) hd h2 hS hps hrt (lsm i) (okA i hi).2.2 (okS i hi) (okA i hi).2.1
 have KA0:Hid (∀i,i<ps.length→∀W,Old w W→∀c z,RowS W c (swA Nn ps x2 (·.2) kss x0 i)→RowS W z (mulL Nn ps (smS ps (x2.getD i [])) (pk kss i).2)→Calls Tryz.prog 78 #[.agg #[.int .i64 (Nn:Int),v],c,z] W fun e w'=>∃v',e=.returned v'∧Old W w'∧OwS (swA Nn ps x2 (·.2) kss x0 (i+1)) w' W.heap.size w'.heap.size v'):=fun i hi W q c z hc h2=>l5Add_x Nn ps _ _ v c z W (hv.old q) hc h2 hN.2 hps hpb (okF _ x0 o0 l0 i).2 (mulL_len _ _ _ _) (okF _ x0 o0 l0 i).1 (okX_mul hrt)
 have KA1:Hid (∀i,i<ps.length→∀W,Old w W→∀c z,RowS W c (swA Nn ps x2 (·.1) kss x1 i)→RowS W z (mulL Nn ps (smS ps (x2.getD i [])) (pk kss i).1)→Calls Tryz.prog 78 #[.agg #[.int .i64 (Nn:Int),v],c,z] W fun e w'=>∃v',e=.returned v'∧Old W w'∧OwS (swA Nn ps x2 (·.1) kss x1 (i+1)) w' W.heap.size w'.heap.size v'):=fun i hi W q c z hc h2=>l5Add_x Nn ps _ _ v c z W (hv.old q) hc h2 hN.2 hps hpb (okF _ x1 o1 l1 i).2 (mulL_len _ _ _ _) (okF _ x1 o1 l1 i).1 (okX_mul hrt)
 obtain ⟨a0,c0,rfl⟩:=hv.slice
 obtain ⟨ay,cy,rfl⟩:=h0.slice
 obtain ⟨az,cz,rfl⟩:=h1.slice
 have HL:Hid (1≤ps.length):=hps.1
 have hL6:ps.length≤6:=hps.2
 rcases h2 with ⟨_,_,_,e2⟩ | ⟨bx,ox,cx,ur,e,hbx,_,hcx⟩
 ·rw [e2] at l2
  have:=hps.1
  simp at l2
  omega
 subst e
 rcases hk with ⟨_,_,_,e2⟩ | ⟨bk,oo,ck,va,vb,e,hbk,_,hck⟩
 ·rw [e2] at hkl
  have:=hps.1
  simp at hkl
  omega
 subst e
 have HCX:Hid (∀k,k<ps.length→∃xu cu,Hid (∀W,Old w W→W.cell? ⟨bx,ox+k,none⟩=some (.slice xu (x2.getD k []).length cu)∧Row W (.slice xu (x2.getD k []).length cu) (x2.getD k []))):=fun k hk=>by
  obtain ⟨h1,h2⟩:=hcx k (by omega)
  obtain ⟨xu,cu,e⟩:=h2.slice
  rw [e] at h1 h2
  exact ⟨xu,cu,fun W q=>⟨(q.cell (p:=⟨bx,ox+k,none⟩) hbx).trans h1,h2.old q⟩⟩
 have HCK:Hid (∀k,k<ps.length→∃xa la ca xb lb cb,Hid (∀W,Old w W→(W.cell? ⟨bk,oo+k*2,none⟩=some (.slice xa la ca)∧RowS W (.slice xa la ca) (pk kss k).1)∧W.cell? ⟨bk,oo+k*2+1,none⟩=some (.slice xb lb cb)∧RowS W (.slice xb lb cb) (pk kss k).2)):=fun k hk=>by
  obtain ⟨h1,h2,h3,h4⟩:=hck k (by omega)
  obtain ⟨xa,ca,e⟩:=h3.slice
  obtain ⟨xb,cb,e'⟩:=h4.slice
  rw [e] at h1 h3
  rw [e'] at h2 h4
  exact ⟨xa,_,ca,xb,_,cb,fun W q=>⟨⟨(q.cell (p:=⟨bk,oo+k*2,none⟩) hbk).trans h1,h3.old q⟩,(q.cell (p:=⟨bk,oo+k*2+1,none⟩) hbk).trans h2,h4.old q⟩⟩
 have HF0:=hidP h0
 have HF1:=hidP h1
 obtain ⟨W1,hW1⟩:∃B:World,(w.alloc (.cells #[.int .i64 (Nn:Int),.int .i64 T,.int .i64 E,.slice a0 ps.length c0] 35)).alloc (.cells #[.slice none 0 0] 32)=B:=⟨_,rfl⟩
 have O1:Hid (Old w W1):=by rw [← hW1];exact ((Old.refl w).alloc _).alloc _
 have P1:Hid (Bk W1 w.heap.size #[.int .i64 (Nn:Int),.int .i64 T,.int .i64 E,.slice a0 ps.length c0] 35):=by rw [← hW1];exact (Bk.new' w _ _ rfl).alloc _
 have E1:Hid (Bk W1 (w.heap.size+1) #[.slice none 0 0] 32):=by rw [← hW1];exact Bk.new' _ _ _ (by simp)
 have HSZ:Hid (W1.heap.size=w.heap.size+1+1):=by show _ = _;rw [← hW1];simp
 obtain ⟨kp,hkp⟩:∃k,w.heap.size=k:=⟨_,rfl⟩
 have HKP:=hidP hkp
 rw [hkp] at P1 E1 HSZ
 have KS:=hidP (l8Space_any (Nn:Int) T E a0 ps.length c0 W1)
 have p0:=P1.out.c (i:=0) rfl
 have p1:=P1.out.c (i:=1) rfl
 have p2:=P1.out.c (i:=2) rfl
 have p3:=P1.out.c (i:=3) rfl
 rw [l2,hkl]
 have HZ0:Hid (RowS w (.slice ay x0.length cy) (swA Nn ps x2 (·.2) kss x0 0)):=HF0.out
 have HZ1:Hid (RowS w (.slice az x1.length cz) (swA Nn ps x2 (·.1) kss x1 0)):=HF1.out
 generalize hA0:swA Nn ps x2 (·.2) kss x0=A0 at *
 generalize hA1:swA Nn ps x2 (·.1) kss x1=A1 at *
 clear hv h0 h1 hcx hck hbx hbk hS hpb hrt o0 o1 o2 l2 hkl hkk okS okA okF lsm hN hps hA0 hA1 HF0 HF1
 rw [l0] at HZ0 ⊢
 rw [l1] at HZ1 ⊢
 clear l0 l1
 go_enter Tryz.func37,Tryz.ntmps37
 go_wp2_with fail
 refine KS.out.mono ?_
 rintro e w2 ⟨rfl,g2⟩
 obtain ⟨W3,hW3⟩:∃B:World,w2.alloc (.cells #[.int .i64 (Nn:Int),.slice a0 ps.length c0] 104)=B:=⟨_,rfl⟩
 have A3:Old w2 W3:=by rw [← hW3];exact (Old.refl w2).alloc _
 have S3:Hid (Bk W3 w2.heap.size #[.int .i64 (Nn:Int),.slice a0 ps.length c0] 104):=by rw [← hW3];exact Bk.new' w2 _ _ rfl
 have G13:=hidP (Old.trans g2 A3)
 have P3:=hidP (P1.out.old G13.out)
 have E3:=hidP (E1.out.old G13.out)
 have G03:=hidP (Old.trans O1.out G13.out)
 obtain ⟨ks,hks⟩:∃k,w2.heap.size=k:=⟨_,rfl⟩
 rw [hks] at S3
 have HD0:=hidP (HZ0.out.old G03.out)
 have HD1:=hidP (HZ1.out.old G03.out)
 have y3:=P3.out.c (i:=3) rfl
 have HW3:Hid (Old W3 W3):=Old.refl W3
 clear g2 A3 P1 E1 O1 p0 p1 p2 p3 hW1 KS HZ0 HZ1
 go_wp2_with fail
 go_loopw [19,2,3] (fun i va vb W=>∃(k:Nat) (ya:Option Addr) (yl yc:Nat) (za:Option Addr) (zl zc:Nat),k≤ps.length∧i=.int .i64 k∧va=.slice ya yl yc∧vb=.slice za zl zc∧Hid (Old W3 W)∧Hid (RowS W (.slice ya yl yc) (A0 k))∧Hid (RowS W (.slice za zl zc) (A1 k))∧Hid (0<k→∃m,W3.heap.size≤m∧m≤W.heap.size∧Ows (TSS (A0 k)) W W3.heap.size m [.slice ya yl yc]∧Ows (TSS (A1 k)) W m W.heap.size [.slice za zl zc])) (fun i _ _ _=>ps.length - (intOf i).toNat)
 case atStart=>exact ⟨0,ay,ps.length,cy,az,ps.length,cz,Nat.zero_le _,rfl,rfl,rfl,HW3,HD0,HD1,fun h=>absurd h (Nat.lt_irrefl 0)⟩
 case round=>
  obtain ⟨k,ya,yl,yc,za,zl,zc,hk,rfl,rfl,rfl,HG,HA0,HA1,HOW⟩:=hrel
  clear HD0 HD1 HW3
  have HGw:=hidP (Old.trans G03.out HG.out)
  by_cases hlt:k<ps.length
  ·have d1:decide ((k:Int)<(ps.length:Int))=true:=decide_eq_true (by omega)
   have i1:(k:Int)<(ps.length:Int):=by omega
   have KDk:=hidP (fun W q u=>KD.out k hlt W q u)
   have KM1k:=hidP (KM1.out k hlt)
   have KM2k:=hidP (KM2.out k hlt)
   have KA0k:=hidP (KA0.out k hlt)
   have KA1k:=hidP (KA1.out k hlt)
   obtain ⟨xu,cu,HU⟩:=HCX.out k hlt
   obtain ⟨xa,la,ca,xb,lb,cb,HPR⟩:=HCK.out k hlt
   clear KD KM1 KM2 KA0 KA1 HCX HCK
   generalize x2.getD k []=dd at *
   generalize pk kss k=pq at *
   have HASP:Hid (∀W',Old wr W'→W'.cell? ⟨kp,0,none⟩=some (.int .i64 (Nn:Int))∧W'.cell? ⟨kp,1,none⟩=some (.int .i64 T)∧W'.cell? ⟨kp,2,none⟩=some (.int .i64 E)∧W'.cell? ⟨kp,3,none⟩=some (.slice a0 ps.length c0)∧W'.cell? ⟨bx,ox+k,none⟩=some (.slice xu dd.length cu)):=fun W' q=>by
    have b:=P3.out.old (Old.trans HG.out q)
    exact ⟨b.c (i:=0) rfl,b.c (i:=1) rfl,b.c (i:=2) rfl,b.c (i:=3) rfl,(HU.out W' (Old.trans HGw.out q)).1⟩
   have HASB:Hid (∀W',Old wr W'→W'.cell? ⟨ks,0,none⟩=some (.int .i64 (Nn:Int))∧W'.cell? ⟨ks,1,none⟩=some (.slice a0 ps.length c0)∧W'.cell? ⟨bk,oo+k*2+1,none⟩=some (.slice xb lb cb)):=fun W' q=>by
    have b:=S3.out.old (Old.trans HG.out q)
    exact ⟨b.c (i:=0) rfl,b.c (i:=1) rfl,(HPR.out W' (Old.trans HGw.out q)).2.1⟩
   have HASA:Hid (∀W',Old wr W'→W'.cell? ⟨ks,0,none⟩=some (.int .i64 (Nn:Int))∧W'.cell? ⟨ks,1,none⟩=some (.slice a0 ps.length c0)∧W'.cell? ⟨bk,oo+k*2,none⟩=some (.slice xa la ca)):=fun W' q=>by
    have b:=S3.out.old (Old.trans HG.out q)
    exact ⟨b.c (i:=0) rfl,b.c (i:=1) rfl,(HPR.out W' (Old.trans HGw.out q)).1.1⟩
   have HRU:Hid (∀W,Old wr W→Row W (.slice xu dd.length cu) dd):=fun W q=>(HU.out W (Old.trans HGw.out q)).2
   have HRA:Hid (∀W,Old wr W→RowS W (.slice xa la ca) pq.1):=fun W q=>(HPR.out W (Old.trans HGw.out q)).1.2
   have HRB:Hid (∀W,Old wr W→RowS W (.slice xb lb cb) pq.2):=fun W q=>(HPR.out W (Old.trans HGw.out q)).2.2
   clear HU HPR
   obtain ⟨v0,v1,v2,v3,v4⟩:=HASP.out _ (Old.refl wr)
   go_wp2_with fail
   go_region_held3 (fun W'=>W'.cell? ⟨kp,0,none⟩=some (.int .i64 (Nn:Int))∧W'.cell? ⟨kp,1,none⟩=some (.int .i64 T)∧W'.cell? ⟨kp,2,none⟩=some (.int .i64 E)∧W'.cell? ⟨kp,3,none⟩=some (.slice a0 ps.length c0)∧W'.cell? ⟨bx,ox+k,none⟩=some (.slice xu dd.length cu)) (first | with_reducible exact HASP.out _ G5.out | with_reducible exact HASP.out _ (Below.drew (Old.refl wr)) | with_reducible exact HASP.out _ (Old.refl wr) | fail) (first
    | (go_at_call 57;refine (KDk.out _ (Old.trans HGw.out (Below.drew (Old.refl wr))) _ (HRU.out _ (Below.drew (Old.refl wr)))).mono ?_;rintro e w5 ⟨d5,rfl,g5,o5⟩;have G5:Hid (Old wr w5):=Old.trans (Below.drew (Old.refl wr)) g5;have H5:=hidP o5.rowS;clear g5 o5)
    | fail)
   clear v0 v1 v2 v3 v4 HASP KDk
   obtain ⟨s0,s1,s2⟩:=HASB.out _ G5.out
   go_wp2_with fail
   go_region_held3 (fun W'=>W'.cell? ⟨ks,0,none⟩=some (.int .i64 (Nn:Int))∧W'.cell? ⟨ks,1,none⟩=some (.slice a0 ps.length c0)∧W'.cell? ⟨bk,oo+k*2+1,none⟩=some (.slice xb lb cb)) (first | with_reducible exact HASB.out _ G7.out | with_reducible exact HASB.out _ G6.out | with_reducible exact HASB.out _ (Old.trans G5.out (Below.drew (Old.refl w5))) | with_reducible exact HASB.out _ G5.out | fail) (first
    | (go_at_call 79;refine (KM2k.out _ (Old.trans HGw.out (Old.trans G5.out (Below.drew (Old.refl w5)))) _ _ (H5.out.old (Below.drew (Old.refl w5))) (HRB.out _ (Old.trans G5.out (Below.drew (Old.refl w5))))).mono ?_;rintro e w6 ⟨d6,rfl,g6,o6⟩;have G6:Hid (Old wr w6):=Old.trans G5.out (Old.trans (Below.drew (Old.refl w5)) g6);have GX6:Hid (Old w5 w6):=Old.trans (Below.drew (Old.refl w5)) g6;have H6:=hidP o6.rowS;clear g6 o6)
    | (go_at_call 78;refine (KA0k.out _ (Old.trans HGw.out G6.out) _ _ (HA0.out.old G6.out) H6.out).mono ?_;rintro e w7 ⟨d7,rfl,g7,o7⟩;have GX7:Hid (Old w6 w7):=g7;have G7:Hid (Old wr w7):=Old.trans G6.out g7;have O7:=hidP o7;clear g7 o7)
    | fail)
   obtain ⟨a7,c7,rfl⟩:=O7.out.rowS.slice
   clear s0 s1 s2
   have G57:Hid (Old w5 w7):=Old.trans GX6.out GX7.out
   obtain ⟨s0,s1,s2⟩:=HASA.out _ G7.out
   go_wp2_with fail
   go_region_held3 (fun W'=>W'.cell? ⟨ks,0,none⟩=some (.int .i64 (Nn:Int))∧W'.cell? ⟨ks,1,none⟩=some (.slice a0 ps.length c0)∧W'.cell? ⟨bk,oo+k*2,none⟩=some (.slice xa la ca)) (first | with_reducible exact HASA.out _ G9.out | with_reducible exact HASA.out _ G8.out | with_reducible exact HASA.out _ (Old.trans G7.out (Below.drew (Old.refl w7))) | with_reducible exact HASA.out _ G7.out | fail) (first
    | (go_at_call 79;refine (KM1k.out _ (Old.trans HGw.out (Old.trans G7.out (Below.drew (Old.refl w7)))) _ _ ((H5.out.old G57.out).old (Below.drew (Old.refl w7))) (HRA.out _ (Old.trans G7.out (Below.drew (Old.refl w7))))).mono ?_;rintro e w8 ⟨d8,rfl,g8,o8⟩;have G8:Hid (Old wr w8):=Old.trans G7.out (Old.trans (Below.drew (Old.refl w7)) g8);have GX8:Hid (Old w7 w8):=Old.trans (Below.drew (Old.refl w7)) g8;have H8:=hidP o8.rowS;clear g8 o8)
    | (go_at_call 78;refine (KA1k.out _ (Old.trans HGw.out G8.out) _ _ (HA1.out.old G8.out) H8.out).mono ?_;rintro e w9 ⟨d9,rfl,g9,o9⟩;have GX9:Hid (Old w8 w9):=g9;have G9:Hid (Old wr w9):=Old.trans G8.out g9;have O9:=hidP o9;clear g9 o9)
    | fail)
   obtain ⟨a9,c9,rfl⟩:=O9.out.rowS.slice
   clear s0 s1 s2
   have HG9:Hid (Old W3 w9):=Old.trans HG.out G9.out
   have HN0:=hidP (O7.out.rowS.old (Old.trans GX8.out GX9.out))
   have HN1:=hidP O9.out.rowS
   have HOWN:Hid (0<k+1→∃m,W3.heap.size≤m∧m≤w9.heap.size∧Ows (TSS (A0 (k+1))) w9 W3.heap.size m [.slice a7 (A0 (k+1)).length c7]∧Ows (TSS (A1 (k+1))) w9 m w9.heap.size [.slice a9 (A1 (k+1)).length c9]):=fun _=>
    ⟨w7.heap.size,(Old.trans HG.out G7.out).size,(Old.trans GX8.out GX9.out).size,Ows.old (good_TSS _) (Ows.low O7.out.ows (Old.trans HG.out G6.out).size (Nat.le_refl _) O7.out.1) (Old.trans GX8.out GX9.out),Ows.low O9.out.ows GX8.out.size (Nat.le_refl _) (Nat.le_refl _)⟩
   clear O7 O9 GX6 GX7 GX8 GX9 G5 G6 G7 G8 G9 G57 H5 H6 H8 HASA HASB HRA HRB HRU KM1k KM2k KA0k KA1k HA0 HA1 HOW
   go_wp2_with fail
   exact ⟨⟨k+1,a7,_,c7,a9,_,c9,by omega,by go_num,rfl,rfl,HG9,HN0,HN1,HOWN⟩,by simp [intOf];omega⟩
  ·have d1:decide ((k:Int)<(ps.length:Int))=false:=decide_eq_false (by omega)
   obtain rfl:k=ps.length:=by omega
   obtain ⟨m,hm1,hm2,o0,o1⟩:=HOW.out HL.out
   have L:=lit2_T o0 o1 hm1 hm2
   have EE:=hidP ((E3.out.old HG.out).alloc (.cells #[.slice ya yl yc,.slice za zl zc] 69))
   have HGL:=hidP (HGw.out.alloc (.cells #[.slice ya yl yc,.slice za zl zc] 69))
   have HLL:=hidP L
   have y0:=EE.out.c (i:=0) rfl
   have f0:=frozen_of_row _ _ 0 _ _ EE.out
   have HB:=hidP (And.intro HSZ.out (And.intro HKP.out G13.out.size))
   have HLOW:Hid (kp+1<W3.heap.size∧w.heap.size≤kp+1∧w.heap.size≤W3.heap.size):=by
    obtain ⟨h1,h2,h3⟩:=HB.out
    show kp+1<W3.heap.size∧w.heap.size≤kp+1∧w.heap.size≤W3.heap.size
    omega
   clear L o0 o1 hm1 hm2 HOW HA0 HA1 HB
   go_wp2_with fail
   have q0:=(ci_put EE.out (.slice (some ⟨wr.heap.size,0,none⟩) 2 2)).c (i:=0) rfl
   refine bodyPost_ret (v:=.agg #[.slice (some ⟨wr.heap.size,0,none⟩) 2 2]) (by simp [results,Tryz.results37,go_sem,q0]) rfl ?_
   refine ⟨_,rfl,HGL.out.own (p:=⟨kp+1,0,none⟩) HLOW.out.2.1 _,some ⟨wr.heap.size,0,none⟩,2,rfl,?_⟩
   have h2:=HLL.out.putT (k:=kp+1) (j:=0) (x:=.slice (some ⟨wr.heap.size,0,none⟩) 2 2) (.inl HLOW.out.1)
   exact h2.low (lo':=w.heap.size) HLOW.out.2.2 (by simp) (Nat.le_refl _)
theorem swA_ok {Nn:Nat} {ps:List Int} {zss:List (List Int)} {f:PrV→List (List Int)} {kss:List PrV} {xss:List (List Int)} (hpb:∀k,k<ps.length→2≤ps.getD k 0∧ps.getD k 0≤268435456) (h:OkX Nn ps xss):∀n,OkX Nn ps (swA Nn ps zss f kss xss n)
 | 0=>h
 | n+1=>okX_add hpb (swA_ok hpb h n)
theorem swA_sz {Nn:Nat} {ps:List Int} {zss:List (List Int)} {f:PrV→List (List Int)} {kss:List PrV} {xss:List (List Int)} (hN:Nn≤16) (hps:1≤ps.length∧ps.length≤6) (hpb:∀k,k<ps.length→2≤ps.getD k 0∧ps.getD k 0≤268435456) (h:OkX Nn ps xss):(swA Nn ps zss f kss xss ps.length).length≤6∧∀q∈swA Nn ps zss f kss xss ps.length,q.length≤16:=by
 have hl:(swA Nn ps zss f kss xss ps.length).length=ps.length:=swA_len hps.1
 have ho:=swA_ok (zss:=zss) (f:=f) (kss:=kss) hpb h ps.length
 refine ⟨by omega,fun q hq=>?_⟩
 obtain ⟨k,hk,rfl⟩:=List.mem_iff_getElem.mp hq
 have:=(ho k (by omega)).1
 rw [show (swA Nn ps zss f kss xss ps.length).getD k []=(swA Nn ps zss f kss xss ps.length)[k] by simp [List.getD,hk]] at this
 omega
theorem PrLe.mono {a b:Int} {r:PrV} (h:PrLe a r) (hab:a≤b):PrLe b r:=⟨⟨by have:=h.1.1;omega,fun q hq=>by have:=h.1.2 q hq;omega⟩,by have:=h.2.1;omega,fun q hq=>by have:=h.2.2 q hq;omega⟩
theorem noI2 {W:World} {k:Nat} {a0 a1:Option Addr} {l0 c0 l1 c1:Nat} {t:TypeId} (h:Bk W k #[.slice a0 l0 c0,.slice a1 l1 c1] t):∀o (x:Int),W.cell? ⟨k,o,none⟩≠some (.int .i64 x):=fun o x hx=>by
 rw [cell_of_row _ _ _ _ _ _ h] at hx
 rcases o with _ | _ | o
 ·simp at hx
 ·simp at hx
 ·simp at hx
def R2A (L:Nat) (two:Bool) (F:World→Option Addr→Option Addr→Prop) (w:World) (e:Ending) (w':World):Prop:=
 Old w w'∧((two=false∧∃p0 l0 c0 p1 l1 c1,e=.returned (.tuple #[.agg #[.slice p0 l0 c0,.slice p1 l1 c1],.bool false]))∨(two=true∧∃g0 g1,e=.returned (.tuple #[.agg #[.slice g0 L L,.slice g1 L L],.bool true])∧F w' g0 g1))
theorem ta_n2 (W:World):Sem.run Tryz.prog (Instr.typeAssert .nilIface 134 95 true) W=.ok (.tuple #[.agg #[.slice none 0 0,.slice none 0 0],.bool false]) W:=by kernel_rfl
set_option maxRecDepth 100000 in
set_option maxHeartbeats 2000000 in
theorem readTwo_of (N T E:Int) (a3:Option Addr) (l3 c3:Nat) (a4:Option Addr) (l4 c4:Nat) (b5:Bool) (a6:Option Addr) (l6 c6:Nat) (au:Option Addr) (lu cu:Nat) (L:Nat) (two:Bool) (F:World→Option Addr→Option Addr→Prop) (w:World)
 (KR:∀W,Old w W→Calls Tryz.prog 84 #[.agg #[.int .i64 N,.int .i64 T,.int .i64 E,.slice a3 l3 c3,.slice a4 l4 c4,.bool b5,.slice a6 l6 c6],.agg #[.slice au lu cu]] W fun e w'=>Old W w'∧((two=false∧∃b,e=.returned (.tuple #[.nilIface,.bool b]))∨(two=false∧∃g0 g1 g2 b,e=.returned (.tuple #[if3 L g0 g1 g2,.bool b]))∨(two=true∧∃g0 g1 b,e=.returned (.tuple #[if2 L g0 g1,.bool b])∧F w' g0 g1)))
 (hF:∀W W' g0 g1,F W g0 g1→Old W W'→F W' g0 g1) (hP:∀W k a0 l0 c0 a1 l1 c1 i z g0 g1,F W g0 g1→Bk W k #[.slice a0 l0 c0,.slice a1 l1 c1] 95→F (W.setCell ⟨k,i,none⟩ z) g0 g1) :
 Calls Tryz.prog 58 #[.agg #[.int .i64 N,.int .i64 T,.int .i64 E,.slice a3 l3 c3,.slice a4 l4 c4,.bool b5,.slice a6 l6 c6],.agg #[.slice au lu cu]] w (R2A L two F w):=by
 have HR:=hidP KR
 have HF:=hidP hF
 have HP:=hidP hP
 clear KR hF hP
 obtain ⟨W1,hW1⟩:∃B:World,((w.alloc (.cells #[.int .i64 N,.int .i64 T,.int .i64 E,.slice a3 l3 c3,.slice a4 l4 c4,.bool b5,.slice a6 l6 c6] 81)).alloc (.cells #[.slice au lu cu] 32)).alloc (.cells #[.slice none 0 0,.slice none 0 0] 95)=B:=⟨_,rfl⟩
 have O1:Hid (Old w W1):=by rw [← hW1];exact (((Old.refl w).alloc _).alloc _).alloc _
 have P1:Hid (Bk W1 w.heap.size #[.int .i64 N,.int .i64 T,.int .i64 E,.slice a3 l3 c3,.slice a4 l4 c4,.bool b5,.slice a6 l6 c6] 81):=by rw [← hW1];exact ((Bk.new' w _ _ rfl).alloc _).alloc _
 have C1:Hid (Bk W1 (w.heap.size+1) #[.slice au lu cu] 32):=by rw [← hW1];exact (Bk.new' _ _ _ (by simp)).alloc _
 have R1:Hid (Bk W1 (w.heap.size+1+1) #[.slice none 0 0,.slice none 0 0] 95):=by rw [← hW1];exact Bk.new' _ _ _ (by simp)
 obtain ⟨kp,hkp⟩:∃k,w.heap.size=k:=⟨_,rfl⟩
 have HKP:=hidP hkp
 rw [hkp] at P1 C1 R1
 have x0:=P1.out.c (i:=0) rfl
 have x1:=P1.out.c (i:=1) rfl
 have x2:=P1.out.c (i:=2) rfl
 have x3:=P1.out.c (i:=3) rfl
 have x4:=P1.out.c (i:=4) rfl
 have x5:=P1.out.c (i:=5) rfl
 have x6:=P1.out.c (i:=6) rfl
 have y0:=C1.out.c (i:=0) rfl
 have t1:=ta_n2
 have t2:=ta_22 L
 have t3:=ta_32 L
 go_enter Tryz.func58,Tryz.ntmps58
 go_wp2_with fail
 refine (HR.out _ O1.out).mono ?_
 rintro e w2 ⟨g2,h⟩
 have G2:=hidP (Old.trans O1.out g2)
 have R2:=hidP (R1.out.old g2)
 clear g2 x0 x1 x2 x3 x4 x5 x6 y0 P1 C1 R1 O1 hW1 hkp HR
 rcases h with ⟨h3,b,rfl⟩ | ⟨h3,g0,g1,g2,b,rfl⟩ | ⟨h3,g0,g1,b,rfl,hf⟩
 ·clear t2 t3
  have R3:Bk (w2.alloc (.cells #[.slice none 0 0,.slice none 0 0] 95)) (kp+1+1) #[.slice none 0 0,.slice none 0 0] 95:=R2.out.alloc _
  have z0:=R3.c (i:=0) rfl
  have z1:=R3.c (i:=1) rfl
  have f0:=frozen_of_row _ _ 0 _ _ R3
  have f1:=frozen_of_row _ _ 1 _ _ R3
  have Q0:Bk ((w2.alloc (.cells #[.slice none 0 0,.slice none 0 0] 95)).setCell ⟨kp+1+1,0,none⟩ (.slice none 0 0)) (kp+1+1) #[.slice none 0 0,.slice none 0 0] 95:=heap_setCell_same _ (kp+1+1) 0 _ _ _ R3
  have Q1:Bk (((w2.alloc (.cells #[.slice none 0 0,.slice none 0 0] 95)).setCell ⟨kp+1+1,0,none⟩ (.slice none 0 0)).setCell ⟨kp+1+1,1,none⟩ (.slice none 0 0)) (kp+1+1) #[.slice none 0 0,.slice none 0 0] 95:=heap_setCell_same _ (kp+1+1) 1 _ _ _ Q0
  have hkp':=HKP.out
  have HQ1:=hidP Q1
  clear Q1
  go_wp2_with fail
  have q0:=HQ1.out.c (i:=0) rfl
  have q1:=HQ1.out.c (i:=1) rfl
  refine bodyPost_ret (v:=.tuple #[.agg #[.slice none 0 0,.slice none 0 0],.bool false]) (by simp [results,Tryz.results58,go_sem,q0,q1]) rfl ?_
  refine ⟨((G2.out.alloc _).own (p:=⟨kp+1+1,0,none⟩) (by show w.heap.size≤kp+1+1;omega) _).own (p:=⟨kp+1+1,1,none⟩) (by show w.heap.size≤kp+1+1;omega) _,.inl ⟨h3,_,_,_,_,_,_,rfl⟩⟩
 ·clear t1 t2
  have t4:=t3 g0 g1 g2
  clear t3
  have R3:Bk (w2.alloc (.cells #[.slice none 0 0,.slice none 0 0] 95)) (kp+1+1) #[.slice none 0 0,.slice none 0 0] 95:=R2.out.alloc _
  have z0:=R3.c (i:=0) rfl
  have z1:=R3.c (i:=1) rfl
  have f0:=frozen_of_row _ _ 0 _ _ R3
  have f1:=frozen_of_row _ _ 1 _ _ R3
  have Q0:Bk ((w2.alloc (.cells #[.slice none 0 0,.slice none 0 0] 95)).setCell ⟨kp+1+1,0,none⟩ (.slice none 0 0)) (kp+1+1) #[.slice none 0 0,.slice none 0 0] 95:=heap_setCell_same _ (kp+1+1) 0 _ _ _ R3
  have Q1:Bk (((w2.alloc (.cells #[.slice none 0 0,.slice none 0 0] 95)).setCell ⟨kp+1+1,0,none⟩ (.slice none 0 0)).setCell ⟨kp+1+1,1,none⟩ (.slice none 0 0)) (kp+1+1) #[.slice none 0 0,.slice none 0 0] 95:=heap_setCell_same _ (kp+1+1) 1 _ _ _ Q0
  have hkp':=HKP.out
  have HQ1:=hidP Q1
  clear Q1
  unfold if3 at *
  go_wp2_with fail
  have q0:=HQ1.out.c (i:=0) rfl
  have q1:=HQ1.out.c (i:=1) rfl
  refine bodyPost_ret (v:=.tuple #[.agg #[.slice none 0 0,.slice none 0 0],.bool false]) (by simp [results,Tryz.results58,go_sem,q0,q1]) rfl ?_
  refine ⟨((G2.out.alloc _).own (p:=⟨kp+1+1,0,none⟩) (by show w.heap.size≤kp+1+1;omega) _).own (p:=⟨kp+1+1,1,none⟩) (by show w.heap.size≤kp+1+1;omega) _,.inl ⟨h3,_,_,_,_,_,_,rfl⟩⟩
 ·clear t1 t3
  have t4:=t2 g0 g1
  clear t2
  have HFF:=hidP hf
  clear hf
  have R3:Bk (w2.alloc (.cells #[.slice g0 L L,.slice g1 L L] 95)) (kp+1+1) #[.slice none 0 0,.slice none 0 0] 95:=R2.out.alloc _
  have z0:=R3.c (i:=0) rfl
  have z1:=R3.c (i:=1) rfl
  have f0:=frozen_of_row _ _ 0 _ _ R3
  have f1:=frozen_of_row _ _ 1 _ _ R3
  have Q0:Bk ((w2.alloc (.cells #[.slice g0 L L,.slice g1 L L] 95)).setCell ⟨kp+1+1,0,none⟩ (.slice g0 L L)) (kp+1+1) #[.slice g0 L L,.slice none 0 0] 95:=heap_setCell_same _ (kp+1+1) 0 _ _ _ R3
  have Q1:Bk (((w2.alloc (.cells #[.slice g0 L L,.slice g1 L L] 95)).setCell ⟨kp+1+1,0,none⟩ (.slice g0 L L)).setCell ⟨kp+1+1,1,none⟩ (.slice g1 L L)) (kp+1+1) #[.slice g0 L L,.slice g1 L L] 95:=heap_setCell_same _ (kp+1+1) 1 _ _ _ Q0
  have hkp':=HKP.out
  have HQ1:=hidP Q1
  clear Q1
  unfold if2 at *
  go_wp2_with fail
  have q0:=HQ1.out.c (i:=0) rfl
  have q1:=HQ1.out.c (i:=1) rfl
  refine bodyPost_ret (v:=.tuple #[.agg #[.slice g0 L L,.slice g1 L L],.bool true]) (by simp [results,Tryz.results58,go_sem,q0,q1]) rfl ?_
  refine ⟨((G2.out.alloc _).own (p:=⟨kp+1+1,0,none⟩) (by show w.heap.size≤kp+1+1;omega) _).own (p:=⟨kp+1+1,1,none⟩) (by show w.heap.size≤kp+1+1;omega) _,.inr ⟨h3,g0,g1,rfl,HP.out _ _ _ _ _ _ _ _ _ _ _ _ (HP.out _ _ _ _ _ _ _ _ _ _ _ _ (HF.out _ _ _ _ HFF.out ((Old.refl w2).alloc _)) R3) Q0⟩⟩
theorem RdX.setR {N:Int} {ps:List Int} {Rf:Nat→Int} {xss:List (List Int)} {W:World} {v:Value} (h0:0<ps.length) (h:RdX N ps Rf xss W v) {k:Nat} (noI:∀o (x:Int),W.cell? ⟨k,o,none⟩≠some (.int .i64 x)) (c:Array Value):RdX N ps Rf xss (W.setRow k c) v:=by
 obtain ⟨us,⟨b,cap,e,hbl,hc⟩,hus⟩:=h
 have hbk:b≠k:=fun e=>by
  subst e
  exact noI _ _ (hc 0 h0).1
 have oth:∀b' o,b'≠k→(W.setRow k c).cell? ⟨b',o,none⟩=W.cell? ⟨b',o,none⟩:=fun b' o hne=>World.cell?_of_block (heap_setRow_other _ _ _ _ hne)
 refine ⟨us,⟨b,cap,e,by rw [size_setRow];exact hbl,fun q hq=>?_⟩,fun q hq=>⟨?_,(hus q hq).2⟩⟩
 ·obtain ⟨h1,h2,h3,h4,h5⟩:=hc q hq
  refine ⟨?_,?_,?_,?_,?_⟩ <;> rw [oth _ _ hbk] <;> assumption
 ·rcases (hus q hq).1 with hr | ⟨b',o',cap',e',hb',h0',hc'⟩
  ·exact .inl hr
  ·have hne:b'≠k:=fun e=>by
    subst e
    exact noI _ _ (hc' 0 h0')
   exact .inr ⟨b',o',cap',e',by rw [size_setRow];exact hb',h0',fun j hj=>by rw [oth _ _ hne];exact hc' j hj⟩
def slotTc (i:Nat):Nat:=[53,54,55,56,57,58,59,60,61,62,63,64,16].getD i 0
theorem slotTc_lt:∀i,i<13→slotTc i<71:=by decide
theorem slotTc_inj:∀i,i<13→∀j,j<13→slotTc i=slotTc j→i=j:=by decide
theorem slotTc_no:∀s,s<16→∀i,i<13→slotTc i≠s:=by decide
def qTc (bt br:Nat) (t:Int) (g0 g1:Option Addr) (L:Nat) (gr:Option Addr) (lr cr:Nat) (P0 P1 P2:World→Value→Prop) (base:Nat) (i:Nat) (W:World) (x:Value):Prop:=
 match i with
 | 0=>x=.pointer (some ⟨bt,0,none⟩)
 | 1=>x=.slice g0 L L
 | 2=>x=.int .i64 t
 | 3=>∃a c,x=.slice a L c∧P0 W (.slice a L c)
 | 4=>x=.pointer (some ⟨br,4,none⟩)
 | 5=>x=.slice gr lr cr
 | 6=>∃a c,x=.slice a L c∧P1 W (.slice a L c)
 | 7=>x=.pointer (some ⟨bt,1,none⟩)
 | 8=>x=.slice g1 L L
 | 9=>x=.int .i64 t
 | 10=>∃a c,x=.slice a L c∧P2 W (.slice a L c)
 | 11=>∃a0 c0 a1 c1 a2 c2,x=.agg #[.slice a0 L c0,.slice a1 L c1,.slice a2 L c2]∧P0 W (.slice a0 L c0)∧P1 W (.slice a1 L c1)∧P2 W (.slice a2 L c2)
 | 12=>∃g,x=.pointer (some ⟨g,0,none⟩)∧base≤g∧W.heap[g]? = some (.cells #[.slice none 0 0,.slice none 0 0,.slice none 0 0] 86 (0,0))
 | _=>True
theorem qTc_old (bt br:Nat) (t:Int) (g0 g1:Option Addr) (L:Nat) (gr:Option Addr) (lr cr:Nat) (P0 P1 P2:World→Value→Prop) (h0:∀W W' v,P0 W v→Old W W'→P0 W' v) (h1:∀W W' v,P1 W v→Old W W'→P1 W' v) (h2:∀W W' v,P2 W v→Old W W'→P2 W' v) (base:Nat) (i:Nat) (W W':World) (x:Value) (h:qTc bt br t g0 g1 L gr lr cr P0 P1 P2 base i W x) (q:Old W W'):qTc bt br t g0 g1 L gr lr cr P0 P1 P2 base i W' x:=by
 unfold qTc at h ⊢
 split at h
 case h_4=>
  obtain ⟨a,c,e,p⟩:=h
  exact ⟨a,c,e,h0 _ _ _ p q⟩
 case h_7=>
  obtain ⟨a,c,e,p⟩:=h
  exact ⟨a,c,e,h1 _ _ _ p q⟩
 case h_11=>
  obtain ⟨a,c,e,p⟩:=h
  exact ⟨a,c,e,h2 _ _ _ p q⟩
 case h_12=>
  obtain ⟨a0,c0,a1,c1,a2,c2,e,p0,p1,p2⟩:=h
  exact ⟨a0,c0,a1,c1,a2,c2,e,h0 _ _ _ p0 q,h1 _ _ _ p1 q,h2 _ _ _ p2 q⟩
 case h_13=>
  obtain ⟨g,e,hb,hg⟩:=h
  exact ⟨g,e,hb,(q.block g (lt_of_some hg)).trans hg⟩
 all_goals first | exact h | trivial
set_option maxRecDepth 100000 in
set_option maxHeartbeats 8000000 in
theorem reg_Tc (w0:World) (N T E:Int) (a3:Option Addr) (l3 c3:Nat) (b5:Bool) (a6:Option Addr) (l6 c6:Nat) (bt br:Nat) (t:Int) (g0 g1:Option Addr) (L:Nat) (gr:Option Addr) (lr cr:Nat) (P0 P1 P2:World→Value→Prop) (h0:∀W W' v,P0 W v→Old W W'→P0 W' v) (h1:∀W W' v,P1 W v→Old W W'→P1 W' v) (h2:∀W W' v,P2 W v→Old W W'→P2 W' v)
 (h3:∀W k c a0 a1 a2 c0 c1 c2,P0 W (.slice a0 L c0)→P1 W (.slice a1 L c1)→P2 W (.slice a2 L c2)→W.heap[k]? = some (.cells #[.slice none 0 0,.slice none 0 0,.slice none 0 0] 86 (0,0))→P0 (W.setRow k c) (.slice a0 L c0)∧P1 (W.setRow k c) (.slice a1 L c1)∧P2 (W.setRow k c) (.slice a2 L c2))
 (bT:w0.heap[bt]? = some (.cells #[.slice g0 L L,.slice g1 L L] 95 (0,0))) (bR:w0.heap[br]? = some (.cells #[.int .i64 N,.int .i64 T,.int .i64 E,.slice a3 l3 c3,.slice gr lr cr,.bool b5,.slice a6 l6 c6] 81 (0,0)))
 (K0:∀W,Old w0 W→Calls Tryz.prog 60 #[.slice g0 L L,.int .i64 t] W fun e w'=>∃a c,e=.returned (.slice a L c)∧Old W w'∧P0 w' (.slice a L c))
 (K1:∀W,Old w0 W→Calls Tryz.prog 61 #[.slice gr lr cr] W fun e w'=>∃a c,e=.returned (.slice a L c)∧Old W w'∧P1 w' (.slice a L c))
 (K2:∀W,Old w0 W→Calls Tryz.prog 60 #[.slice g1 L L,.int .i64 t] W fun e w'=>∃a c,e=.returned (.slice a L c)∧Old W w'∧P2 w' (.slice a L c))
 (Q:Exit→Act→World→Prop) (a0:Act) (hsz:a0.tmps.size=71)
 (ha2:a0.eval (.tmp 2)=.int .i64 t) (ha10:a0.eval (.tmp 10)=.pointer (some ⟨br,0,none⟩)) (ha12:a0.eval (.tmp 12)=.pointer (some ⟨bt,0,none⟩))
 (HK:Hid (∀(us:Nat→Value) W k x0 c0 x1 c1 x2 c2,Old w0 W→w0.heap.size≤k→us 12=.pointer (some ⟨k,0,none⟩)→W.heap[k]? = some (.cells #[.slice x0 L c0,.slice x1 L c1,.slice x2 L c2] 86 (0,0))→P0 W (.slice x0 L c0)→P1 W (.slice x1 L c1)→P2 W (.slice x2 L c2)→Q .normal (putAll a0 ((List.range 13).map fun i=>(slotTc i,us i))) W)) :
 Code.wp Tryz.prog ((Tryz.f22.body.bind (regionAtmul 6)).getD .skip) Q a0 w0:=by
 conv=>arg 2;whnf
 have un:=slotTc_no
 have pt:∀W,Old w0 W→W.heap[bt]? = some (.cells #[.slice g0 L L,.slice g1 L L] 95 (0,0)):=fun W g=>(g.block bt (lt_of_some bT)).trans bT
 have pr:∀W,Old w0 W→W.heap[br]? = some (.cells #[.int .i64 N,.int .i64 T,.int .i64 E,.slice a3 l3 c3,.slice gr lr cr,.bool b5,.slice a6 l6 c6] 81 (0,0)):=fun W g=>(g.block br (lt_of_some bR)).trans bR
 refine wp_region_end 13 rfl rfl (by kernel_rfl) (by kernel_rfl) (by kernel_rfl) (by kernel_rfl) slotTc (fun i hi=>by rw [hsz];exact slotTc_lt i hi) (fun i j hi hj=>slotTc_inj i hi j hj) (qTc bt br t g0 g1 L gr lr cr P0 P1 P2 w0.heap.size) (qTc_old bt br t g0 g1 L gr lr cr P0 P1 P2 h0 h1 h2 w0.heap.size) ?_ ?_
 ·refine ⟨?_,?_,?_,?_,?_,?_,?_,?_,?_,?_,?_,?_,?_,trivial⟩
  ·intro a W g hF hd
   have e12:=(hF.same 12 (un 12 (by decide))).trans ha12
   have eC:a.eval (.const (.int .i64 0))=.int .i64 0:=rfl
   obtain ⟨ρ,hρ⟩:∃ρ,a.eval=ρ:=⟨_,rfl⟩
   rw [hρ] at e12 eC
   refine op_val ρ hρ (.pointer (some ⟨bt,0,none⟩)) ?_ ⟨_,rfl,Old.refl _,rfl⟩
   clear g hF hd hρ ha2 ha10 ha12 HK un K0 K1 K2 bT bR pt pr h0 h1 h2 h3
   go_simp
  ·intro a W g hF hd
   have e53:a.eval (.tmp 53)=.pointer (some ⟨bt,0,none⟩):=hd ⟨0,.data⟩ (by simp) rfl
   have kc:W.cell? ⟨bt,0,none⟩=some (.slice g0 L L):=(show Bk W bt _ _ from pt W g).c (i:=0) rfl
   obtain ⟨ρ,hρ⟩:∃ρ,a.eval=ρ:=⟨_,rfl⟩
   rw [hρ] at e53
   refine op_val ρ hρ (.slice g0 L L) ?_ ⟨_,rfl,Old.refl _,rfl⟩
   clear g hF hd hρ ha2 ha10 ha12 HK un K0 K1 K2 bT bR pt pr h0 h1 h2 h3
   go_simp
  ·intro a W g hF hd
   refine op_move ?_
   exact ⟨_,rfl,Old.refl _,(hF.same 2 (un 2 (by decide))).trans ha2⟩
  ·intro a W g hF hd
   have e54:a.eval (.tmp 54)=.slice g0 L L:=hd ⟨1,.data⟩ (by simp) rfl
   have e55:a.eval (.tmp 55)=.int .i64 t:=hd ⟨2,.data⟩ (by simp) rfl
   refine op_call_ret (R:=fun v w'=>Old W w'∧∃a c,v=.slice a L c∧P0 w' (.slice a L c)) Tryz.call60 (vs:=#[.slice g0 L L,.int .i64 t]) (by simp [e54,e55]) ((K0 W g).mono fun e w' h=>by
    obtain ⟨xa,xc,rfl,q,o⟩:=h
    exact ⟨_,rfl,q,xa,xc,rfl,o⟩) ?_
   rintro x w' ⟨g',xa,xc,rfl,o'⟩
   exact ⟨_,rfl,g',xa,xc,rfl,o'⟩
  ·intro a W g hF hd
   have e10:=(hF.same 10 (un 10 (by decide))).trans ha10
   obtain ⟨ρ,hρ⟩:∃ρ,a.eval=ρ:=⟨_,rfl⟩
   rw [hρ] at e10
   refine op_val ρ hρ (.pointer (some ⟨br,4,none⟩)) ?_ ⟨_,rfl,Old.refl _,rfl⟩
   clear g hF hd hρ ha2 ha10 ha12 HK un K0 K1 K2 bT bR pt pr h0 h1 h2 h3
   go_simp
  ·intro a W g hF hd
   have e57:a.eval (.tmp 57)=.pointer (some ⟨br,4,none⟩):=hd ⟨4,.data⟩ (by simp) rfl
   have kc:W.cell? ⟨br,4,none⟩=some (.slice gr lr cr):=(show Bk W br _ _ from pr W g).c (i:=4) rfl
   obtain ⟨ρ,hρ⟩:∃ρ,a.eval=ρ:=⟨_,rfl⟩
   rw [hρ] at e57
   refine op_val ρ hρ (.slice gr lr cr) ?_ ⟨_,rfl,Old.refl _,rfl⟩
   clear g hF hd hρ ha2 ha10 ha12 HK un K0 K1 K2 bT bR pt pr h0 h1 h2 h3
   go_simp
  ·intro a W g hF hd
   have e58:a.eval (.tmp 58)=.slice gr lr cr:=hd ⟨5,.data⟩ (by simp) rfl
   refine op_call_ret (R:=fun v w'=>Old W w'∧∃a c,v=.slice a L c∧P1 w' (.slice a L c)) Tryz.call61 (vs:=#[.slice gr lr cr]) (by simp [e58]) ((K1 W g).mono fun e w' h=>by
    obtain ⟨xa,xc,rfl,q,o⟩:=h
    exact ⟨_,rfl,q,xa,xc,rfl,o⟩) ?_
   rintro x w' ⟨g',xa,xc,rfl,o'⟩
   exact ⟨_,rfl,g',xa,xc,rfl,o'⟩
  ·intro a W g hF hd
   have e12:=(hF.same 12 (un 12 (by decide))).trans ha12
   have eC:a.eval (.const (.int .i64 1))=.int .i64 1:=rfl
   obtain ⟨ρ,hρ⟩:∃ρ,a.eval=ρ:=⟨_,rfl⟩
   rw [hρ] at e12 eC
   refine op_val ρ hρ (.pointer (some ⟨bt,1,none⟩)) ?_ ⟨_,rfl,Old.refl _,rfl⟩
   clear g hF hd hρ ha2 ha10 ha12 HK un K0 K1 K2 bT bR pt pr h0 h1 h2 h3
   go_simp
  ·intro a W g hF hd
   have e60:a.eval (.tmp 60)=.pointer (some ⟨bt,1,none⟩):=hd ⟨7,.data⟩ (by simp) rfl
   have kc:W.cell? ⟨bt,1,none⟩=some (.slice g1 L L):=(show Bk W bt _ _ from pt W g).c (i:=1) rfl
   obtain ⟨ρ,hρ⟩:∃ρ,a.eval=ρ:=⟨_,rfl⟩
   rw [hρ] at e60
   refine op_val ρ hρ (.slice g1 L L) ?_ ⟨_,rfl,Old.refl _,rfl⟩
   clear g hF hd hρ ha2 ha10 ha12 HK un K0 K1 K2 bT bR pt pr h0 h1 h2 h3
   go_simp
  ·intro a W g hF hd
   refine op_move ?_
   exact ⟨_,rfl,Old.refl _,(hF.same 2 (un 2 (by decide))).trans ha2⟩
  ·intro a W g hF hd
   have e61:a.eval (.tmp 61)=.slice g1 L L:=hd ⟨8,.data⟩ (by simp) rfl
   have e62:a.eval (.tmp 62)=.int .i64 t:=hd ⟨9,.data⟩ (by simp) rfl
   refine op_call_ret (R:=fun v w'=>Old W w'∧∃a c,v=.slice a L c∧P2 w' (.slice a L c)) Tryz.call60 (vs:=#[.slice g1 L L,.int .i64 t]) (by simp [e61,e62]) ((K2 W g).mono fun e w' h=>by
    obtain ⟨xa,xc,rfl,q,o⟩:=h
    exact ⟨_,rfl,q,xa,xc,rfl,o⟩) ?_
   rintro x w' ⟨g',xa,xc,rfl,o'⟩
   exact ⟨_,rfl,g',xa,xc,rfl,o'⟩
  ·intro a W g hF hd
   obtain ⟨x0,c0,e56,p0⟩:∃x c,a.eval (.tmp 56)=.slice x L c∧P0 W (.slice x L c):=hd ⟨3,.data⟩ (by simp) rfl
   obtain ⟨x1,c1,e59,p1⟩:∃x c,a.eval (.tmp 59)=.slice x L c∧P1 W (.slice x L c):=hd ⟨6,.data⟩ (by simp) rfl
   obtain ⟨x2,c2,e63,p2⟩:∃x c,a.eval (.tmp 63)=.slice x L c∧P2 W (.slice x L c):=hd ⟨10,.data⟩ (by simp) rfl
   obtain ⟨ρ,hρ⟩:∃ρ,a.eval=ρ:=⟨_,rfl⟩
   rw [hρ] at e56 e59 e63
   refine op_val ρ hρ (.agg #[.slice x0 L c0,.slice x1 L c1,.slice x2 L c2]) ?_ ⟨_,rfl,Old.refl _,x0,c0,x1,c1,x2,c2,rfl,p0,p1,p2⟩
   clear p0 p1 p2
   clear g hF hd hρ ha2 ha10 ha12 HK un K0 K1 K2 bT bR pt pr h0 h1 h2 h3
   go_simp
  ·intro a W g hF hd
   refine op_alloc (z:=.agg #[.slice none 0 0,.slice none 0 0,.slice none 0 0]) (by kernel_rfl) ?_
   exact ⟨_,rfl,(Old.refl W).alloc _,W.heap.size,rfl,g.size,heap_alloc_new W _⟩
 ·intro a W g hF hq
  obtain ⟨x0,c0,x1,c1,x2,c2,e64,p0,p1,p2⟩:∃a0 c0 a1 c1 a2 c2,a.eval (.tmp 64)=.agg #[.slice a0 L c0,.slice a1 L c1,.slice a2 L c2]∧P0 W (.slice a0 L c0)∧P1 W (.slice a1 L c1)∧P2 W (.slice a2 L c2):=hq 11 (by decide)
  obtain ⟨k,e16,hk,hz⟩:∃k,a.eval (.tmp 16)=.pointer (some ⟨k,0,none⟩)∧w0.heap.size≤k∧W.heap[k]? = some (.cells #[.slice none 0 0,.slice none 0 0,.slice none 0 0] 86 (0,0)):=hq 12 (by decide)
  have hp:=fram_put hF (fun i j hi hj=>slotTc_inj i hi j hj)
  obtain ⟨r0,r1,r2⟩:=h3 W k #[.slice x0 L c0,.slice x1 L c1,.slice x2 L c2] x0 x1 x2 c0 c1 c2 p0 p1 p2 hz
  have hk2:=HK.out (fun i=>a.eval (.tmp (slotTc i))) (W.setRow k #[.slice x0 L c0,.slice x1 L c1,.slice x2 L c2]) k x0 c0 x1 c1 x2 c2 (old_setRow g hk _) hk e16 (heap_setRow_same hz) r0 r1 r2
  rw [← hp] at hk2
  exact op_store (k:=k) e16 e64 hz (by kernel_rfl) rfl (by simp [Value.oneCell']) hk2
end Go.Proofs.YtanijpekdnkicaaGreatDoor
namespace Go.Proofs.YtanijpekdnkicaaGreatDoor
open Go.ChangeShapes Go.WideShapes Go.ChangeAt Go.RowKit
open M1
open M2
set_option linter.unusedVariables false
set_option linter.unusedSimpArgs false
theorem read2_nil (xsss:List (List (List Int))) (a1:Option Addr) (cap1:Nat) (ps:List Int) (au:Nat→Option Addr) (cu:Nat→Nat) (uf:Nat→Nat→Option Addr) (cf:Nat→Nat→Nat) (w:World) (hm:xsss.length≤1048576) (hpa:CiI xsss ps w a1 au cu uf cf) :
 Calls Tryz.prog 58 #[.agg rk0,.agg #[.slice a1 xsss.length cap1]] w fun e w'=>Old w w'∧∃p0 l0 c0 p1 l1 c1 b,e=.returned (.tuple #[.agg #[.slice p0 l0 c0,.slice p1 l1 c1],.bool b]):=by
 refine (readTwo_of 0 0 0 none 0 0 none 0 0 false none 0 0 a1 xsss.length cap1 0 (rdB xsss.length (fun j=>decide ((xsss.getD j []).length=0))&&decide (xsss.length=2)) (fun _ _ _=>True) w (fun W q=>?_) (fun _ _ _ _ _ _=>trivial) (fun _ _ _ _ _ _ _ _ _ _ _ _ _ _=>trivial)).mono fun e w' h=>?_
 ·refine (read_nil 0 0 0 none 0 0 false none 0 0 a1 cap1 W ps xsss au cu uf cf hm (hpa.old q)).mono fun e w' h=>?_
  obtain ⟨g,h⟩:=h
  refine ⟨g,?_⟩
  rcases h with ⟨hB,e1⟩ | ⟨hB,h2,g0,g1,e1,_⟩ | ⟨hB,h3,g0,g1,g2,e1,_⟩
  ·exact .inl ⟨by rw [hB];rfl,_,e1⟩
  ·exact .inr (.inr ⟨by rw [hB,decide_eq_true h2];rfl,_,_,_,e1,trivial⟩)
  ·exact .inr (.inl ⟨by rw [hB,decide_eq_false (by omega)];rfl,_,_,_,_,e1⟩)
 ·obtain ⟨g,h⟩:=h
  refine ⟨g,?_⟩
  rcases h with ⟨_,p0,l0,c0,p1,l1,c1,e1⟩ | ⟨_,g0,g1,e1,_⟩
  ·exact ⟨_,_,_,_,_,_,_,e1⟩
  ·exact ⟨_,_,_,_,_,_,_,e1⟩
def R2F (Nn:Nat) (ps:List Int) (Rf:Nat→Int) (xsss:List (List (List Int))) (W:World) (g0 g1:Option Addr):Prop:=RdX Nn ps Rf (xsss.getD 0 []) W (.slice g0 ps.length ps.length)∧RdX Nn ps Rf (xsss.getD 1 []) W (.slice g1 ps.length ps.length)
theorem read2_good (Nn:Nat) (T E:Int) (a3:Option Addr) (l3 c3:Nat) (gr:Nat) (a6:Option Addr) (l6 c6:Nat) (a1:Option Addr) (cap1:Nat) (w:World) (ps:List Int) (Rf:Nat→Int) (xsss:List (List (List Int))) (au:Nat→Option Addr) (cu:Nat→Nat) (uf:Nat→Nat→Option Addr) (cf:Nat→Nat→Nat)
 (hm:xsss.length≤1048576) (hr:∀r∈xsss,r.length≤1048576∧∀q∈r,q.length≤1048576) (hpa:CiI xsss ps w a1 au cu uf cf) (hrg:Rgs w gr Nn ps Rf ps.length) (hsp:spB Nn ps=true) (hN:2≤Nn∧Nn≤16) (hps:1≤ps.length∧ps.length≤6) :
 Calls Tryz.prog 58 #[.agg #[.int .i64 Nn,.int .i64 T,.int .i64 E,.slice a3 l3 c3,.slice (some ⟨gr,0,none⟩) ps.length ps.length,.bool false,.slice a6 l6 c6],.agg #[.slice a1 xsss.length cap1]] w (R2A ps.length (ciB Nn ps xsss&&decide (xsss.length=2)) (R2F Nn ps Rf xsss) w):=by
 refine readTwo_of Nn T E a3 l3 c3 _ _ _ false a6 l6 c6 a1 xsss.length cap1 ps.length _ (R2F Nn ps Rf xsss) w (fun W q=>?_) (fun W W' g0 g1 h q=>⟨h.1.old q,h.2.old q⟩) (fun W k a0 l0 c0 a1 l1 c1 i z g0 g1 h hb=>⟨h.1.put hps.1 (noI2 hb) _ _,h.2.put hps.1 (noI2 hb) _ _⟩)
 refine (read_cif Nn T E a3 l3 c3 gr false a6 l6 c6 a1 cap1 W ps Rf xsss au cu uf cf hm hr (hpa.old q) (hrg.old q) hsp hN hps).mono fun e w' h=>?_
 obtain ⟨g,h⟩:=h
 refine ⟨g,?_⟩
 rcases h with ⟨hC,e1⟩ | ⟨hC,IF,e1,⟨h2,g0,g1,e2,r0,r1⟩ | ⟨h3,g0,g1,g2,e2,_⟩⟩
 ·exact .inl ⟨by rw [hC];rfl,_,e1⟩
 ·exact .inr (.inr ⟨by rw [hC,decide_eq_true h2];rfl,_,_,_,by rw [e1,e2],r0,r1⟩)
 ·exact .inr (.inl ⟨by rw [hC,decide_eq_false (by omega)];rfl,_,_,_,_,by rw [e1,e2]⟩)
set_option maxRecDepth 100000 in
set_option maxHeartbeats 4000000 in
theorem impl_TurnCipher (N T E t:Int) (ps:List Int) (xsss:List (List (List Int))) (kss:List PrV) (v u u2:Value) (w:World) (lo hi:Nat) (hP:PrsW w) (hT:TabW w) (hv:Row w v ps) (hf:Fit v) (hu:Ows (TTT xsss) w lo hi [u]) (hk:PkV w u2 ps kss) (htb : -9223372036854775808≤t∧t≤9223372036854775807) (hlp:ps.length≤9223372036854775807) (hl:xsss.length≤1048576) (hr:∀r∈xsss,r.length≤1048576∧∀q∈r,q.length≤1048576) (hl2:kss.length≤1048576) (hr2:∀r∈kss,PrLe 1048576 r) (Z:List (List (List Int))) (ok:Bool) (hy:((prB N T E ps&&(ciB N ps xsss&&decide (xsss.length=2)))&&(turnB N t&&(decide (kss.length=ps.length)&&pkB N ps kss)))=true→Z=[swA N.toNat ps (tuL N.toNat t.toNat ps (xsss.getD 1 [])) (·.2) kss (tuL N.toNat t.toNat ps (xsss.getD 0 [])) ps.length,swA N.toNat ps (tuL N.toNat t.toNat ps (xsss.getD 1 [])) (·.1) kss (smS ps (List.replicate N.toNat 0)) ps.length]∧ok=true) (hn:((prB N T E ps&&(ciB N ps xsss&&decide (xsss.length=2)))&&(turnB N t&&(decide (kss.length=ps.length)&&pkB N ps kss)))=false→Z=[]∧ok=false) :
 Calls Tryz.prog 22 #[.agg #[.int .i64 N,.int .i64 T,.int .i64 E,v],.agg #[u],.int .i64 t,u2] w (CiA Z ok w):=by
 have HY:Hid (((prB N T E ps&&(ciB N ps xsss&&decide (xsss.length=2)))&&(turnB N t&&(decide (kss.length=ps.length)&&pkB N ps kss)))=true→Z=[swA N.toNat ps (tuL N.toNat t.toNat ps (xsss.getD 1 [])) (·.2) kss (tuL N.toNat t.toNat ps (xsss.getD 0 [])) ps.length,swA N.toNat ps (tuL N.toNat t.toNat ps (xsss.getD 1 [])) (·.1) kss (smS ps (List.replicate N.toNat 0)) ps.length]∧ok=true):=hy
 have HNN:Hid (((prB N T E ps&&(ciB N ps xsss&&decide (xsss.length=2)))&&(turnB N t&&(decide (kss.length=ps.length)&&pkB N ps kss)))=false→Z=[]∧ok=false):=hn
 have HTB:=hidP htb
 clear hy hn htb
 obtain ⟨Rf,hRb⟩:=Rings_rt N ps
 have hRf:=fun k hk=>(hRb k hk).1
 have HRB:Hid (∀Nn:Nat,N=Nn→spB N ps=true→RtS Nn ps Rf):=fun Nn e hs=>by
  subst e
  exact rts_of hRb hs
 have HK:=hidP hk
 have HTW:Hid (TabW w):=hT
 obtain ⟨a2,c2,eu2⟩:=hk.slice
 have K1:=fun W (g:Old w W)=>impl_reckonerOf N T E ps Rf v W (hP.old g) (hT.old g) (hv.old g) hf hlp hRf
 obtain ⟨a0,c0,ev⟩:=hv.slice
 obtain ⟨a1,c1,eu⟩:=hu.rowT.slice
 subst ev eu eu2
 obtain ⟨au,cu,uf,cf,hpa⟩:=CiI.of ps hu
 have HPA:=hidP hpa
 have HR:Hid (∀r∈xsss,r.length≤1048576∧∀q∈r,q.length≤1048576):=hr
 have HR2:Hid (∀r∈kss,PrLe 1048576 r):=hr2
 have HLL:=hidP hl
 have HLK:=hidP hl2
 obtain ⟨W1,hW1⟩:∃B:World,(((w.alloc (.cells #[.int .i64 N,.int .i64 T,.int .i64 E,.slice a0 ps.length c0] 35)).alloc (.cells #[.slice a1 xsss.length c1] 32)).alloc (.cells #[.slice none 0 0] 32))=B:=⟨_,rfl⟩
 have HA:Hid (Old w W1):=by rw [← hW1];exact (((Old.refl w).alloc _).alloc _).alloc _
 have BP:Hid (Bk W1 w.heap.size #[.int .i64 N,.int .i64 T,.int .i64 E,.slice a0 ps.length c0] 35):=by rw [← hW1];exact ((Bk.new' w _ _ rfl).alloc _).alloc _
 have BB:Hid (Bk W1 (w.heap.size+1) #[.slice a1 xsss.length c1] 32):=by rw [← hW1];exact (Bk.new' _ _ _ (by simp)).alloc _
 have BR:Hid (Bk W1 (w.heap.size+1+1) #[.slice none 0 0] 32):=by rw [← hW1];exact Bk.new' _ _ _ (by simp)
 obtain ⟨kp,hkp⟩:∃k,w.heap.size=k:=⟨_,rfl⟩
 have HKP:=hidP hkp
 rw [hkp] at BP BB BR
 clear hv hf hu hP hT hRf hr hr2 hpa hRb hk hl hl2 hlp
 have p0:=BP.out.c (i:=0) rfl
 have p1:=BP.out.c (i:=1) rfl
 have p2:=BP.out.c (i:=2) rfl
 have p3:=BP.out.c (i:=3) rfl
 go_enter Tryz.func22,Tryz.ntmps22
 go_wp2_with fail
 refine (K1 _ HA.out).mono ?_
 rintro e w1 ⟨g1,h⟩
 have HG1:Hid (Old w w1):=Old.trans HA.out g1
 have B1:=hidP (BB.out.old g1)
 have R1:=hidP (BR.out.old g1)
 clear g1 K1 BB BP BR HA hW1 hkp p0 p1 p2 p3
 rcases h with ⟨hB,rfl⟩ | ⟨hB,g,a,l,c,hg,rfl,hrg,_⟩
 ·have HB:Hid (Z=[]∧ok=false):=HNN.out (by rw [hB];rfl)
  have O2:Old w1 (w1.alloc (.cells rk0 81)):=(Old.refl w1).alloc _
  have BX2:Hid (Bk (w1.alloc (.cells rk0 81)) w1.heap.size rk0 81):=Bk.new' w1 _ _ rfl
  have HG2:=hidP (Old.trans HG1.out O2)
  have B2:=hidP (B1.out.old O2)
  have R2:=hidP (R1.out.old O2)
  have z0:=B2.out.c (i:=0) rfl
  have K2:=hidP (read2_nil xsss a1 c1 ps au cu uf cf (w1.alloc (.cells rk0 81)) HLL.out (HPA.out.old HG2.out))
  clear hB O2 B1 R1 HG1
  go_wp2_with fail
  refine K2.out.mono ?_
  rintro e w3 ⟨g3,p0,l0,d0,p1,l1,d1,b3,rfl⟩
  obtain ⟨W4,hW4⟩:∃B:World,w3.alloc (.cells #[.slice p0 l0 d0,.slice p1 l1 d1] 95)=B:=⟨_,rfl⟩
  have O4:Old (w1.alloc (.cells rk0 81)) W4:=by rw [← hW4];exact g3.alloc _
  have HG4:=hidP (Old.trans HG2.out O4)
  have BX4:=hidP (BX2.out.old O4)
  have R4:=hidP (R2.out.old O4)
  obtain ⟨kr,hkr⟩:∃k,w1.heap.size=k:=⟨_,rfl⟩
  rw [hkr] at BX4
  have K4:=hidP (pairs_nil ps kss (.slice a2 kss.length c2) W4 (HK.out.old HG4.out) HLK.out)
  clear g3 O4 BX2 R2 B2 z0 K2 HG2
  have x0:=BX4.out.c (i:=0) rfl
  have x1:=BX4.out.c (i:=1) rfl
  have x2:=BX4.out.c (i:=2) rfl
  have x3:=BX4.out.c (i:=3) rfl
  have x4:=BX4.out.c (i:=4) rfl
  have x5:=BX4.out.c (i:=5) rfl
  have x6:=BX4.out.c (i:=6) rfl
  go_wp2_with fail
  refine K4.out.mono ?_
  rintro e w5 ⟨g5,p,l,c,b5,rfl⟩
  have HG5:=hidP (Old.trans HG4.out g5)
  have R5:=hidP (R4.out.old g5)
  clear g5 K4 BX4 R4 hW4 HG4 hkr x0 x1 x2 x3 x4 x5 x6
  have f0:w5.frozen? ⟨kp+1+1,0,none⟩=false:=frozen_of_row _ _ _ _ _ R5.out
  have y0:=R5.out.c (i:=0) rfl
  go_wp2_with fail
  have q0:=(ci_put R5.out (.slice none 0 0)).c (i:=0) rfl
  refine bodyPost_ret (v:=.tuple #[.agg #[.slice none 0 0],.bool false]) (by simp [results,Tryz.results22,go_sem,q0]) rfl ?_
  rw [HB.out.1,HB.out.2]
  exact ⟨_,rfl,HG5.out.own (p:=⟨kp+1+1,0,none⟩) (by have:=HKP.out;show w.heap.size≤kp+1+1;omega) _,XC.nil2 (Nat.le_refl _)⟩
 ·have hsp:=prB_sp hB
  obtain ⟨hz4,hbb,_⟩:=sp_ring hsp
  obtain ⟨Nn,rfl⟩:∃Nn:Nat,N=(Nn:Int):=⟨N.toNat,by omega⟩
  have hNn:2≤Nn∧Nn≤16:=by omega
  have hps:=(bas_at hbb).1
  have HBB:=hidP hB
  have HS4:Hid (Sz4 Nn):=by unfold Hid Sz4;omega
  have HPB:Hid (∀k,k<ps.length→2≤ps.getD k 0∧ps.getD k 0≤268435456):=fun k hk=>pm_bd ((bas_at hbb).2 k hk)
  have HRT:Hid (RtS Nn ps Rf):=HRB.out Nn rfl hsp
  have HSP:=hidP hsp
  have HN16:=hidP hNn
  have HPS:=hidP hps
  obtain ⟨W2,hW2⟩:∃B:World,w1.alloc (.cells #[.int .i64 (Nn:Int),.int .i64 T,.int .i64 E,.slice a0 ps.length c0,.slice (some ⟨g,0,none⟩) ps.length ps.length,.bool false,.slice a l c] 81)=B:=⟨_,rfl⟩
  have O2:Old w1 W2:=by rw [← hW2];exact (Old.refl w1).alloc _
  have BX2:Hid (Bk W2 w1.heap.size #[.int .i64 (Nn:Int),.int .i64 T,.int .i64 E,.slice a0 ps.length c0,.slice (some ⟨g,0,none⟩) ps.length ps.length,.bool false,.slice a l c] 81):=by rw [← hW2];exact Bk.new' w1 _ _ rfl
  have HG2:=hidP (Old.trans HG1.out O2)
  have HRG2:=hidP (hrg.old O2)
  have B2:=hidP (B1.out.old O2)
  have R2:=hidP (R1.out.old O2)
  obtain ⟨kr,hkr⟩:∃k,w1.heap.size=k:=⟨_,rfl⟩
  rw [hkr] at BX2
  have z0:=B2.out.c (i:=0) rfl
  have K2:=hidP (read2_good Nn T E a0 ps.length c0 g a l c a1 c1 W2 ps Rf xsss au cu uf cf HLL.out HR.out (HPA.out.old HG2.out) HRG2.out hsp hNn hps)
  clear hB O2 B1 R1 HG1 hrg hg hsp hz4 hbb hNn hps HRB
  have x0:=BX2.out.c (i:=0) rfl
  have x1:=BX2.out.c (i:=1) rfl
  have x2:=BX2.out.c (i:=2) rfl
  have x3:=BX2.out.c (i:=3) rfl
  have x4:=BX2.out.c (i:=4) rfl
  have x5:=BX2.out.c (i:=5) rfl
  have x6:=BX2.out.c (i:=6) rfl
  go_wp2_with fail
  refine K2.out.mono ?_
  rintro e w3 ⟨g3,h⟩
  have O3:=hidP g3
  clear g3 K2
  rcases h with ⟨h3,p0,l0,d0,p1,l1,d1,rfl⟩ | ⟨h3,g0,g1,rfl,hF⟩
  ·have HB:Hid (Z=[]∧ok=false):=HNN.out (by rw [HBB.out,h3];rfl)
   clear h3
   obtain ⟨W4,hW4⟩:∃B:World,w3.alloc (.cells #[.slice p0 l0 d0,.slice p1 l1 d1] 95)=B:=⟨_,rfl⟩
   have A4:Old w3 W4:=by rw [← hW4];exact (Old.refl w3).alloc _
   have T4:Hid (Bk W4 w3.heap.size #[.slice p0 l0 d0,.slice p1 l1 d1] 95):=by rw [← hW4];exact Bk.new' w3 _ _ rfl
   have O4:=Old.trans O3.out A4
   have HG4:=hidP (Old.trans HG2.out O4)
   have BX4:=hidP (BX2.out.old O4)
   have R4:=hidP (R2.out.old O4)
   have HRG4:=hidP (HRG2.out.old O4)
   have A4h:=hidP A4
   have K4:=hidP (readPairs_any Nn T E a0 ps.length c0 g a l c ps Rf kss (.slice a2 kss.length c2) W4 HN16.out HPS.out HRG4.out HSP.out (HK.out.old HG4.out) HLK.out HR2.out)
   obtain ⟨kt,hkt⟩:∃k,w3.heap.size=k:=⟨_,rfl⟩
   rw [hkt] at T4
   clear O4 A4 BX2 R2 B2 z0 hW2 hkr HG2 HRG2 O3 x0 x1 x2 x3 x4 x5 x6
   have x0:=BX4.out.c (i:=0) rfl
   have x1:=BX4.out.c (i:=1) rfl
   have x2:=BX4.out.c (i:=2) rfl
   have x3:=BX4.out.c (i:=3) rfl
   have x4:=BX4.out.c (i:=4) rfl
   have x5:=BX4.out.c (i:=5) rfl
   have x6:=BX4.out.c (i:=6) rfl
   go_wp2_with fail
   refine K4.out.mono ?_
   rintro e w5 ⟨g5,h⟩
   have HG5:=hidP (Old.trans HG4.out g5)
   have R5:=hidP (R4.out.old g5)
   have O5:=hidP g5
   clear g5 K4 hW4 hkt HG4 R4 x0 x1 x2 x3 x4 x5 x6
   rcases h with ⟨h4,p,l',c',rfl⟩ | ⟨h4,gp,ga,gb,rfl,hpk⟩
   ·clear h4
    have f0:w5.frozen? ⟨kp+1+1,0,none⟩=false:=frozen_of_row _ _ _ _ _ R5.out
    have y0:=R5.out.c (i:=0) rfl
    go_wp2_with fail
    have q0:=(ci_put R5.out (.slice none 0 0)).c (i:=0) rfl
    refine bodyPost_ret (v:=.tuple #[.agg #[.slice none 0 0],.bool false]) (by simp [results,Tryz.results22,go_sem,q0]) rfl ?_
    rw [HB.out.1,HB.out.2]
    exact ⟨_,rfl,HG5.out.own (p:=⟨kp+1+1,0,none⟩) (by have:=HKP.out;show w.heap.size≤kp+1+1;omega) _,XC.nil2 (Nat.le_refl _)⟩
   ·clear h4 hpk
    have f0:w5.frozen? ⟨kp+1+1,0,none⟩=false:=frozen_of_row _ _ _ _ _ R5.out
    have y0:=R5.out.c (i:=0) rfl
    go_wp2_with fail
    have q0:=(ci_put R5.out (.slice none 0 0)).c (i:=0) rfl
    refine bodyPost_ret (v:=.tuple #[.agg #[.slice none 0 0],.bool false]) (by simp [results,Tryz.results22,go_sem,q0]) rfl ?_
    rw [HB.out.1,HB.out.2]
    exact ⟨_,rfl,HG5.out.own (p:=⟨kp+1+1,0,none⟩) (by have:=HKP.out;show w.heap.size≤kp+1+1;omega) _,XC.nil2 (Nat.le_refl _)⟩
  ·have H3:=hidP h3
   have HF:=hidP hF
   clear h3 hF
   obtain ⟨W4,hW4⟩:∃B:World,w3.alloc (.cells #[.slice g0 ps.length ps.length,.slice g1 ps.length ps.length] 95)=B:=⟨_,rfl⟩
   have A4:Old w3 W4:=by rw [← hW4];exact (Old.refl w3).alloc _
   have T4:Hid (Bk W4 w3.heap.size #[.slice g0 ps.length ps.length,.slice g1 ps.length ps.length] 95):=by rw [← hW4];exact Bk.new' w3 _ _ rfl
   have O4:=Old.trans O3.out A4
   have HG4:=hidP (Old.trans HG2.out O4)
   have BX4:=hidP (BX2.out.old O4)
   have R4:=hidP (R2.out.old O4)
   have HRG4:=hidP (HRG2.out.old O4)
   have A4h:=hidP A4
   have K4:=hidP (readPairs_any Nn T E a0 ps.length c0 g a l c ps Rf kss (.slice a2 kss.length c2) W4 HN16.out HPS.out HRG4.out HSP.out (HK.out.old HG4.out) HLK.out HR2.out)
   obtain ⟨kt,hkt⟩:∃k,w3.heap.size=k:=⟨_,rfl⟩
   rw [hkt] at T4
   clear O4 A4 BX2 R2 B2 z0 hW2 hkr HG2 HRG2 O3 x0 x1 x2 x3 x4 x5 x6
   have x0:=BX4.out.c (i:=0) rfl
   have x1:=BX4.out.c (i:=1) rfl
   have x2:=BX4.out.c (i:=2) rfl
   have x3:=BX4.out.c (i:=3) rfl
   have x4:=BX4.out.c (i:=4) rfl
   have x5:=BX4.out.c (i:=5) rfl
   have x6:=BX4.out.c (i:=6) rfl
   go_wp2_with fail
   refine K4.out.mono ?_
   rintro e w5 ⟨g5,h⟩
   have HG5:=hidP (Old.trans HG4.out g5)
   have R5:=hidP (R4.out.old g5)
   have O5:=hidP g5
   clear g5 K4 hW4 hkt HG4 R4 x0 x1 x2 x3 x4 x5 x6
   rcases h with ⟨h4,p,l',c',rfl⟩ | ⟨h4,gp,ga,gb,rfl,hpk⟩
   ·have HB:Hid (Z=[]∧ok=false):=HNN.out (by rw [HBB.out,H3.out,h4,Bool.and_false];rfl)
    clear h4
    have f0:w5.frozen? ⟨kp+1+1,0,none⟩=false:=frozen_of_row _ _ _ _ _ R5.out
    have y0:=R5.out.c (i:=0) rfl
    go_wp2_with fail
    have q0:=(ci_put R5.out (.slice none 0 0)).c (i:=0) rfl
    refine bodyPost_ret (v:=.tuple #[.agg #[.slice none 0 0],.bool false]) (by simp [results,Tryz.results22,go_sem,q0]) rfl ?_
    rw [HB.out.1,HB.out.2]
    exact ⟨_,rfl,HG5.out.own (p:=⟨kp+1+1,0,none⟩) (by have:=HKP.out;show w.heap.size≤kp+1+1;omega) _,XC.nil2 (Nat.le_refl _)⟩
   ·have H4:=hidP h4
    have BX5:=hidP (BX4.out.old O5.out)
    have T5:=hidP (T4.out.old O5.out)
    have HPK:=hidP hpk
    have HRG5:=hidP (HRG4.out.old O5.out)
    have CT:=hidP (fun W=>impl_isTurn t (Nn:Int) W HTB.out (by have:=HN16.out;omega))
    have x0:=BX5.out.c (i:=0) rfl
    clear h4 hpk
    go_wp2_with fail
    refine (CT.out _).mono ?_
    rintro e w6 ⟨rfl,hw⟩
    obtain rfl:w5=w6:=hw.symm
    cases htn:turnB (Nn:Int) t
    ·have HB:Hid (Z=[]∧ok=false):=HNN.out (by rw [htn,Bool.false_and,Bool.and_false])
     clear x0 htn hw CT
     have f0:w5.frozen? ⟨kp+1+1,0,none⟩=false:=frozen_of_row _ _ _ _ _ R5.out
     have y0:=R5.out.c (i:=0) rfl
     go_wp2_with fail
     have q0:=(ci_put R5.out (.slice none 0 0)).c (i:=0) rfl
     refine bodyPost_ret (v:=.tuple #[.agg #[.slice none 0 0],.bool false]) (by simp [results,Tryz.results22,go_sem,q0]) rfl ?_
     rw [HB.out.1,HB.out.2]
     exact ⟨_,rfl,HG5.out.own (p:=⟨kp+1+1,0,none⟩) (by have:=HKP.out;show w.heap.size≤kp+1+1;omega) _,XC.nil2 (Nat.le_refl _)⟩
    obtain ⟨eZ,eok⟩:=HY.out (by rw [HBB.out,H3.out,H4.out,htn];rfl)
    obtain ⟨tn,rfl⟩:∃tn:Nat,t=(tn:Int):=⟨t.toNat,by
     unfold turnB at htn
     simp at htn
     omega⟩
    have htlt:tn<2*Nn:=by
     unfold turnB at htn
     simp at htn
     omega
    have h3':=H3.out
    have h4:=H4.out
    rw [Bool.and_eq_true,decide_eq_true_eq] at h3'
    rw [Bool.and_eq_true,decide_eq_true_eq] at h4
    have q35:=Old.trans A4h.out O5.out
    have ox0:=ci_okX h3'.1 0 (by omega)
    have ox1:=ci_okX h3'.1 1 (by omega)
    obtain ⟨T0,hT0⟩:∃z,tuL Nn tn ps (xsss.getD 0 [])=z:=⟨_,rfl⟩
    obtain ⟨T1,hT1⟩:∃z,tuL Nn tn ps (xsss.getD 1 [])=z:=⟨_,rfl⟩
    obtain ⟨TZ,hTZ⟩:∃z,smS ps (List.replicate Nn 0)=z:=⟨_,rfl⟩
    have oT0:Hid (OkX Nn ps T0):=by rw [← hT0];exact okX_tu HPB.out ox0
    have oT1:Hid (OkX Nn ps T1):=by rw [← hT1];exact okX_tu HPB.out ox1
    have oTZ:Hid (OkX Nn ps TZ):=by rw [← hTZ];exact okX_zero HPB.out
    have KT0:Hid (∀W,Old w5 W→Calls Tryz.prog 60 #[.slice g0 ps.length ps.length,.int .i64 (tn:Int)] W fun e w'=>∃a c,e=.returned (.slice a ps.length c)∧Old W w'∧RdX Nn ps Rf T0 w' (.slice a ps.length c)):=fun W q=>by
     rw [← hT0]
     refine (turned_x Nn tn ps Rf _ _ W HN16.out htlt HPS.out HRT.out ox0 (HF.out.1.old (Old.trans q35 q))).mono fun e w' h=>?_
     obtain ⟨v',e1,q1,r1⟩:=h
     obtain ⟨a,c,rfl⟩:=r1.slice
     exact ⟨a,c,e1,q1,r1⟩
    have KT1:Hid (∀W,Old w5 W→Calls Tryz.prog 60 #[.slice g1 ps.length ps.length,.int .i64 (tn:Int)] W fun e w'=>∃a c,e=.returned (.slice a ps.length c)∧Old W w'∧RdX Nn ps Rf T1 w' (.slice a ps.length c)):=fun W q=>by
     rw [← hT1]
     refine (turned_x Nn tn ps Rf _ _ W HN16.out htlt HPS.out HRT.out ox1 (HF.out.2.old (Old.trans q35 q))).mono fun e w' h=>?_
     obtain ⟨v',e1,q1,r1⟩:=h
     obtain ⟨a,c,rfl⟩:=r1.slice
     exact ⟨a,c,e1,q1,r1⟩
    have KTZ:Hid (∀W,Old w5 W→Calls Tryz.prog 61 #[.slice (some ⟨g,0,none⟩) ps.length ps.length] W fun e w'=>∃a c,e=.returned (.slice a ps.length c)∧Old W w'∧RdX Nn ps Rf TZ w' (.slice a ps.length c)):=fun W q=>by
     rw [← hTZ]
     refine (impl_noughtRows Nn ps Rf g W (HRG5.out.old q) (by have:=HPS.out;omega) (by have:=HN16.out;omega) (fun k hk=>by have:=HPB.out k hk;omega)).mono fun e w' h=>?_
     obtain ⟨gg,_,e1,q1,o1⟩:=h
     exact ⟨_,_,e1,q1,Ows.rd HPS.out.1 o1⟩
    have hputs:∀(W:World) (k:Nat) (c:Array Value) (a0 a1 a2:Option Addr) (c0 c1 c2:Nat),RdX Nn ps Rf T0 W (.slice a0 ps.length c0)→RdX Nn ps Rf TZ W (.slice a1 ps.length c1)→RdX Nn ps Rf T1 W (.slice a2 ps.length c2)→W.heap[k]? = some (.cells #[.slice none 0 0,.slice none 0 0,.slice none 0 0] 86 (0,0))→RdX Nn ps Rf T0 (W.setRow k c) (.slice a0 ps.length c0)∧RdX Nn ps Rf TZ (W.setRow k c) (.slice a1 ps.length c1)∧RdX Nn ps Rf T1 (W.setRow k c) (.slice a2 ps.length c2):=fun W k c a0 a1 a2 c0 c1 c2 r0 r1 r2 hz=>by
     have no:=noI3 (show Bk W k _ _ from hz)
     exact ⟨r0.setR HPS.out.1 no c,r1.setR HPS.out.1 no c,r2.setR HPS.out.1 no c⟩
    have HPU:=hidP hputs
    have KS:=hidP (fun (W:World) (q:Old w5 W) (x0:Option Addr) (e0:Nat) (x1:Option Addr) (e1:Nat) (x2:Option Addr) (e2:Nat) (r0:RdX Nn ps Rf T0 W (.slice x0 ps.length e0)) (r1:RdX Nn ps Rf TZ W (.slice x1 ps.length e1)) (r2:RdX Nn ps Rf T1 W (.slice x2 ps.length e2))=>switched_any Nn T E a0 ps.length c0 g a l c ps Rf kss T0 TZ T1 x0 x1 x2 e0 e1 e2 gp ga gb W (HTW.out.old (Old.trans HG5.out q)) HS4.out HPS.out HPB.out HRT.out (HRG5.out.old q) oT0.out oTZ.out oT1.out h4.1 h4.2 r0 r1 r2 (HPK.out.old q))
    obtain ⟨Z0,hZ0⟩:∃z,(swA Nn ps T1 (·.2) kss T0 ps.length)=z:=⟨_,rfl⟩
    obtain ⟨Z1,hZ1⟩:∃z,(swA Nn ps T1 (·.1) kss TZ ps.length)=z:=⟨_,rfl⟩
    have l0:Z0.length=ps.length:=by rw [← hZ0];exact swA_len HPS.out.1
    have l1:Z1.length=ps.length:=by rw [← hZ1];exact swA_len HPS.out.1
    have en:((Nn:Nat):Int).toNat=Nn:=rfl
    have et:((tn:Nat):Int).toNat=tn:=rfl
    rw [en,et,hT0,hT1,hTZ,hZ0,hZ1] at eZ
    rw [hZ0,hZ1] at KS
    obtain ⟨ZL,hZL⟩:∃z,[Z0,Z1]=z:=⟨_,rfl⟩
    have HZLn:Hid (ZL.length=2):=by show _ = _;rw [← hZL];rfl
    have HZ:Hid (∀j,j<ZL.length→(ZL.getD j []).length=ps.length):=fun j hj=>by
     rw [← hZL] at hj ⊢
     rcases (show j=0∨j=1 by simp at hj;omega) with rfl | rfl
     ·exact l0
     ·exact l1
    have HEND:Hid (∀w' r0,Old w w'→XC ZL w' w.heap.size w'.heap.size r0→CiA Z ok w (.returned (.tuple #[.agg r0,.bool true])) w'):=fun w' r0 h1 h2=>by
     rw [eZ,eok,hZL]
     exact ⟨r0,rfl,h1,h2⟩
    have HZLe:=hidP hZL
    clear h3' h4 q35 hZ0 hZ1 l0 l1 en et eZ eok hZL HPK HF H3 H4 BX4 T4 HRG4 A4h O5 hT0 hT1 hTZ hputs ox0 ox1 htn htlt CT hw oT0 oT1 oTZ
    go_wp2_with fail
    refine reg_Tc w5 Nn T E a0 ps.length c0 false a l c kt kr tn g0 g1 ps.length (some ⟨g,0,none⟩) ps.length ps.length (RdX Nn ps Rf T0) (RdX Nn ps Rf TZ) (RdX Nn ps Rf T1) (fun _ _ _ h q=>h.old q) (fun _ _ _ h q=>h.old q) (fun _ _ _ h q=>h.old q) HPU.out T5.out BX5.out KT0.out KTZ.out KT1.out _ _ ?_ ?_ ?_ ?_ ?_
    iterate 4 (·exact rfl)
    intro us W k3 e0 d0 e1 d1 e2 d2 q1 hk3 h12 hb3 p0 p1 p2
    have T6:Hid (Bk W k3 #[.slice e0 ps.length d0,.slice e1 ps.length d1,.slice e2 ps.length d2] 86):=hb3
    have BX6:=hidP (BX5.out.old q1)
    have R6:=hidP (R5.out.old q1)
    have HG6:=hidP (Old.trans HG5.out q1)
    have KS6:=hidP (KS.out W q1 e0 d0 e1 d1 e2 d2 p0 p1 p2)
    simp only [putAll,Act.put,slotTc,List.range,List.range.loop,List.map_cons,List.map_nil,List.getD_cons_zero,List.getD_cons_succ,List.setIfInBounds_toArray,List.set_cons_succ,List.set_cons_zero,h12]
    clear q1 hk3 hb3 p0 p1 p2 h12 KS KT0 KT1 KTZ HPU BX5 T5 R5 HG5 x0 HRG5
    have x0:=BX6.out.c (i:=0) rfl
    have x1:=BX6.out.c (i:=1) rfl
    have x2:=BX6.out.c (i:=2) rfl
    have x3:=BX6.out.c (i:=3) rfl
    have x4:=BX6.out.c (i:=4) rfl
    have x5:=BX6.out.c (i:=5) rfl
    have x6:=BX6.out.c (i:=6) rfl
    have t0:=T6.out.c (i:=0) rfl
    have t1:=T6.out.c (i:=1) rfl
    have t2:=T6.out.c (i:=2) rfl
    go_wp2_with fail
    refine KS6.out.mono ?_
    rintro e w6 ⟨b0,y0',d0,b1,y1',d1,m,rfl,g6,hm1,hm2,ow0,ow1⟩
    have KPt:=hidP (parts2_own Nn ps Rf Z0 Z1 W.heap.size m w6.heap.size b0 b1 y0' d0 y1' d1 w6 ow0 ow1 hm1 hm2)
    have G6:=hidP g6
    clear g6 hm1 hm2 ow0 ow1 KS6 BX6 T6 x0 x1 x2 x3 x4 x5 x6 t0 t1 t2
    go_wp2_with fail
    refine KPt.out.mono ?_
    rintro e w7 ⟨p7,rfl,g7,o7⟩
    rw [HZLe.out] at o7
    have cc:=cipherOf_any Nn false ps Rf ZL W.heap.size (.slice (some ⟨p7,0,none⟩) 2 2) w7 (by have:=HPS.out;omega) (by rw [HZLn.out];omega) HZ.out (by rw [HZLn.out];exact o7) (Nat.le_trans G6.out.size g7.size)
    have HCC:Hid (Calls Tryz.prog 44 #[.slice (some ⟨p7,0,none⟩) 2 2] w7 fun e w'=>∃r0,e=.returned (.agg r0)∧Old w7 w'∧XC ZL w' W.heap.size w'.heap.size r0):=cc
    have HG7:=hidP (Old.trans (Old.trans HG6.out G6.out) g7)
    have R7:=hidP (R6.out.old (Old.trans G6.out g7))
    have HS5:Hid (kp+1+1<W.heap.size):=R6.out.lt
    have HW6:=hidP HG6.out.size
    clear cc g7 o7 KPt G6 R6 HG6 HZLe
    go_wp2_with fail
    refine HCC.out.mono ?_
    rintro e w8 ⟨r0,rfl,g8,x8⟩
    obtain ⟨a5,c5,rfl⟩:=shape_XC _ _ _ _ x8
    have HG8:=hidP (Old.trans HG7.out g8)
    have R8:=hidP (R7.out.old g8)
    have HX8:Hid (XC ZL w8 W.heap.size w8.heap.size #[.slice a5 ZL.length c5]):=x8
    have y0:=R8.out.c (i:=0) rfl
    have f0:w8.frozen? ⟨kp+1+1,0,none⟩=false:=frozen_of_row _ _ _ _ _ R8.out
    clear g8 x8 HCC R7 HG7
    go_wp2_with fail
    have q0:=(ci_put R8.out (.slice a5 ZL.length c5)).c (i:=0) rfl
    refine bodyPost_ret (v:=.tuple #[.agg #[.slice a5 ZL.length c5],.bool true]) (by simp [results,Tryz.results22,go_sem,q0]) rfl (HEND.out _ _ (HG8.out.own (p:=⟨kp+1+1,0,none⟩) (by have:=HKP.out;show w.heap.size≤kp+1+1;omega) _) ?_)
    obtain ⟨a6,c6,e6,o6⟩:=HX8.out
    simp at e6
    obtain ⟨rfl,rfl⟩:=e6
    refine ⟨a5,c5,rfl,?_⟩
    have h2:=o6.putT (k:=kp+1+1) (j:=0) (x:=.slice a5 ZL.length c5) (.inl HS5.out)
    exact h2.low (lo':=w.heap.size) HW6.out (by simp) (Nat.le_refl _)
end Go.Proofs.YtanijpekdnkicaaGreatDoor
