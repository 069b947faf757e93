/- Proved: what its theorems say. -/
import Derived.Test.YtanijpekdnkicaaGreatDoorTc14
import Derived.Test.YtanijpekdnkicaaGreatDoorTc11
import Derived.Test.YtanijpekdnkicaaGreatDoorTc02
import Derived.Test.YtanijpekdnkicaaGreatDoorTc10
import Derived.Test.YtanijpekdnkicaaGreatDoorTc23
import Derived.Test.YtanijpekdnkicaaGreatDoorTc21
import Derived.KernelRfl
import Derived.Test.YtanijpekdnkicaaGreatDoorTc25
import Derived.Test.YtanijpekdnkicaaGreatDoorTc19
import Derived.Test.YtanijpekdnkicaaGreatDoorTc15
import Derived.Deep.RegionHeld3
import Derived.Test.YtanijpekdnkicaaGreatDoorTc03
import Derived.Test.YtanijpekdnkicaaGreatDoorTc13
import Derived.Test.YtanijpekdnkicaaGreatDoorTc00
import Derived.Test.YtanijpekdnkicaaGreatDoorTc01
import Derived.Deep.RegionWith
import Derived.Deep.RegionLawGrows
import Derived.Test.YtanijpekdnkicaaGreatDoorTc18
import Derived.Test.YtanijpekdnkicaaGreatDoorSzAdd
import Derived.Deep.DeepCutAuto
import Derived.ScopeJumps
import Derived.Test.YtanijpekdnkicaaGreatDoorTc17
import Derived.Lib.BitFns
import Derived.Test.YtanijpekdnkicaaGreatDoorRows
import Derived.Lib.Walk
import Derived.Test.YtanijpekdnkicaaGreatDoorTc20
import Derived.Deep.QuietTactic
import Derived.BigQuiet
namespace Go.Proofs.YtanijpekdnkicaaGreatDoor
open Go.ChangeShapes Go.WideShapes Go.ChangeAt Go.RowKit
open M1
open M2
set_option linter.unusedVariables false
set_option linter.unusedSimpArgs false
abbrev prG (N:Int) (ps:List Int) (r:PrV):Bool:=rwB N ps r.1&&rwB N ps r.2
def pkB (N:Int) (ps:List Int) (kss:List PrV):Bool:=kss.all (prG N ps)
theorem pkB_no {N:Int} {ps:List Int} {kss:List PrV} (k:Nat) (hk:k<kss.length) (h:prG N ps (pk kss k)=false):pkB N ps kss=false:=by
 unfold pkB
 rw [List.all_eq_false]
 refine ⟨pk kss k,by simp [pk,List.getD,hk],by rw [h];simp⟩
theorem pkB_yes {N:Int} {ps:List Int} {kss:List PrV} (h:∀k,k<kss.length→prG N ps (pk kss k)=true):pkB N ps kss=true:=by
 unfold pkB
 rw [List.all_eq_true]
 intro r hr
 obtain ⟨j,hj,rfl⟩:=List.getElem_of_mem hr
 have:=h j hj
 simpa [pk,List.getD,hj] using this
theorem ret_bbK {b:Bool} {c:Bool} (h:c=b):Ending.returned (.bool b)=.returned (.bool c):=by rw [h]
set_option maxRecDepth 100000 in
set_option maxHeartbeats 4000000 in
theorem l9Pairs_any (N T E:Int) (ps:List Int) (kss:List PrV) (v u:Value) (w:World) (hv:Row w v ps) (hu:RowK w u kss) (hl:kss.length≤1048576) (hr:∀r∈kss,PrLe 1048576 r) (hs:spB N ps=true) :
 Calls Tryz.prog 36 #[.agg #[.int .i64 N,.int .i64 T,.int .i64 E,v],u] w fun e w'=>e=.returned (.bool (decide (kss.length=ps.length)&&pkB N ps kss))∧Old w w':=by
 have HV:=hidK hv
 have HU:=hidK hu
 have HR:=hidK hr
 obtain ⟨a0,c0,rfl⟩:=hv.slice
 obtain ⟨a1,c1,rfl⟩:=hu.slice
 have HA:Hid (Old w (w.alloc (.cells #[.int .i64 N,.int .i64 T,.int .i64 E,.slice a0 ps.length c0] 35))):=(Old.refl w).alloc _
 have BA:Hid (Bk (w.alloc (.cells #[.int .i64 N,.int .i64 T,.int .i64 E,.slice a0 ps.length c0] 35)) w.heap.size #[.int .i64 N,.int .i64 T,.int .i64 E,.slice a0 ps.length c0] 35):=Bk.new' w _ _ rfl
 have x3:=BA.out.c (i:=3) rfl
 have KP:=hidK (fun (xss yss:List (List Int)) W (g:Old w W) (aA aB:Option Addr) (cA cB:Nat) (hx:RowS W (.slice aA xss.length cA) xss) (hy:RowS W (.slice aB yss.length cB) yss) (hq:PrLe 1048576 (xss,yss))=>spec_l8GoodPair N T E ps xss yss a0 c0 aA aB cA cB W (hv.old g) hx hy (by have:((xss.length:Nat):Int)≤1048576:=hq.1.1;omega) (fun r hr=>by have:((r.length:Nat):Int)≤1048576:=hq.1.2 r hr;omega) (by have:((yss.length:Nat):Int)≤1048576:=hq.2.1;omega) (fun r hr=>by have:((r.length:Nat):Int)≤1048576:=hq.2.2 r hr;omega) hs)
 clear hv hu hr hs
 by_cases hm:kss.length=ps.length
 case neg=>
  have HB:Hid ((decide (kss.length=ps.length)&&pkB N ps kss)=false):=by show _ = _;rw [decide_eq_false hm];rfl
  have d:((kss.length:Int) != (ps.length:Int))=true:=by simp;omega
  clear hm
  go_enter Tryz.func36,Tryz.ntmps36
  go_wp2_with fail
  go_ret
  exact ⟨ret_bbK HB.out,HA.out⟩
 have d:((kss.length:Int) != (ps.length:Int))=false:=by simp;omega
 rw [decide_eq_true hm,Bool.true_and]
 have HNo:Hid (∀k,k<kss.length→prG N ps (pk kss k)=false→pkB N ps kss=false):=fun k hk h=>pkB_no k hk h
 have HYes:Hid ((∀k,k<kss.length→prG N ps (pk kss k)=true)→pkB N ps kss=true):=fun h=>pkB_yes h
 generalize pkB N ps kss=R at *
 have HM:=hidK hm
 clear hm
 go_enter Tryz.func36,Tryz.ntmps36
 go_wp2_with fail
 go_loopw [15] (fun i W=>∃k:Nat,k≤kss.length∧i=.int .i64 k∧Hid (∀j,j<k→prG N ps (pk kss j)=true)∧Hid (Old w W)∧Hid (Bk W w.heap.size #[.int .i64 N,.int .i64 T,.int .i64 E,.slice a0 ps.length c0] 35)) (fun i _=>kss.length - (intOf i).toNat)
 case atStart=>exact ⟨0,by omega,rfl,fun j hj=>by omega,HA,BA⟩
 case round=>
  obtain ⟨k,hk,rfl,H1,HG,BK⟩:=hrel
  clear HA BA x3 d
  by_cases hlt:k<kss.length
  ·have d1:decide ((k:Int)<(kss.length:Int))=true:=decide_eq_true (by omega)
   rcases HU.out with ⟨a,cap,e,e2⟩ | ⟨b,o,cap,us,vs,e,hb2,h3,hc⟩
   ·subst e2
    simp at hlt
   simp only [Value.slice.injEq,true_and] at e
   obtain ⟨rfl,rfl⟩:=e
   obtain ⟨q1,q2,r1,r2⟩:=hc k hlt
   obtain ⟨a2,c2,e1⟩:=r1.slice
   obtain ⟨a3,c3,e2⟩:=r2.slice
   rw [e1] at q1 r1
   rw [e2] at q2 r2
   have s1:=(HG.out.cell (p:=⟨b,o+k*2,none⟩) hb2).trans q1
   have s2:=(HG.out.cell (p:=⟨b,o+k*2+1,none⟩) hb2).trans q2
   have R1:=hidK (r1.old HG.out)
   have R2:=hidK (r2.old HG.out)
   have hmem:pk kss k∈kss:=by simp [pk,List.getD,hlt]
   have HQ:=hidK (HR.out _ hmem)
   have HN1:=hidK (HNo.out k hlt)
   have H1s:Hid (prG N ps (pk kss k)=true→∀j,j<k+1→prG N ps (pk kss j)=true):=fun h j hj=>by
    rcases Nat.lt_or_ge j k with h5 | h5
    ·exact H1.out j h5
    ·obtain rfl:j=k:=by omega
     exact h
   clear hc q1 q2 r1 r2 e1 e2 hmem H1
   generalize hpq:pk kss k=q at *
   obtain ⟨xss,yss⟩:=q
   simp only at s1 s2
   obtain ⟨W1,hW1⟩:∃B:World,wr.alloc (.cells #[.slice a2 xss.length c2,.slice a3 yss.length c3] 77)=B:=⟨_,rfl⟩
   have O1:Old wr W1:=by rw [← hW1];exact (Old.refl wr).alloc _
   have X1:Hid (Bk W1 wr.heap.size #[.slice a2 xss.length c2,.slice a3 yss.length c3] 77):=by rw [← hW1];exact Bk.new' wr _ _ rfl
   have B1:=hidK (BK.out.old O1)
   have G1:=hidK (Old.trans HG.out O1)
   have K1:=hidK (KP.out xss yss W1 G1.out a2 a3 c2 c3 (R1.out.old O1) (R2.out.old O1) HQ.out)
   obtain ⟨kq,hkq⟩:∃k,wr.heap.size=k:=⟨_,rfl⟩
   rw [hkq] at X1
   have y0:=B1.out.c (i:=0) rfl
   have y1:=B1.out.c (i:=1) rfl
   have y2:=B1.out.c (i:=2) rfl
   have y3:=B1.out.c (i:=3) rfl
   have z0:=X1.out.c (i:=0) rfl
   have z1:=X1.out.c (i:=1) rfl
   clear O1 R1 R2 HQ KP
   cases hg:prG N ps (xss,yss)
   ·have HF:=hidK (HN1.out hg)
    rw [show (rwB N ps xss&&rwB N ps yss)=false from hg] at K1
    clear hg H1s HN1
    go_wp2_with fail
    refine K1.out.mono ?_
    rintro e w2 ⟨rfl,g2⟩
    have G2:=hidK (Old.trans G1.out g2)
    clear g2 y0 y1 y2 y3 z0 z1 K1
    go_wp2_with fail
    go_ret
    exact ⟨ret_bbK HF.out,G2.out⟩
   ·have HS:=hidK (H1s.out hg)
    rw [show (rwB N ps xss&&rwB N ps yss)=true from hg] at K1
    clear hg H1s HN1
    go_wp2_with fail
    refine K1.out.mono ?_
    rintro e w2 ⟨rfl,g2⟩
    have G2:=hidK (Old.trans G1.out g2)
    have B2:=hidK (B1.out.old g2)
    clear g2 y0 y1 y2 y3 z0 z1 K1
    go_wp2_with fail
    exact ⟨⟨k+1,by omega,by go_num,HS,G2,B2⟩,by simp [intOf];omega⟩
  ·have d1:decide ((k:Int)<(kss.length:Int))=false:=decide_eq_false (by omega)
   obtain rfl:k=kss.length:=by omega
   have HF:=hidK (HYes.out (fun j hj=>H1.out j hj))
   clear HYes HNo
   go_wp2_with fail
   go_ret
   exact ⟨ret_bbK HF.out,HG.out⟩
def kcN (kd:Int) (ps:List Int):Nat:=if kd=5 then 1 else if kd=6 then ps.length else 0
end Go.Proofs.YtanijpekdnkicaaGreatDoor
