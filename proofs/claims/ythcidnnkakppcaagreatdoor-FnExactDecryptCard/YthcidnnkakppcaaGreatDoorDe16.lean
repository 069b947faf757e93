/- Proved: what its theorems say. -/
import Derived.Test.YthcidnnkakppcaaGreatDoorDe10
set_option linter.unusedVariables false
set_option linter.unusedSimpArgs false
set_option maxHeartbeats 8000000
set_option maxRecDepth 100000
namespace Go.Proofs.YthcidnnkakppcaaGreatDoor
open Go.ChangeShapes Go.WideShapes Go.ChangeAt Go.RowKit
open M1
theorem Tryz.infoRingRow:(Tryz.prog.info? 149).map (fun i=>(i.zero,i.size,i.bytes))=some (some (.agg #[.int .i64 0,.int .i64 0,.int .i64 0,.bool false,.slice none 0 0]),5,56):=by kernel_rfl
def RRs (W:World) (g:Nat) (N:Int) (n:Bool) (ps:List Int) (Rf:Nat->Int) (us:Nat->Option Addr) (k:Nat):Prop:=
 ∃vs:List Value,vs.length=5*ps.length/\W.ownsRow g 149 5 (.slice (some ⟨g,0,none⟩) ps.length ps.length) ps.length vs
  /\∀i,i<k->vs[i*5]? = some (.int .i64 (ps.getD i 0))/\vs[i*5+1]? = some (.int .i64 N)/\vs[i*5+2]? = some (.int .i64 (Rf i))/\vs[i*5+3]? = some (.bool n)/\vs[i*5+4]? = some (.slice (us i) N.toNat N.toNat)
theorem RRs.lt {W:World} {g:Nat} {N:Int} {n:Bool} {ps:List Int} {Rf:Nat->Int} {us:Nat->Option Addr} {k:Nat} (h:RRs W g N n ps Rf us k):g<W.heap.size:=by
 obtain ⟨vs,_,ho,_⟩:=h;exact (ho.lt g rfl).2
theorem RRs.old {W W':World} {g:Nat} {N:Int} {n:Bool} {ps:List Int} {Rf:Nat->Int} {us:Nat->Option Addr} {k:Nat} (h:RRs W g N n ps Rf us k) (q:Old W W'):RRs W' g N n ps Rf us k:=by
 obtain ⟨vs,hl,ho,hy⟩:=h;refine ⟨vs,hl,⟨ho.1,?_⟩,hy⟩;rcases ho.2 with hn | ⟨p,cap,cur,e,hb,hgg,rest⟩
 ·exact .inl hn
 ·refine .inr ⟨p,cap,cur,e,hb,?_,rest⟩;rw [q.block p (Array.getElem?_eq_some_iff.1 hgg).1];exact hgg
theorem RRs.cell {W:World} {g:Nat} {N:Int} {n:Bool} {ps:List Int} {Rf:Nat->Int} {us:Nat->Option Addr} {k:Nat} (h:RRs W g N n ps Rf us k) (j:Nat) (hj:j<5*ps.length):∃y:Value,W.cell? ⟨g,j,none⟩=some y:=by
 obtain ⟨vs,hl,ho,hy⟩:=h;refine ⟨vs[j]'(by omega),?_⟩;rw [World.ownsRow.cellAt ho j (by omega)];exact List.getElem?_eq_getElem _
theorem RRs.free {W:World} {g:Nat} {N:Int} {n:Bool} {ps:List Int} {Rf:Nat->Int} {us:Nat->Option Addr} {k:Nat} (h:RRs W g N n ps Rf us k) (j:Nat):W.frozen? ⟨g,j,none⟩=false:=by
 obtain ⟨vs,hl,ho,hy⟩:=h;exact World.ownsRow.frozenAt ho j
theorem RRs.at {W:World} {g:Nat} {N:Int} {n:Bool} {ps:List Int} {Rf:Nat→Int} {us:Nat→Option Addr} {k:Nat} (h:RRs W g N n ps Rf us k) (i:Nat) (hi:i<k) (hx:i<ps.length) :
  W.cell? ⟨g,i*5,none⟩=some (.int .i64 (ps.getD i 0))/\W.cell? ⟨g,i*5+1,none⟩=some (.int .i64 N)/\W.cell? ⟨g,i*5+2,none⟩=some (.int .i64 (Rf i))/\W.cell? ⟨g,i*5+3,none⟩=some (.bool n)/\W.cell? ⟨g,i*5+4,none⟩=some (.slice (us i) N.toNat N.toNat):=by
 obtain ⟨vs,hl,ho,hy⟩:=h;obtain ⟨h0,h1,h2,h3,h4⟩:=hy i hi;refine ⟨?_,?_,?_,?_,?_⟩
 ·rw [World.ownsRow.cellAt ho _ (by omega)];exact h0
 ·rw [World.ownsRow.cellAt ho _ (by omega)];exact h1
 ·rw [World.ownsRow.cellAt ho _ (by omega)];exact h2
 ·rw [World.ownsRow.cellAt ho _ (by omega)];exact h3
 ·rw [World.ownsRow.cellAt ho _ (by omega)];exact h4
theorem RRs.put {W:World} {g:Nat} {N:Int} {n:Bool} {ps:List Int} {Rf:Nat→Int} {us:Nat→Option Addr} {k:Nat} (h:RRs W g N n ps Rf us k) (hk:k<ps.length) :
  RRs (((((W.setCell ⟨g,k*5,none⟩ (.int .i64 (ps.getD k 0))).setCell ⟨g,k*5+1,none⟩ (.int .i64 N)).setCell ⟨g,k*5+2,none⟩ (.int .i64 (Rf k))).setCell ⟨g,k*5+3,none⟩ (.bool n)).setCell ⟨g,k*5+4,none⟩ (.slice (us k) N.toNat N.toNat)) g N n ps Rf us (k+1):=by
 obtain ⟨vs,hl,ho,hy⟩:=h;have h1:=(World.ownsRow.stored ho (k*5) (.int .i64 (ps.getD k 0))).1;have h2:=(World.ownsRow.stored h1 (k*5+1) (.int .i64 N)).1;have h3:=(World.ownsRow.stored h2 (k*5+2) (.int .i64 (Rf k))).1;have h4:=(World.ownsRow.stored h3 (k*5+3) (.bool n)).1;have h5:=(World.ownsRow.stored h4 (k*5+4) (.slice (us k) N.toNat N.toNat)).1;refine ⟨_,by simp [hl],h5,fun i hi=>?_⟩;rcases Nat.lt_or_ge i k with hlt | hge
 ·obtain ⟨q0,q1,q2,q3,q4⟩:=hy i hlt;refine ⟨?_,?_,?_,?_,?_⟩
  all_goals (rw [List.getElem?_set_ne (by omega),List.getElem?_set_ne (by omega),List.getElem?_set_ne (by omega),List.getElem?_set_ne (by omega),List.getElem?_set_ne (by omega)];assumption)
 ·obtain rfl:i=k:=by omega
  refine ⟨?_,?_,?_,?_,?_⟩
  ·rw [List.getElem?_set_ne (by omega),List.getElem?_set_ne (by omega),List.getElem?_set_ne (by omega),List.getElem?_set_ne (by omega),List.getElem?_set_self (by omega)]
  ·rw [List.getElem?_set_ne (by omega),List.getElem?_set_ne (by omega),List.getElem?_set_ne (by omega),List.getElem?_set_self (by simp;omega)]
  ·rw [List.getElem?_set_ne (by omega),List.getElem?_set_ne (by omega),List.getElem?_set_self (by simp;omega)]
  ·rw [List.getElem?_set_ne (by omega),List.getElem?_set_self (by simp;omega)]
  ·rw [List.getElem?_set_self (by simp;omega)]
def Qgr (w:World) (v:Value) (ps:List Int) (xss:List (List Int)) (us:Nat->Option Addr) (cs:Nat->Nat):Prop:=
 ∃b cap,v=.slice (some ⟨b,0,none⟩) xss.length cap/\b<w.heap.size/\∀j,j<xss.length->w.cell? ⟨b,j,none⟩=some (.slice (us j) (xss.getD j []).length (cs j))/\(xss.getD j []).length<=cs j/\Row w (.slice (us j) (xss.getD j []).length (cs j)) (xss.getD j [])
theorem OwS.at {xss:List (List Int)} {W:World} {lo hi:Nat} {v:Value} (ps:List Int) (h:OwS xss W lo hi v) (h0:0<xss.length):∃us cs,Qgr W v ps xss us cs:=by
 obtain ⟨hh,h | ⟨p,cap,vs,rfl,hcap,hlo,hhi,ho,hvl,hj,hd⟩⟩:=h
 ·obtain ⟨rfl,rfl⟩:=h;simp at h0
 ·have key:∀j,∃ac:Option Addr×Nat,j<xss.length→W.cell? ⟨p,j,none⟩=some (.slice ac.1 (xss.getD j []).length ac.2)∧(xss.getD j []).length≤ac.2∧Row W (.slice ac.1 (xss.getD j []).length ac.2) (xss.getD j []):=fun j=>by
   by_cases hjl:j<xss.length
   ·obtain ⟨a,c,e,hc,o,hb⟩:=hj j hjl;refine ⟨(a,c),fun _=>⟨?_,hc,o.row⟩⟩;rw [World.ownsRow.cellAt ho j (by omega)];exact e
   ·exact ⟨(none,0),fun h=>absurd h hjl⟩
  obtain ⟨f,hf⟩:=Classical.skolem.1 key;exact ⟨fun j=>(f j).1,fun j=>(f j).2,p,cap,rfl,by omega,hf⟩
theorem Qgr.old {w w':World} {v:Value} {ps:List Int} {xss:List (List Int)} {us:Nat->Option Addr} {cs:Nat->Nat} (h:Qgr w v ps xss us cs) (g:Old w w'):Qgr w' v ps xss us cs:=by
 obtain ⟨b,cap,e,hb,hc⟩:=h;exact ⟨b,cap,e,Nat.lt_of_lt_of_le hb g.size,fun j hj=>⟨(g.cell (p:=⟨b,j,none⟩) hb).trans (hc j hj).1,(hc j hj).2.1,(hc j hj).2.2.old g⟩⟩
theorem Rgs.same {W W':World} {g:Nat} {N:Int} {xs:List Int} {Rf:Nat->Int} {k:Nat} (h:Rgs W g N xs Rf k) (e:W'.heap[g]? = W.heap[g]?):Rgs W' g N xs Rf k:=by
 obtain ⟨ys,hl,ho,hy⟩:=h;refine ⟨ys,hl,⟨ho.1,?_⟩,hy⟩;rcases ho.2 with hn | ⟨p,cap,cur,e',hb,hgg,rest⟩
 ·exact .inl hn
 ·refine .inr ⟨p,cap,cur,e',hb,?_,rest⟩
  have:p=g:=by
   simp only [Value.slice.injEq,Option.some.injEq,Addr.mk.injEq] at e';exact e'.1.1.symm
  subst this;rw [e];exact hgg
theorem Qmo (W:World) (a:Addr):W.drew.cell? a=W.cell? a:=rfl
theorem Rgs.drewn {W:World} {g:Nat} {N:Int} {xs:List Int} {Rf:Nat->Int} {k:Nat} (h:Rgs W g N xs Rf k):Rgs W.drew g N xs Rf k:=h
theorem RRs.drewn {W:World} {g:Nat} {N:Int} {n:Bool} {ps:List Int} {Rf:Nat->Int} {us:Nat->Option Addr} {k:Nat} (h:RRs W g N n ps Rf us k):RRs W.drew g N n ps Rf us k:=h
theorem Qwr (z:Array Value) (n k:Nat):(madeCells z (n*k)).toList.length=k*n:=by
 simp [size_madeCells,Nat.mul_comm]
theorem Qtv {p N:Int} {xs:List Int} (h:Qcs p N xs=true):(xs.length:Int)=N:=by
 unfold Qcs at h;rw [Bool.and_eq_true] at h;exact of_decide_eq_true h.1
theorem Qok (N:Int) (n:Bool) (ps:List Int) (xss:List (List Int)) (Rf:Nat→Int) (us:Nat→Option Addr) (cs:Nat→Nat) (g:Nat) (a1:Option Addr) (cap1:Nat) (w:World) (hrg:Rgs w g N ps Rf ps.length) (hsp:spB N ps=true) (hlx:xss.length≤1048576) (hr:∀r∈xss,r.length≤1048576) (hu:0<xss.length→Qgr w (.slice a1 xss.length cap1) ps xss us cs) :
  Calls Tryz.prog 63 #[.slice (some ⟨g,0,none⟩) ps.length ps.length,.agg #[.bool n,.slice a1 xss.length cap1]] w fun e w'=>Old w w'/\((rwB N ps xss=false/\e=.returned (.tuple #[.slice none 0 0,.bool false]))∨(rwB N ps xss=true/\∃g',w.heap.size<=g'/\e=.returned (.tuple #[.slice (some ⟨g',0,none⟩) ps.length ps.length,.bool true])/\RRs w' g' N n ps Rf us ps.length)):=by
 have HU:=Qaa hu;have HR:=Qaa hr;have HSP:=Qaa hsp;have hgl:=hrg.lt;have HN:Hid (Old w (w.alloc (.cells #[.bool n,.slice a1 xss.length cap1] 110))):=(Old.refl w).alloc _;have HRG0:Hid (Rgs (w.alloc (.cells #[.bool n,.slice a1 xss.length cap1] 110)) g N ps Rf ps.length):=hrg.old ((Old.refl w).alloc _);have hlen:=(Qdc (Qdm hsp).2.1).1;clear hu hr hsp hrg
 by_cases hn:xss.length=ps.length
 ·have dn:((xss.length:Int) != (ps.length:Int))=false:=by simp;omega
  obtain ⟨hz,hbb,hring⟩:=Qdm HSP.out;have HPM:=Qaa ((Qdc hbb).2);obtain ⟨Nn,rfl⟩:∃Nn:Nat,N=(Nn:Int):=⟨N.toNat,by omega⟩
  have hNn:2<=Nn/\Nn<=16:=by omega
  obtain ⟨bu,capu,eu,hbu,hcu⟩:=HU.out (by omega);simp only [Value.slice.injEq,true_and] at eu;obtain ⟨rfl,rfl⟩:=eu;have HCU:=Qaa hcu;have HB0:Hid (rwA Nn ps xss 0=rwB Nn ps xss):=by show _ = _;unfold rwB;rw [decide_eq_true hn];rfl
  have HNN:=Qaa hn;obtain ⟨i0,hi,hz0,hz1,hz2⟩:=info_parts Tryz.infoRingRow;generalize rwB (Nn:Int) ps xss=GB at *;clear hz hbb hring hcu hn;go_enter Tryz.func63,Tryz.ntmps63;go_wp2_with (at_make;refine wpList_make_full _ rfl _ _ 76 rfl (w.heap.size+1) 149 i0 (.agg #[.int .i64 0,.int .i64 0,.int .i64 0,.bool false,.slice none 0 0]) 5 Tryz.underlying76 hi hz0 hz1 .i64 .i64 _ _ ps.length rfl rfl rfl rfl (by rw [hz2];omega) (by unfold maxLen;omega) (by simp) ?_;intro w2 hown hgrow);simp only [World.size_alloc] at hown hgrow;have HRR:Hid (RRs w2 (w.heap.size+1) Nn n ps Rf us 0):=⟨_,Qwr _ _ _,(by simpa using hown),fun i hi=>by omega⟩;have g2:Old (w.alloc (.cells #[.bool n,.slice (some ⟨bu,0,none⟩) xss.length cap1] 110)) w2:=Qbg hgrow;have HG2:=Qaa (Old.trans HN.out g2);have HRG2:=Qaa (HRG0.out.old g2);have HS2:Hid (w2.cell? ⟨w.heap.size,0,none⟩=some (.bool n)/\w2.cell? ⟨w.heap.size,1,none⟩=some (.slice (some ⟨bu,0,none⟩) xss.length cap1)):=⟨(g2.cell (p:=⟨w.heap.size,0,none⟩) (by simp)).trans (Qad _ _ _ _ _ rfl),(g2.cell (p:=⟨w.heap.size,1,none⟩) (by simp)).trans (Qad _ _ _ _ _ rfl)⟩;clear hown hgrow g2 HRG0
  go_loopw [21] (fun i W=>∃k:Nat,k<=ps.length/\i=.int .i64 k/\Hid (rwA Nn ps xss k=GB)/\Hid (RRs W (w.heap.size+1) Nn n ps Rf us k)/\Hid (Old w W)/\Hid (Rgs W g Nn ps Rf ps.length)/\Hid (W.cell? ⟨w.heap.size,0,none⟩=some (.bool n)/\W.cell? ⟨w.heap.size,1,none⟩=some (.slice (some ⟨bu,0,none⟩) xss.length cap1))) (fun i _=>ps.length - (intOf i).toNat)
  case atStart=>exact ⟨0,by omega,rfl,HB0,HRR,HG2,HRG2,HS2⟩
  case round=>
   obtain ⟨k,hk,rfl,H1,HRK,HG,HRG,HS⟩:=hrel;clear HB0 HRR HG2 HRG2 HS2;have hsr:=HRK.out.lt
   by_cases hlt:k<ps.length
   ·have hnn:=HNN.out;have hkx:k<xss.length:=by omega
    obtain ⟨r0,r1,r2⟩:=HRG.out.at k hlt hlt;obtain ⟨c0,hcs,rw0⟩:=HCU.out k hkx;have hp:=Qs8 (HPM.out k hlt);have hm:xss.getD k []∈xss:=by simp [List.getD,hkx]
    have hrl:=HR.out _ hm;have HY:=Qaa (fun h=>by have:=H1.out;rw [Qti h] at this;exact this);have HNo:=Qaa (fun h=>by have:=H1.out;rw [Qyg hlt h] at this;exact this.symm);have HPUT:Hid (∀W,RRs W (w.heap.size+1) Nn n ps Rf us k->RRs (((((W.setCell ⟨w.heap.size+1,k*5,none⟩ (.int .i64 (ps.getD k 0))).setCell ⟨w.heap.size+1,k*5+1,none⟩ (.int .i64 Nn)).setCell ⟨w.heap.size+1,k*5+2,none⟩ (.int .i64 (Rf k))).setCell ⟨w.heap.size+1,k*5+3,none⟩ (.bool n)).setCell ⟨w.heap.size+1,k*5+4,none⟩ (.slice (us k) Nn Nn)) (w.heap.size+1) Nn n ps Rf us (k+1)):=fun W h=>h.put hlt
    obtain ⟨r,er⟩:∃r,Rf k=r:=⟨_,rfl⟩
    obtain ⟨ua,eua⟩:∃ua,us k=ua:=⟨_,rfl⟩
    obtain ⟨cc,ecc⟩:∃cc,cs k=cc:=⟨_,rfl⟩
    rw [er] at r2 HPUT;rw [eua] at c0 rw0 HPUT;rw [ecc] at c0 rw0 hcs;generalize xss.getD k []=xs at *;generalize ps.getD k 0=p at *;have cp:=fun W (h:Row W (.slice ua xs.length cc) xs)=>Qs9 p Nn r xs _ W h (by omega) hp
    have gb:Old wr (wr.alloc (.cells #[.int .i64 p,.int .i64 Nn,.int .i64 r] 133)):=(Old.refl wr).alloc _;have HGB:=Qaa (Old.trans HG.out gb);have x1:=(gb.cell (p:=⟨w.heap.size,1,none⟩) (by show w.heap.size<wr.heap.size;omega)).trans HS.out.2;have x2:=(HGB.out.cell (p:=⟨bu,k,none⟩) hbu).trans c0;have RW:=Qaa (rw0.old HGB.out);have HXL:Hid (Qcs p Nn xs=true->(xs.length:Int)=Nn):=Qtv;clear H1 c0 rw0 er eua ecc hm gb hnn;obtain ⟨q,hq⟩:∃q,Qcs p Nn xs=q:=⟨_,rfl⟩
    rw [hq] at cp HY HNo HXL;clear hq
    cases q
    ·have HB:=Qaa (HNo.out rfl);clear HY HNo HXL;go_wp2_with fail;refine (cp _ RW.out).mono ?_
     rintro e w3 ⟨rfl,g3⟩;have HG3:=Qaa (Old.trans HGB.out g3);clear g3;go_wp2_with fail;exact bodyPost_ret (v:=.tuple #[.slice none 0 0,.bool false]) (by simp [results,Tryz.results63,go_sem]) rfl ⟨HG3.out,Or.inl ⟨HB.out,rfl⟩⟩
    ·have H3:=Qaa (HY.out rfl);have hxl:xs.length=Nn:=by have:=HXL.out rfl;omega
     rw [hxl] at hcs;have HXN:=Qaa hxl;clear HY HNo HXL hxl;go_wp2_with fail;refine (cp _ RW.out).mono ?_
     rintro e w3 ⟨rfl,g3⟩;have g4:=Old.trans ((Old.refl wr).alloc _) g3;have HG3:=Qaa (Old.trans HGB.out g3);have HRK3:=Qaa (HRK.out.old g4);have HRG3:=Qaa (HRG.out.old g4);have HS3:Hid (w3.cell? ⟨w.heap.size,0,none⟩=some (.bool n)/\w3.cell? ⟨w.heap.size,1,none⟩=some (.slice (some ⟨bu,0,none⟩) xss.length cap1)):=⟨(g4.cell (p:=⟨w.heap.size,0,none⟩) (by show w.heap.size<wr.heap.size;omega)).trans HS.out.1,(g4.cell (p:=⟨w.heap.size,1,none⟩) (by show w.heap.size<wr.heap.size;omega)).trans HS.out.2⟩;have z0:w3.cell? ⟨wr.heap.size,0,none⟩=some (.int .i64 p):=(g3.cell (p:=⟨wr.heap.size,0,none⟩) (by simp)).trans (Qad _ _ _ _ _ rfl)
     have z1:w3.cell? ⟨wr.heap.size,1,none⟩=some (.int .i64 Nn):=(g3.cell (p:=⟨wr.heap.size,1,none⟩) (by simp)).trans (Qad _ _ _ _ _ rfl)
     have z2:w3.cell? ⟨wr.heap.size,2,none⟩=some (.int .i64 r):=(g3.cell (p:=⟨wr.heap.size,2,none⟩) (by simp)).trans (Qad _ _ _ _ _ rfl)
     have s0:=HS3.out.1;obtain ⟨y0,q0⟩:=HRK3.out.cell (k*5) (by omega);obtain ⟨y1,q1⟩:=HRK3.out.cell (k*5+1) (by omega);obtain ⟨y2,q2⟩:=HRK3.out.cell (k*5+2) (by omega);obtain ⟨y3,q3⟩:=HRK3.out.cell (k*5+3) (by omega);obtain ⟨y4,q4⟩:=HRK3.out.cell (k*5+4) (by omega);have f0:=HRK3.out.free (k*5);have f1:=HRK3.out.free (k*5+1);have f2:=HRK3.out.free (k*5+2);have f3:=HRK3.out.free (k*5+3);have f4:=HRK3.out.free (k*5+4);clear g3 g4 cp x1 x2 r0 r1 r2 RW;rw [HXN.out];clear HXN
     go_upto_region 10 with fail
     have hne:w.heap.size≠w.heap.size+1:=by omega
     have hng:g≠w.heap.size+1:=by omega
     have A1:=Qaa (RRs.drewn (HPUT.out _ HRK3.out));have A2:Hid (Old w (((((w3.setCell ⟨w.heap.size+1,k*5,none⟩ (.int .i64 p)).setCell ⟨w.heap.size+1,k*5+1,none⟩ (.int .i64 Nn)).setCell ⟨w.heap.size+1,k*5+2,none⟩ (.int .i64 r)).setCell ⟨w.heap.size+1,k*5+3,none⟩ (.bool n)).setCell ⟨w.heap.size+1,k*5+4,none⟩ (.slice ua Nn Nn)).drew):=Below.drew (((((HG3.out.own (p:=⟨w.heap.size+1,k*5,none⟩) (by show w.heap.size<=w.heap.size+1;omega) _).own (p:=⟨w.heap.size+1,k*5+1,none⟩) (by show w.heap.size<=w.heap.size+1;omega) _).own (p:=⟨w.heap.size+1,k*5+2,none⟩) (by show w.heap.size<=w.heap.size+1;omega) _).own (p:=⟨w.heap.size+1,k*5+3,none⟩) (by show w.heap.size<=w.heap.size+1;omega) _).own (p:=⟨w.heap.size+1,k*5+4,none⟩) (by show w.heap.size<=w.heap.size+1;omega) _);have A3:Hid (Rgs (((((w3.setCell ⟨w.heap.size+1,k*5,none⟩ (.int .i64 p)).setCell ⟨w.heap.size+1,k*5+1,none⟩ (.int .i64 Nn)).setCell ⟨w.heap.size+1,k*5+2,none⟩ (.int .i64 r)).setCell ⟨w.heap.size+1,k*5+3,none⟩ (.bool n)).setCell ⟨w.heap.size+1,k*5+4,none⟩ (.slice ua Nn Nn)).drew g Nn ps Rf ps.length):=Rgs.drewn (HRG3.out.same ((heap_setCell_other _ _ _ _ hng).trans ((heap_setCell_other _ _ _ _ hng).trans ((heap_setCell_other _ _ _ _ hng).trans ((heap_setCell_other _ _ _ _ hng).trans ((heap_setCell_other _ _ _ _ hng).trans (rfl)))))));have A4:Hid ((((((w3.setCell ⟨w.heap.size+1,k*5,none⟩ (.int .i64 p)).setCell ⟨w.heap.size+1,k*5+1,none⟩ (.int .i64 Nn)).setCell ⟨w.heap.size+1,k*5+2,none⟩ (.int .i64 r)).setCell ⟨w.heap.size+1,k*5+3,none⟩ (.bool n)).setCell ⟨w.heap.size+1,k*5+4,none⟩ (.slice ua Nn Nn)).drew.cell? ⟨w.heap.size,0,none⟩=some (.bool n)/\(((((w3.setCell ⟨w.heap.size+1,k*5,none⟩ (.int .i64 p)).setCell ⟨w.heap.size+1,k*5+1,none⟩ (.int .i64 Nn)).setCell ⟨w.heap.size+1,k*5+2,none⟩ (.int .i64 r)).setCell ⟨w.heap.size+1,k*5+3,none⟩ (.bool n)).setCell ⟨w.heap.size+1,k*5+4,none⟩ (.slice ua Nn Nn)).drew.cell? ⟨w.heap.size,1,none⟩=some (.slice (some ⟨bu,0,none⟩) xss.length cap1)):=⟨(Qmo _ _).trans ((Qb9 _ _ _ _ hne).trans ((Qb9 _ _ _ _ hne).trans ((Qb9 _ _ _ _ hne).trans ((Qb9 _ _ _ _ hne).trans ((Qb9 _ _ _ _ hne).trans (HS3.out.1)))))),(Qmo _ _).trans ((Qb9 _ _ _ _ hne).trans ((Qb9 _ _ _ _ hne).trans ((Qb9 _ _ _ _ hne).trans ((Qb9 _ _ _ _ hne).trans ((Qb9 _ _ _ _ hne).trans (HS3.out.2))))))⟩;clear hne hng
     go_region
     go_wp2_with fail;exact ⟨⟨k+1,by omega,by go_num,H3,A1,A2,A3,A4⟩,by simp [intOf];omega⟩
   ·have d1:decide ((k:Int)<(ps.length:Int))=false:=by simp;omega
    obtain rfl:k=ps.length:=by omega
    have HB:Hid (GB=true):=by have:=H1.out;rw [Qth (Nat.le_refl _)] at this;exact this.symm
    clear H1;go_wp2_with fail;exact bodyPost_ret (v:=.tuple #[.slice (some ⟨w.heap.size+1,0,none⟩) ps.length ps.length,.bool true]) (by simp [results,Tryz.results63,go_sem]) rfl ⟨HG.out,Or.inr ⟨HB.out,w.heap.size+1,by omega,rfl,HRK.out⟩⟩
 ·have dn:((xss.length:Int) != (ps.length:Int))=true:=by simp;omega
  have HB:Hid (rwB N ps xss=false):=by show _ = _;unfold rwB;rw [decide_eq_false hn];rfl
  clear hn;go_enter Tryz.func63,Tryz.ntmps63;go_wp2_with fail;exact bodyPost_ret (v:=.tuple #[.slice none 0 0,.bool false]) (by simp [results,Tryz.results63,go_sem]) rfl ⟨HN.out,Or.inl ⟨HB.out,rfl⟩⟩
theorem Qh3 (n:Bool) (l1:Nat) (a1:Option Addr) (cap1:Nat) (w:World) :
  Calls Tryz.prog 63 #[.slice none 0 0,.agg #[.bool n,.slice a1 l1 cap1]] w fun e w'=>Old w w'/\((decide (l1=0)=false/\e=.returned (.tuple #[.slice none 0 0,.bool false]))∨(decide (l1=0)=true/\∃g,e=.returned (.tuple #[.slice g 0 0,.bool true]))):=by
 have HN:Hid (Old w (w.alloc (.cells #[.bool n,.slice a1 l1 cap1] 110))):=(Old.refl w).alloc _
 by_cases h:l1=0
 ·have HD:=Qaa (decide_eq_true h);generalize decide (l1=0)=bb at *;subst h;obtain ⟨i0,hi,hz0,hz1,hz2⟩:=info_parts Tryz.infoRingRow;go_enter Tryz.func63,Tryz.ntmps63;go_wp2_with (at_make;refine wpList_make_full _ rfl _ _ 76 rfl (w.heap.size+1) 149 i0 (.agg #[.int .i64 0,.int .i64 0,.int .i64 0,.bool false,.slice none 0 0]) 5 Tryz.underlying76 hi hz0 hz1 .i64 .i64 _ _ 0 rfl rfl rfl rfl (by rw [hz2];omega) (by unfold maxLen;omega) (by simp) ?_;intro w2 hown hgrow);have HG2:=Qaa (Old.trans HN.out (Qbg hgrow));clear hown hgrow
  go_loopw [21] (fun i W=>i=.int .i64 0/\W=w2) (fun _ _=>0)
  case atStart=>exact ⟨rfl,rfl⟩
  case round=>
   obtain ⟨rfl,hW⟩:=hrel;obtain rfl:w2=wr:=hW.symm;go_wp2_with fail;refine bodyPost_ret (v:=.tuple #[.slice (some ⟨w.heap.size+1,0,none⟩) 0 0,.bool true]) (by simp [results,Tryz.results63,go_sem]) rfl ?_
   exact ⟨HG2.out,Or.inr ⟨HD.out,_,rfl⟩⟩
 ·have dn:((l1:Int) != 0)=true:=by simp;omega
  have HD:=Qaa (decide_eq_false h);generalize decide (l1=0)=bb at *;clear h;go_enter Tryz.func63,Tryz.ntmps63;go_wp2_with fail;refine bodyPost_ret (v:=.tuple #[.slice none 0 0,.bool false]) (by simp [results,Tryz.results63,go_sem]) rfl ?_
  exact ⟨HN.out,Or.inl ⟨HD.out,rfl⟩⟩
end Go.Proofs.YthcidnnkakppcaaGreatDoor
namespace Go.Proofs.YthcidnnkakppcaaGreatDoor
open Go.ChangeShapes Go.WideShapes Go.ChangeAt Go.RowKit
def TR (P N R:Int) (a:Bool) (E:Qba):Qba:=fun W B cs=>∃x,cs=[.int .i64 P,.int .i64 N,.int .i64 R,.bool a,x]/\E W B [x]
theorem Q0p (P N R:Int) (a:Bool) {E:Qba} (g:GoodT E):GoodT (TR P N R a E):=by
 constructor
 ·rintro W W' B cs ⟨x,e,h⟩ hf;exact ⟨x,e,g.far h hf⟩
 ·rintro W B cs ⟨x,e,h⟩ b hb;exact g.lt h b hb
abbrev elR (N:Int) (a:Bool) (ps:List Int) (Rf:Nat->Int) (zss:List (List Int)):Nat->Qba:=fun k=>TR (ps.getD k 0) N (Rf k) a (TI (zss.getD k []))
theorem Qkd (N:Int) (a:Bool) (ps:List Int) (Rf:Nat->Int) (zss:List (List Int)) (k:Nat):GoodT (elR N a ps Rf zss k):=Q0p _ _ _ _ (Qcr _)
def RdR (w:World) (v:Value) (m:Nat) (N:Int) (a:Bool) (ps:List Int) (Rf:Nat->Int) (us:Nat->Value):Prop:=
 ∃b cap,v=.slice (some ⟨b,0,none⟩) m cap/\b<w.heap.size/\∀k,k<m->w.cell? ⟨b,k*5,none⟩=some (.int .i64 (ps.getD k 0))/\w.cell? ⟨b,k*5+1,none⟩=some (.int .i64 N)/\w.cell? ⟨b,k*5+2,none⟩=some (.int .i64 (Rf k))/\w.cell? ⟨b,k*5+3,none⟩=some (.bool a)/\w.cell? ⟨b,k*5+4,none⟩=some (us k)
theorem RdR.old {w w':World} {v:Value} {m:Nat} {N:Int} {a:Bool} {ps:List Int} {Rf:Nat->Int} {us:Nat->Value} (h:RdR w v m N a ps Rf us) (g:Old w w'):RdR w' v m N a ps Rf us:=by
 obtain ⟨b,cap,e,hb,hc⟩:=h;refine ⟨b,cap,e,Nat.lt_of_lt_of_le hb g.size,fun k hk=>?_⟩;obtain ⟨h0,h1,h2,h3,h4⟩:=hc k hk;exact ⟨(g.cell (p:=⟨b,k*5,none⟩) hb).trans h0,(g.cell (p:=⟨b,k*5+1,none⟩) hb).trans h1,(g.cell (p:=⟨b,k*5+2,none⟩) hb).trans h2,(g.cell (p:=⟨b,k*5+3,none⟩) hb).trans h3,(g.cell (p:=⟨b,k*5+4,none⟩) hb).trans h4⟩
theorem RRs.rd {W:World} {g:Nat} {N:Int} {n:Bool} {ps:List Int} {Rf:Nat->Int} {us:Nat->Option Addr} (h:RRs W g N n ps Rf us ps.length):RdR W (.slice (some ⟨g,0,none⟩) ps.length ps.length) ps.length N n ps Rf (fun k=>.slice (us k) N.toNat N.toNat):=
 ⟨g,ps.length,rfl,h.lt,fun k hk=>h.at k hk hk⟩
theorem Ows.rd {N:Int} {a:Bool} {ps:List Int} {Rf:Nat→Int} {zss:List (List Int)} {m:Nat} {W:World} {lo hi:Nat} {v:Value} (h0:0<m) (h:Ows (TS 149 5 m (elR N a ps Rf zss)) W lo hi [v]) :
  ∃us:Nat->Value,RdR W v m N a ps Rf us/\∀k,k<m->Row W (us k) (zss.getD k [])/\∃x c,us k=.slice x (zss.getD k []).length c:=by
 obtain ⟨_,B,hT,_⟩:=h;rcases hT with ⟨e,_⟩ | ⟨p,cap,vs,Bs,e,hc,_⟩
 ·omega
 simp at e;subst e;have hx:∀k,k<m->∃x,Qaz 5 vs k=[.int .i64 (ps.getD k 0),.int .i64 N,.int .i64 (Rf k),.bool a,x]/\TI (zss.getD k []) W (Bs k) [x]:=fun k hk=>hc.el k hk
 refine ⟨fun k=>(Qaz 5 vs k).getD 4 (.slice none 0 0),⟨p,cap,rfl,Qa1 hc.row,fun k hk=>?_⟩,fun k hk=>?_⟩
 ·obtain ⟨x,e,hE⟩:=hx k hk;have c0:=hc.cell k 0 hk (by omega);have c1:=hc.cell k 1 hk (by omega);have c2:=hc.cell k 2 hk (by omega);have c3:=hc.cell k 3 hk (by omega);have c4:=hc.cell k 4 hk (by omega)
  show _/\_/\_/\_/\W.cell? ⟨p,k*5+4,none⟩=some ((Qaz 5 vs k).getD 4 (.slice none 0 0))
  rw [e] at c0 c1 c2 c3 c4 ⊢;exact ⟨c0,c1,c2,c3,c4⟩
 ·obtain ⟨x,e,hE⟩:=hx k hk
  show Row W ((Qaz 5 vs k).getD 4 (.slice none 0 0)) _/\∃y c,(Qaz 5 vs k).getD 4 (.slice none 0 0)=.slice y _ c
  rw [e];exact ⟨hE.row,hE.slice⟩
theorem Qro {m k:Nat} {vs:List Value} (h:vs.length=m*5) (hk:k<m) (a b c d e:Value):Qaz 5 (((((vs.set (k*5+0) a).set (k*5+1) b).set (k*5+2) c).set (k*5+3) d).set (k*5+4) e) k=[a,b,c,d,e]:=by
 have hl:=Qbe (n:=5) h k hk;rw [Qbl 5 _ k 4 k e (by omega),if_pos rfl,Qbl 5 _ k 3 k d (by omega),if_pos rfl,Qbl 5 _ k 2 k c (by omega),if_pos rfl,Qbl 5 _ k 1 k b (by omega),if_pos rfl,Qbl 5 _ k 0 k a (by omega),if_pos rfl]
 match Qaz 5 vs k,hl with
 | [_,_,_,_,_],_=>rfl
theorem TSc.store5 {T:TypeId} {m k:Nat} {Es:Nat→Qba} {W:World} {p cap:Nat} {vs:List Value} {Bs:Nat→Nat→Prop} {B:Nat→Prop} (g:∀j,GoodT (Es j)) (h:TSc T 5 m k Es W p cap vs Bs) (hk:k<m) (a b c d e:Value)
  (he:∀W':World,(∀b,b≠p->W'.heap[b]? = W.heap[b]?)->Es k W' B [a,b,c,d,e]) (hp:¬B p) (hd:∀j,j<k->∀b,Bs j b->B b->False) :
  ∃vs',TSc T 5 m (k+1) Es (((((W.setCell ⟨p,k*5,none⟩ a).setCell ⟨p,k*5+1,none⟩ b).setCell ⟨p,k*5+2,none⟩ c).setCell ⟨p,k*5+3,none⟩ d).setCell ⟨p,k*5+4,none⟩ e) p cap vs' (fun q=>if q=k then B else Bs q):=by
 have h1:=h.fill g 0 (by omega) a;have h2:=h1.fill g 1 (by omega) b;have h3:=h2.fill g 2 (by omega) c;have h4:=h3.fill g 3 (by omega) d;have h5:=h4.fill g 4 (by omega) e;refine ⟨_,h5.more (B:=B) ?_ hp hd⟩;rw [Qro h.row.1 hk a b c d e];refine he _ (fun b hb=>?_);rw [heap_setCell_other _ _ _ _ hb,heap_setCell_other _ _ _ _ hb,heap_setCell_other _ _ _ _ hb,heap_setCell_other _ _ _ _ hb];exact heap_setCell_other _ _ _ _ hb
theorem cells_one {m k:Nat} {vs:List Value} (h:vs.length=m*1) (hk:k<m) (a:Value):Qaz 1 (vs.set (k*1+0) a) k=[a]:=by
 have hl:=Qbe (n:=1) h k hk;rw [Qbl 1 _ k 0 k a (by omega),if_pos rfl]
 match Qaz 1 vs k,hl with
 | [_],_=>rfl
theorem TSc.store1 {T:TypeId} {m k:Nat} {Es:Nat→Qba} {W:World} {p cap:Nat} {vs:List Value} {Bs:Nat→Nat→Prop} {B:Nat→Prop} (g:∀j,GoodT (Es j)) (h:TSc T 1 m k Es W p cap vs Bs) (hk:k<m) (a:Value)
  (he:∀W':World,(∀b,b≠p->W'.heap[b]? = W.heap[b]?)->Es k W' B [a]) (hp:¬B p) (hd:∀j,j<k->∀b,Bs j b->B b->False) :
  ∃vs',TSc T 1 m (k+1) Es (W.setCell ⟨p,k,none⟩ a) p cap vs' (fun q=>if q=k then B else Bs q):=by
 have h1:=h.fill g 0 (by omega) a;rw [Nat.mul_one,Nat.add_zero] at h1;refine ⟨_,h1.more (B:=B) ?_ hp hd⟩;have:=cells_one h.row.1 hk a;rw [Nat.mul_one,Nat.add_zero] at this;rw [this];exact he _ (fun b hb=>heap_setCell_other _ _ _ _ hb)
theorem Qqc (P N R:Int) (a:Bool) (x y:Option Addr) (n c n' c':Nat) (w:World) :
  Calls Tryz.prog 120 #[.agg #[.int .i64 P,.int .i64 N,.int .i64 R,.bool a,.slice x n c],.slice y n' c'] w fun e w'=>e=.returned (.agg #[.int .i64 P,.int .i64 N,.int .i64 R,.bool a,.slice y n' c'])/\Old w w':=by
 go_enter Tryz.func120,Tryz.ntmps120;go_wp2_with fail;refine bodyPost_ret (v:=.agg #[.int .i64 P,.int .i64 N,.int .i64 R,.bool a,.slice y n' c']) (by simp [results,Tryz.results120,go_sem]) rfl ⟨rfl,?_⟩;exact ((Old.refl w).alloc _).alloc _
theorem Qol (N:Int) (a:Bool) (ps:List Int) (Rf:Nat→Int) (us:Nat→Value) (v:Value) (ps2:List Int) (Rf2:Nat→Int) (a2:Bool) (us2:Nat→Value) (v2:Value) (m:Nat) (w:World) (hr:RdR w v m N a ps Rf us) (hus:∀k,k<m→∃x n c,us k=.slice x n c) (hr2:RdR w v2 m N a2 ps2 Rf2 us2) (hus2:∀k,k<m→∃x n c,us2 k=.slice x n c) (hm:1≤m∧m≤1000) (zss:List (List Int))
  (cj:∀k,k<m->∀W,Old w W->Calls Tryz.prog 104 #[.agg #[.int .i64 (ps.getD k 0),.int .i64 N,.int .i64 (Rf k),.bool a,us k],.agg #[.int .i64 (ps2.getD k 0),.int .i64 N,.int .i64 (Rf2 k),.bool a2,us2 k]] W fun e w'=>∃v',e=.returned v'/\Old W w'/\Own w' W.heap.size v' (zss.getD k [])) :
  Calls Tryz.prog 102 #[v,v2,.func (.func 104) #[] #[]] w fun e w'=>e=.returned (.slice (some ⟨w.heap.size,0,none⟩) m m)/\Old w w'/\Ows (TS 149 5 m (elR N a ps Rf zss)) w' w.heap.size w'.heap.size [.slice (some ⟨w.heap.size,0,none⟩) m m]:=by
 obtain ⟨i0,hi,hz0,hz1,hz2⟩:=info_parts Tryz.infoRingRow;obtain ⟨b,cap,rfl,hb,hc⟩:=hr;have HC:=Qaa hc;have HUS:=Qaa hus;have HCJ:=Qaa cj;obtain ⟨b2,cap2,rfl,hb2,hc2⟩:=hr2;have HC2:=Qaa hc2;have HUS2:=Qaa hus2;clear hc2 hus2;have HEL:Hid (∀k,elR N a ps Rf zss k=TR (ps.getD k 0) N (Rf k) a (TI (zss.getD k []))):=fun k=>rfl
 have HGD:=Qaa (Qkd N a ps Rf zss);generalize elR N a ps Rf zss=Es at *;clear hc hus cj;go_enter Tryz.func102,Tryz.ntmps102;go_wp2_with (at_make;refine wpList_make_full _ rfl _ _ 76 rfl 0 149 i0 (.agg #[.int .i64 0,.int .i64 0,.int .i64 0,.bool false,.slice none 0 0]) 5 Tryz.underlying76 hi hz0 hz1 .i64 .i64 _ _ m rfl rfl rfl rfl (by rw [hz2];omega) (by unfold maxLen;omega) (Nat.zero_le _) ?_;intro w1 hown hgrow);have HO:Hid (TSc 149 5 m 0 Es w1 w.heap.size m _ (fun _ _=>False)):=TSc.start hown;have HG:Hid (Old w w1):=Below.grown (Below.refl _ _) hgrow (Nat.le_refl _) (fun _ h=>by cases h);clear hown hgrow
 go_loopw [15,8,9] (fun i _ _ W=>∃(k:Nat) (vs:List Value) (Bs:Nat->Nat->Prop),k<=m/\i=.int .i64 k/\Hid (TSc 149 5 m k Es W w.heap.size m vs Bs)/\Hid (∀j b,j<k->Bs j b->w.heap.size<b)/\Hid (Old w W)) (fun i _ _ _=>m - (intOf i).toNat)
 case atStart=>exact ⟨0,_,_,by omega,rfl,HO,(fun j b hj=>by omega),HG⟩
 case round=>
  obtain ⟨k,vs,Bs,hk,rfl,H1,HB,HG1⟩:=hrel;clear HO HG
  by_cases hlt:k<m
  ·have ilt:(k:Int)<(m:Int):=by omega
   obtain ⟨c0,c1,c2,c3,c4⟩:=HC.out k hlt;obtain ⟨xu,nu,cu,eu⟩:=HUS.out k hlt;have cj:=HCJ.out k hlt;rw [eu] at c4 cj;obtain ⟨e0,e1,e2,e3,e4⟩:=HC2.out k hlt;obtain ⟨xv,nv,cv,ev⟩:=HUS2.out k hlt;rw [ev] at e4 cj;have q0:=(HG1.out.cell (p:=⟨b,k*5,none⟩) hb).trans c0;have q1:=(HG1.out.cell (p:=⟨b,k*5+1,none⟩) hb).trans c1;have q2:=(HG1.out.cell (p:=⟨b,k*5+2,none⟩) hb).trans c2;have q3:=(HG1.out.cell (p:=⟨b,k*5+3,none⟩) hb).trans c3;have q4:=(HG1.out.cell (p:=⟨b,k*5+4,none⟩) hb).trans c4;have r0:=(HG1.out.cell (p:=⟨b2,k*5,none⟩) hb2).trans e0;have r1:=(HG1.out.cell (p:=⟨b2,k*5+1,none⟩) hb2).trans e1;have r2:=(HG1.out.cell (p:=⟨b2,k*5+2,none⟩) hb2).trans e2;have r3:=(HG1.out.cell (p:=⟨b2,k*5+3,none⟩) hb2).trans e3;have r4:=(HG1.out.cell (p:=⟨b2,k*5+4,none⟩) hb2).trans e4;have hbr2:=Nat.lt_of_lt_of_le hb2 HG1.out.size;have hsr:=Qa1 H1.out.row;have HEK:=Qaa (HEL.out k);clear c0 c1 c2 c3 c4 eu e0 e1 e2 e3 e4 ev;generalize ps.getD k 0=P at *;generalize Rf k=R at *;generalize zss.getD k []=zs at *;generalize ps2.getD k 0=P2 at *;generalize Rf2 k=R2 at *
   have HAS5:Hid (∀W',Old (wr.alloc (.cells #[.int .i64 P,.int .i64 N,.int .i64 R,.bool a,.slice xu nu cu] 149)) W'->(W'.cell? ⟨wr.heap.size,0,none⟩=some (.int .i64 P)/\W'.cell? ⟨wr.heap.size,1,none⟩=some (.int .i64 N)/\W'.cell? ⟨wr.heap.size,2,none⟩=some (.int .i64 R)/\W'.cell? ⟨wr.heap.size,3,none⟩=some (.bool a)/\W'.cell? ⟨wr.heap.size,4,none⟩=some (.slice xu nu cu)/\W'.cell? ⟨b2,k*5,none⟩=some (.int .i64 P2)/\W'.cell? ⟨b2,k*5+1,none⟩=some (.int .i64 N)/\W'.cell? ⟨b2,k*5+2,none⟩=some (.int .i64 R2)/\W'.cell? ⟨b2,k*5+3,none⟩=some (.bool a2)/\W'.cell? ⟨b2,k*5+4,none⟩=some (.slice xv nv cv))):=fun W' q=>by
    have q':=Old.trans ((Old.refl wr).alloc _) q;exact ⟨(q.cell (p:=⟨wr.heap.size,0,none⟩) (by simp)).trans (Qad _ _ _ _ _ rfl),(q.cell (p:=⟨wr.heap.size,1,none⟩) (by simp)).trans (Qad _ _ _ _ _ rfl),(q.cell (p:=⟨wr.heap.size,2,none⟩) (by simp)).trans (Qad _ _ _ _ _ rfl),(q.cell (p:=⟨wr.heap.size,3,none⟩) (by simp)).trans (Qad _ _ _ _ _ rfl),(q.cell (p:=⟨wr.heap.size,4,none⟩) (by simp)).trans (Qad _ _ _ _ _ rfl),(q'.cell (p:=⟨b2,k*5,none⟩) hbr2).trans r0,(q'.cell (p:=⟨b2,k*5+1,none⟩) hbr2).trans r1,(q'.cell (p:=⟨b2,k*5+2,none⟩) hbr2).trans r2,(q'.cell (p:=⟨b2,k*5+3,none⟩) hbr2).trans r3,(q'.cell (p:=⟨b2,k*5+4,none⟩) hbr2).trans r4⟩
   have HAS6:Hid (∀W' y0 y1 y2 y3 y4,Old (wr.alloc (.cells #[.int .i64 P,.int .i64 N,.int .i64 R,.bool a,.slice xu nu cu] 149)) W'->((fun W'=>W'.cell? ⟨wr.heap.size,0,none⟩=some (.int .i64 P)/\W'.cell? ⟨wr.heap.size,1,none⟩=some (.int .i64 N)/\W'.cell? ⟨wr.heap.size,2,none⟩=some (.int .i64 R)/\W'.cell? ⟨wr.heap.size,3,none⟩=some (.bool a)/\W'.cell? ⟨wr.heap.size,4,none⟩=some (.slice xu nu cu)/\W'.cell? ⟨b2,k*5,none⟩=some (.int .i64 P2)/\W'.cell? ⟨b2,k*5+1,none⟩=some (.int .i64 N)/\W'.cell? ⟨b2,k*5+2,none⟩=some (.int .i64 R2)/\W'.cell? ⟨b2,k*5+3,none⟩=some (.bool a2)/\W'.cell? ⟨b2,k*5+4,none⟩=some (.slice xv nv cv)) (((((W'.setCell ⟨w.heap.size,k*5,none⟩ y0).setCell ⟨w.heap.size,k*5+1,none⟩ y1).setCell ⟨w.heap.size,k*5+2,none⟩ y2).setCell ⟨w.heap.size,k*5+3,none⟩ y3).setCell ⟨w.heap.size,k*5+4,none⟩ y4))):=fun W' y0 y1 y2 y3 y4 q=>by
    obtain ⟨s0,s1,s2,s3,s4,s5,s6,s7,s8,s9⟩:=HAS5.out W' q
    have key:∀(bb j:Nat) (z:Value),bb≠w.heap.size->W'.cell? ⟨bb,j,none⟩=some z->(((((W'.setCell ⟨w.heap.size,k*5,none⟩ y0).setCell ⟨w.heap.size,k*5+1,none⟩ y1).setCell ⟨w.heap.size,k*5+2,none⟩ y2).setCell ⟨w.heap.size,k*5+3,none⟩ y3).setCell ⟨w.heap.size,k*5+4,none⟩ y4).cell? ⟨bb,j,none⟩=some z:=fun bb j z hb hz=>by
     rw [Qb9 _ _ _ _ hb,Qb9 _ _ _ _ hb,Qb9 _ _ _ _ hb,Qb9 _ _ _ _ hb,Qb9 _ _ _ _ hb];exact hz
    exact ⟨key _ _ _ (by omega) s0,key _ _ _ (by omega) s1,key _ _ _ (by omega) s2,key _ _ _ (by omega) s3,key _ _ _ (by omega) s4,key _ _ _ (by omega) s5,key _ _ _ (by omega) s6,key _ _ _ (by omega) s7,key _ _ _ (by omega) s8,key _ _ _ (by omega) s9⟩
   have HGA:Hid (Old w (wr.alloc (.cells #[.int .i64 P,.int .i64 N,.int .i64 R,.bool a,.slice xu nu cu] 149))):=HG1.out.alloc _
   have HX:Hid (∀w6 y n c Bz,Old (wr.alloc (.cells #[.int .i64 P,.int .i64 N,.int .i64 R,.bool a,.slice xu nu cu] 149)) w6->TI zs w6 Bz [.slice y n c]->(∀b,Bz b->wr.heap.size+1<=b)->(∃vs',TSc 149 5 m (k+1) Es (((((w6.setCell ⟨w.heap.size,k*5,none⟩ (.int .i64 P)).setCell ⟨w.heap.size,k*5+1,none⟩ (.int .i64 N)).setCell ⟨w.heap.size,k*5+2,none⟩ (.int .i64 R)).setCell ⟨w.heap.size,k*5+3,none⟩ (.bool a)).setCell ⟨w.heap.size,k*5+4,none⟩ (.slice y n c)) w.heap.size m vs' (fun q=>if q=k then Bz else Bs q))/\(∀j b,j<k+1->(fun q=>if q=k then Bz else Bs q) j b->w.heap.size<b)/\Old w (((((w6.setCell ⟨w.heap.size,k*5,none⟩ (.int .i64 P)).setCell ⟨w.heap.size,k*5+1,none⟩ (.int .i64 N)).setCell ⟨w.heap.size,k*5+2,none⟩ (.int .i64 R)).setCell ⟨w.heap.size,k*5+3,none⟩ (.bool a)).setCell ⟨w.heap.size,k*5+4,none⟩ (.slice y n c))):=fun w6 y n c Bz g6 hTI hlo=>by
    have g7:=Old.trans ((Old.refl wr).alloc _) g6;refine ⟨(H1.out.old HGD.out g7).store5 HGD.out hlt _ _ _ _ _ (B:=Bz) (fun W' hW'=>?_) (fun hb=>by have:=hlo _ hb;omega) (fun j hj b h1 h2=>?_),fun j b hj hb=>?_,?_⟩
    ·rw [HEK.out];exact ⟨_,rfl,(Qcr zs).far hTI (fun b hb=>hW' b (by have:=hlo b hb;omega))⟩
    ·have h4:=H1.out.lt HGD.out j b hj h1;have:=hlo b h2;omega
    ·by_cases e:j=k
     ·simp only [e,if_true] at hb;have:=hlo b hb;omega
     ·simp only [e,if_false] at hb;exact HB.out j b (by omega) hb
    ·exact (((((Old.trans HG1.out g7).own (p:=⟨w.heap.size,k*5,none⟩) (Nat.le_refl _) _).own (p:=⟨w.heap.size,k*5+1,none⟩) (Nat.le_refl _) _).own (p:=⟨w.heap.size,k*5+2,none⟩) (Nat.le_refl _) _).own (p:=⟨w.heap.size,k*5+3,none⟩) (Nat.le_refl _) _).own (p:=⟨w.heap.size,k*5+4,none⟩) (Nat.le_refl _) _
   have HCE:Hid (∀w6,Old (wr.alloc (.cells #[.int .i64 P,.int .i64 N,.int .i64 R,.bool a,.slice xu nu cu] 149)) w6->∀i,i<5->(∃z,w6.cell? ⟨w.heap.size,k*5+i,none⟩=some z)/\w6.frozen? ⟨w.heap.size,k*5+i,none⟩=false):=fun w6 g6 i hi5=>by
    have H2:=H1.out.old HGD.out (Old.trans ((Old.refl wr).alloc _) g6);have h5:=H2.cell k i hlt hi5;have h6:=Qbe H2.row.1 k hlt;exact ⟨⟨_,h5.trans (List.getElem?_eq_getElem (by omega))⟩,H2.frozen _⟩
   clear r0 r1 r2 r3 r4;clear H1 HB HEK;go_wp2_with fail
   go_region_held3 (fun W'=>W'.cell? ⟨wr.heap.size,0,none⟩=some (.int .i64 P)/\W'.cell? ⟨wr.heap.size,1,none⟩=some (.int .i64 N)/\W'.cell? ⟨wr.heap.size,2,none⟩=some (.int .i64 R)/\W'.cell? ⟨wr.heap.size,3,none⟩=some (.bool a)/\W'.cell? ⟨wr.heap.size,4,none⟩=some (.slice xu nu cu)/\W'.cell? ⟨b2,k*5,none⟩=some (.int .i64 P2)/\W'.cell? ⟨b2,k*5+1,none⟩=some (.int .i64 N)/\W'.cell? ⟨b2,k*5+2,none⟩=some (.int .i64 R2)/\W'.cell? ⟨b2,k*5+3,none⟩=some (.bool a2)/\W'.cell? ⟨b2,k*5+4,none⟩=some (.slice xv nv cv)) (first | with_reducible exact HAS5.out _ Q6.out | with_reducible exact HAS5.out _ Q5.out | with_reducible exact HAS5.out _ (Below.drew (Old.refl _)) | with_reducible exact HAS6.out _ _ _ _ _ _ Q6.out | with_reducible exact HAS5.out _ (Old.refl _)) (first
    | (go_at_call 104;refine (cj _ (Below.drew HGA.out)).mono ?_;rintro e w5 ⟨v5,rfl,q5,o5⟩;obtain ⟨x5,c5,rfl⟩:=(Own.row o5).slice;have Q5:=Qaa (Old.trans (Below.drew (Old.refl _)) q5);have O5:=Qaa (by simp at o5;exact o5);clear q5 o5)
    | (go_at_call 120;refine (Qqc _ _ _ _ _ _ _ _ _ _ _).mono ?_;rintro e w6 ⟨rfl,q6⟩;have Q6:=Qaa (Old.trans Q5.out q6);have O6:=Qaa (O5.out.old q6);clear q6;obtain ⟨⟨z0,hz0⟩,hf0⟩:=HCE.out w6 Q6.out 0 (by omega);obtain ⟨⟨z1,hz1⟩,hf1⟩:=HCE.out w6 Q6.out 1 (by omega);obtain ⟨⟨z2,hz2⟩,hf2⟩:=HCE.out w6 Q6.out 2 (by omega);obtain ⟨⟨z3,hz3⟩,hf3⟩:=HCE.out w6 Q6.out 3 (by omega);obtain ⟨⟨z4,hz4⟩,hf4⟩:=HCE.out w6 Q6.out 4 (by omega);rw [Nat.add_zero] at hz0 hf0)
    | fail)
   all_goals
    obtain ⟨Bz,hTI,hlo⟩:=TI.of O6.out;obtain ⟨⟨vs',n1⟩,n2,n3⟩:=HX.out w6 x5 zs.length c5 Bz Q6.out hTI hlo;have N1:=Qaa n1;have N2:Hid (∀j b,j<k+1->(fun q=>if q=k then Bz else Bs q) j b->w.heap.size<b):=n2;have N3:=Qaa n3;clear n1 n2 n3 hTI hlo HX;go_wp2_with fail;exact ⟨⟨k+1,vs',_,by omega,by go_num,N1,N2,N3⟩,by simp [intOf];omega⟩
  ·have d1:decide ((k:Int)<(m:Int))=false:=by simp;omega
   obtain rfl:k=m:=by omega
   have HE:=Qaa (H1.out.done HGD.out (Nat.le_refl _) (fun j b hj hb=>Nat.le_of_lt (HB.out j b hj hb)));go_wp2_with fail;go_ret;exact ⟨rfl,HG1.out,HE.out⟩
theorem Qmp (N:Int) (a:Bool) (ps:List Int) (Rf:Nat→Int) (us:Nat→Value) (v:Value) (ps2:List Int) (Rf2:Nat→Int) (a2:Bool) (us2:Nat→Value) (v2:Value) (m:Nat) (w:World) (hr:RdR w v m N a ps Rf us) (hus:∀k,k<m→∃x n c,us k=.slice x n c) (hr2:RdR w v2 m N a2 ps2 Rf2 us2) (hus2:∀k,k<m→∃x n c,us2 k=.slice x n c) (hm:1≤m∧m≤1000) (zss:List (List Int))
  (cj:∀k,k<m->∀W,Old w W->Calls Tryz.prog 103 #[.agg #[.int .i64 (ps.getD k 0),.int .i64 N,.int .i64 (Rf k),.bool a,us k],.agg #[.int .i64 (ps2.getD k 0),.int .i64 N,.int .i64 (Rf2 k),.bool a2,us2 k]] W fun e w'=>∃v',e=.returned v'/\Old W w'/\Own w' W.heap.size v' (zss.getD k [])) :
  Calls Tryz.prog 102 #[v,v2,.func (.func 103) #[] #[]] w fun e w'=>e=.returned (.slice (some ⟨w.heap.size,0,none⟩) m m)/\Old w w'/\Ows (TS 149 5 m (elR N a ps Rf zss)) w' w.heap.size w'.heap.size [.slice (some ⟨w.heap.size,0,none⟩) m m]:=by
 obtain ⟨i0,hi,hz0,hz1,hz2⟩:=info_parts Tryz.infoRingRow;obtain ⟨b,cap,rfl,hb,hc⟩:=hr;have HC:=Qaa hc;have HUS:=Qaa hus;have HCJ:=Qaa cj;obtain ⟨b2,cap2,rfl,hb2,hc2⟩:=hr2;have HC2:=Qaa hc2;have HUS2:=Qaa hus2;clear hc2 hus2;have HEL:Hid (∀k,elR N a ps Rf zss k=TR (ps.getD k 0) N (Rf k) a (TI (zss.getD k []))):=fun k=>rfl
 have HGD:=Qaa (Qkd N a ps Rf zss);generalize elR N a ps Rf zss=Es at *;clear hc hus cj;go_enter Tryz.func102,Tryz.ntmps102;go_wp2_with (at_make;refine wpList_make_full _ rfl _ _ 76 rfl 0 149 i0 (.agg #[.int .i64 0,.int .i64 0,.int .i64 0,.bool false,.slice none 0 0]) 5 Tryz.underlying76 hi hz0 hz1 .i64 .i64 _ _ m rfl rfl rfl rfl (by rw [hz2];omega) (by unfold maxLen;omega) (Nat.zero_le _) ?_;intro w1 hown hgrow);have HO:Hid (TSc 149 5 m 0 Es w1 w.heap.size m _ (fun _ _=>False)):=TSc.start hown;have HG:Hid (Old w w1):=Below.grown (Below.refl _ _) hgrow (Nat.le_refl _) (fun _ h=>by cases h);clear hown hgrow
 go_loopw [15,8,9] (fun i _ _ W=>∃(k:Nat) (vs:List Value) (Bs:Nat->Nat->Prop),k<=m/\i=.int .i64 k/\Hid (TSc 149 5 m k Es W w.heap.size m vs Bs)/\Hid (∀j b,j<k->Bs j b->w.heap.size<b)/\Hid (Old w W)) (fun i _ _ _=>m - (intOf i).toNat)
 case atStart=>exact ⟨0,_,_,by omega,rfl,HO,(fun j b hj=>by omega),HG⟩
 case round=>
  obtain ⟨k,vs,Bs,hk,rfl,H1,HB,HG1⟩:=hrel;clear HO HG
  by_cases hlt:k<m
  ·have ilt:(k:Int)<(m:Int):=by omega
   obtain ⟨c0,c1,c2,c3,c4⟩:=HC.out k hlt;obtain ⟨xu,nu,cu,eu⟩:=HUS.out k hlt;have cj:=HCJ.out k hlt;rw [eu] at c4 cj;obtain ⟨e0,e1,e2,e3,e4⟩:=HC2.out k hlt;obtain ⟨xv,nv,cv,ev⟩:=HUS2.out k hlt;rw [ev] at e4 cj;have q0:=(HG1.out.cell (p:=⟨b,k*5,none⟩) hb).trans c0;have q1:=(HG1.out.cell (p:=⟨b,k*5+1,none⟩) hb).trans c1;have q2:=(HG1.out.cell (p:=⟨b,k*5+2,none⟩) hb).trans c2;have q3:=(HG1.out.cell (p:=⟨b,k*5+3,none⟩) hb).trans c3;have q4:=(HG1.out.cell (p:=⟨b,k*5+4,none⟩) hb).trans c4;have r0:=(HG1.out.cell (p:=⟨b2,k*5,none⟩) hb2).trans e0;have r1:=(HG1.out.cell (p:=⟨b2,k*5+1,none⟩) hb2).trans e1;have r2:=(HG1.out.cell (p:=⟨b2,k*5+2,none⟩) hb2).trans e2;have r3:=(HG1.out.cell (p:=⟨b2,k*5+3,none⟩) hb2).trans e3;have r4:=(HG1.out.cell (p:=⟨b2,k*5+4,none⟩) hb2).trans e4;have hbr2:=Nat.lt_of_lt_of_le hb2 HG1.out.size;have hsr:=Qa1 H1.out.row;have HEK:=Qaa (HEL.out k);clear c0 c1 c2 c3 c4 eu e0 e1 e2 e3 e4 ev;generalize ps.getD k 0=P at *;generalize Rf k=R at *;generalize zss.getD k []=zs at *;generalize ps2.getD k 0=P2 at *;generalize Rf2 k=R2 at *
   have HAS5:Hid (∀W',Old (wr.alloc (.cells #[.int .i64 P,.int .i64 N,.int .i64 R,.bool a,.slice xu nu cu] 149)) W'->(W'.cell? ⟨wr.heap.size,0,none⟩=some (.int .i64 P)/\W'.cell? ⟨wr.heap.size,1,none⟩=some (.int .i64 N)/\W'.cell? ⟨wr.heap.size,2,none⟩=some (.int .i64 R)/\W'.cell? ⟨wr.heap.size,3,none⟩=some (.bool a)/\W'.cell? ⟨wr.heap.size,4,none⟩=some (.slice xu nu cu)/\W'.cell? ⟨b2,k*5,none⟩=some (.int .i64 P2)/\W'.cell? ⟨b2,k*5+1,none⟩=some (.int .i64 N)/\W'.cell? ⟨b2,k*5+2,none⟩=some (.int .i64 R2)/\W'.cell? ⟨b2,k*5+3,none⟩=some (.bool a2)/\W'.cell? ⟨b2,k*5+4,none⟩=some (.slice xv nv cv))):=fun W' q=>by
    have q':=Old.trans ((Old.refl wr).alloc _) q;exact ⟨(q.cell (p:=⟨wr.heap.size,0,none⟩) (by simp)).trans (Qad _ _ _ _ _ rfl),(q.cell (p:=⟨wr.heap.size,1,none⟩) (by simp)).trans (Qad _ _ _ _ _ rfl),(q.cell (p:=⟨wr.heap.size,2,none⟩) (by simp)).trans (Qad _ _ _ _ _ rfl),(q.cell (p:=⟨wr.heap.size,3,none⟩) (by simp)).trans (Qad _ _ _ _ _ rfl),(q.cell (p:=⟨wr.heap.size,4,none⟩) (by simp)).trans (Qad _ _ _ _ _ rfl),(q'.cell (p:=⟨b2,k*5,none⟩) hbr2).trans r0,(q'.cell (p:=⟨b2,k*5+1,none⟩) hbr2).trans r1,(q'.cell (p:=⟨b2,k*5+2,none⟩) hbr2).trans r2,(q'.cell (p:=⟨b2,k*5+3,none⟩) hbr2).trans r3,(q'.cell (p:=⟨b2,k*5+4,none⟩) hbr2).trans r4⟩
   have HAS6:Hid (∀W' y0 y1 y2 y3 y4,Old (wr.alloc (.cells #[.int .i64 P,.int .i64 N,.int .i64 R,.bool a,.slice xu nu cu] 149)) W'->((fun W'=>W'.cell? ⟨wr.heap.size,0,none⟩=some (.int .i64 P)/\W'.cell? ⟨wr.heap.size,1,none⟩=some (.int .i64 N)/\W'.cell? ⟨wr.heap.size,2,none⟩=some (.int .i64 R)/\W'.cell? ⟨wr.heap.size,3,none⟩=some (.bool a)/\W'.cell? ⟨wr.heap.size,4,none⟩=some (.slice xu nu cu)/\W'.cell? ⟨b2,k*5,none⟩=some (.int .i64 P2)/\W'.cell? ⟨b2,k*5+1,none⟩=some (.int .i64 N)/\W'.cell? ⟨b2,k*5+2,none⟩=some (.int .i64 R2)/\W'.cell? ⟨b2,k*5+3,none⟩=some (.bool a2)/\W'.cell? ⟨b2,k*5+4,none⟩=some (.slice xv nv cv)) (((((W'.setCell ⟨w.heap.size,k*5,none⟩ y0).setCell ⟨w.heap.size,k*5+1,none⟩ y1).setCell ⟨w.heap.size,k*5+2,none⟩ y2).setCell ⟨w.heap.size,k*5+3,none⟩ y3).setCell ⟨w.heap.size,k*5+4,none⟩ y4))):=fun W' y0 y1 y2 y3 y4 q=>by
    obtain ⟨s0,s1,s2,s3,s4,s5,s6,s7,s8,s9⟩:=HAS5.out W' q
    have key:∀(bb j:Nat) (z:Value),bb≠w.heap.size->W'.cell? ⟨bb,j,none⟩=some z->(((((W'.setCell ⟨w.heap.size,k*5,none⟩ y0).setCell ⟨w.heap.size,k*5+1,none⟩ y1).setCell ⟨w.heap.size,k*5+2,none⟩ y2).setCell ⟨w.heap.size,k*5+3,none⟩ y3).setCell ⟨w.heap.size,k*5+4,none⟩ y4).cell? ⟨bb,j,none⟩=some z:=fun bb j z hb hz=>by
     rw [Qb9 _ _ _ _ hb,Qb9 _ _ _ _ hb,Qb9 _ _ _ _ hb,Qb9 _ _ _ _ hb,Qb9 _ _ _ _ hb];exact hz
    exact ⟨key _ _ _ (by omega) s0,key _ _ _ (by omega) s1,key _ _ _ (by omega) s2,key _ _ _ (by omega) s3,key _ _ _ (by omega) s4,key _ _ _ (by omega) s5,key _ _ _ (by omega) s6,key _ _ _ (by omega) s7,key _ _ _ (by omega) s8,key _ _ _ (by omega) s9⟩
   have HGA:Hid (Old w (wr.alloc (.cells #[.int .i64 P,.int .i64 N,.int .i64 R,.bool a,.slice xu nu cu] 149))):=HG1.out.alloc _
   have HX:Hid (∀w6 y n c Bz,Old (wr.alloc (.cells #[.int .i64 P,.int .i64 N,.int .i64 R,.bool a,.slice xu nu cu] 149)) w6->TI zs w6 Bz [.slice y n c]->(∀b,Bz b->wr.heap.size+1<=b)->(∃vs',TSc 149 5 m (k+1) Es (((((w6.setCell ⟨w.heap.size,k*5,none⟩ (.int .i64 P)).setCell ⟨w.heap.size,k*5+1,none⟩ (.int .i64 N)).setCell ⟨w.heap.size,k*5+2,none⟩ (.int .i64 R)).setCell ⟨w.heap.size,k*5+3,none⟩ (.bool a)).setCell ⟨w.heap.size,k*5+4,none⟩ (.slice y n c)) w.heap.size m vs' (fun q=>if q=k then Bz else Bs q))/\(∀j b,j<k+1->(fun q=>if q=k then Bz else Bs q) j b->w.heap.size<b)/\Old w (((((w6.setCell ⟨w.heap.size,k*5,none⟩ (.int .i64 P)).setCell ⟨w.heap.size,k*5+1,none⟩ (.int .i64 N)).setCell ⟨w.heap.size,k*5+2,none⟩ (.int .i64 R)).setCell ⟨w.heap.size,k*5+3,none⟩ (.bool a)).setCell ⟨w.heap.size,k*5+4,none⟩ (.slice y n c))):=fun w6 y n c Bz g6 hTI hlo=>by
    have g7:=Old.trans ((Old.refl wr).alloc _) g6;refine ⟨(H1.out.old HGD.out g7).store5 HGD.out hlt _ _ _ _ _ (B:=Bz) (fun W' hW'=>?_) (fun hb=>by have:=hlo _ hb;omega) (fun j hj b h1 h2=>?_),fun j b hj hb=>?_,?_⟩
    ·rw [HEK.out];exact ⟨_,rfl,(Qcr zs).far hTI (fun b hb=>hW' b (by have:=hlo b hb;omega))⟩
    ·have h4:=H1.out.lt HGD.out j b hj h1;have:=hlo b h2;omega
    ·by_cases e:j=k
     ·simp only [e,if_true] at hb;have:=hlo b hb;omega
     ·simp only [e,if_false] at hb;exact HB.out j b (by omega) hb
    ·exact (((((Old.trans HG1.out g7).own (p:=⟨w.heap.size,k*5,none⟩) (Nat.le_refl _) _).own (p:=⟨w.heap.size,k*5+1,none⟩) (Nat.le_refl _) _).own (p:=⟨w.heap.size,k*5+2,none⟩) (Nat.le_refl _) _).own (p:=⟨w.heap.size,k*5+3,none⟩) (Nat.le_refl _) _).own (p:=⟨w.heap.size,k*5+4,none⟩) (Nat.le_refl _) _
   have HCE:Hid (∀w6,Old (wr.alloc (.cells #[.int .i64 P,.int .i64 N,.int .i64 R,.bool a,.slice xu nu cu] 149)) w6->∀i,i<5->(∃z,w6.cell? ⟨w.heap.size,k*5+i,none⟩=some z)/\w6.frozen? ⟨w.heap.size,k*5+i,none⟩=false):=fun w6 g6 i hi5=>by
    have H2:=H1.out.old HGD.out (Old.trans ((Old.refl wr).alloc _) g6);have h5:=H2.cell k i hlt hi5;have h6:=Qbe H2.row.1 k hlt;exact ⟨⟨_,h5.trans (List.getElem?_eq_getElem (by omega))⟩,H2.frozen _⟩
   clear r0 r1 r2 r3 r4;clear H1 HB HEK;go_wp2_with fail
   go_region_held3 (fun W'=>W'.cell? ⟨wr.heap.size,0,none⟩=some (.int .i64 P)/\W'.cell? ⟨wr.heap.size,1,none⟩=some (.int .i64 N)/\W'.cell? ⟨wr.heap.size,2,none⟩=some (.int .i64 R)/\W'.cell? ⟨wr.heap.size,3,none⟩=some (.bool a)/\W'.cell? ⟨wr.heap.size,4,none⟩=some (.slice xu nu cu)/\W'.cell? ⟨b2,k*5,none⟩=some (.int .i64 P2)/\W'.cell? ⟨b2,k*5+1,none⟩=some (.int .i64 N)/\W'.cell? ⟨b2,k*5+2,none⟩=some (.int .i64 R2)/\W'.cell? ⟨b2,k*5+3,none⟩=some (.bool a2)/\W'.cell? ⟨b2,k*5+4,none⟩=some (.slice xv nv cv)) (first | with_reducible exact HAS5.out _ Q6.out | with_reducible exact HAS5.out _ Q5.out | with_reducible exact HAS5.out _ (Below.drew (Old.refl _)) | with_reducible exact HAS6.out _ _ _ _ _ _ Q6.out | with_reducible exact HAS5.out _ (Old.refl _)) (first
    | (go_at_call 103;refine (cj _ (Below.drew HGA.out)).mono ?_;rintro e w5 ⟨v5,rfl,q5,o5⟩;obtain ⟨x5,c5,rfl⟩:=(Own.row o5).slice;have Q5:=Qaa (Old.trans (Below.drew (Old.refl _)) q5);have O5:=Qaa (by simp at o5;exact o5);clear q5 o5)
    | (go_at_call 120;refine (Qqc _ _ _ _ _ _ _ _ _ _ _).mono ?_;rintro e w6 ⟨rfl,q6⟩;have Q6:=Qaa (Old.trans Q5.out q6);have O6:=Qaa (O5.out.old q6);clear q6;obtain ⟨⟨z0,hz0⟩,hf0⟩:=HCE.out w6 Q6.out 0 (by omega);obtain ⟨⟨z1,hz1⟩,hf1⟩:=HCE.out w6 Q6.out 1 (by omega);obtain ⟨⟨z2,hz2⟩,hf2⟩:=HCE.out w6 Q6.out 2 (by omega);obtain ⟨⟨z3,hz3⟩,hf3⟩:=HCE.out w6 Q6.out 3 (by omega);obtain ⟨⟨z4,hz4⟩,hf4⟩:=HCE.out w6 Q6.out 4 (by omega);rw [Nat.add_zero] at hz0 hf0)
    | fail)
   all_goals
    obtain ⟨Bz,hTI,hlo⟩:=TI.of O6.out;obtain ⟨⟨vs',n1⟩,n2,n3⟩:=HX.out w6 x5 zs.length c5 Bz Q6.out hTI hlo;have N1:=Qaa n1;have N2:Hid (∀j b,j<k+1->(fun q=>if q=k then Bz else Bs q) j b->w.heap.size<b):=n2;have N3:=Qaa n3;clear n1 n2 n3 hTI hlo HX;go_wp2_with fail;exact ⟨⟨k+1,vs',_,by omega,by go_num,N1,N2,N3⟩,by simp [intOf];omega⟩
  ·have d1:decide ((k:Int)<(m:Int))=false:=by simp;omega
   obtain rfl:k=m:=by omega
   have HE:=Qaa (H1.out.done HGD.out (Nat.le_refl _) (fun j b hj hb=>Nat.le_of_lt (HB.out j b hj hb)));go_wp2_with fail;go_ret;exact ⟨rfl,HG1.out,HE.out⟩
end Go.Proofs.YthcidnnkakppcaaGreatDoor
