/- Proved: what its theorems say. -/
import Derived.Test.YtjjohooeehjjcaaGreatDoorMu14
set_option linter.unusedVariables false
set_option linter.unusedSimpArgs false
set_option maxHeartbeats 4000000
set_option maxRecDepth 100000
namespace Go.Proofs.YtjjohooeehjjcaaGreatDoor
open Go.ChangeShapes Go.WideShapes Go.ChangeAt Go.RowKit
open M1
theorem Tryz.infoRingRow:(Tryz.prog.info? 135).map (fun i=>(i.zero,i.size,i.bytes))=some (some (.agg #[.int .i64 0,.int .i64 0,.int .i64 0,.bool false,.slice none 0 0]),5,56):=by kernel_rfl
def RRs (W:World) (g:Nat) (N:Int) (n:Bool) (ps:List Int) (Rf:Nat->Int) (us:Nat->Option Addr) (k:Nat):Prop:=
 ∃vs:List Value,vs.length=5*ps.length/\W.ownsRow g 135 5 (.slice (some ⟨g,0,none⟩) ps.length ps.length) ps.length vs
  /\∀i,i<k->vs[i*5]? = some (.int .i64 (ps.getD i 0))/\vs[i*5+1]? = some (.int .i64 N)/\vs[i*5+2]? = some (.int .i64 (Rf i))/\vs[i*5+3]? = some (.bool n)/\vs[i*5+4]? = some (.slice (us i) N.toNat N.toNat)
theorem RRs.lt {W:World} {g:Nat} {N:Int} {n:Bool} {ps:List Int} {Rf:Nat->Int} {us:Nat->Option Addr} {k:Nat} (h:RRs W g N n ps Rf us k):g<W.heap.size:=by
 obtain ⟨vs,_,ho,_⟩:=h;exact (ho.lt g rfl).2
theorem RRs.old {W W':World} {g:Nat} {N:Int} {n:Bool} {ps:List Int} {Rf:Nat->Int} {us:Nat->Option Addr} {k:Nat} (h:RRs W g N n ps Rf us k) (q:Old W W'):RRs W' g N n ps Rf us k:=by
 obtain ⟨vs,hl,ho,hy⟩:=h;refine ⟨vs,hl,⟨ho.1,?_⟩,hy⟩;rcases ho.2 with hn | ⟨p,cap,cur,e,hb,hgg,rest⟩
 ·exact .inl hn
 ·refine .inr ⟨p,cap,cur,e,hb,?_,rest⟩;rw [q.block p (Array.getElem?_eq_some_iff.1 hgg).1];exact hgg
theorem RRs.cell {W:World} {g:Nat} {N:Int} {n:Bool} {ps:List Int} {Rf:Nat->Int} {us:Nat->Option Addr} {k:Nat} (h:RRs W g N n ps Rf us k) (j:Nat) (hj:j<5*ps.length):∃y:Value,W.cell? ⟨g,j,none⟩=some y:=by
 obtain ⟨vs,hl,ho,hy⟩:=h;refine ⟨vs[j]'(by omega),?_⟩;rw [World.ownsRow.cellAt ho j (by omega)];exact List.getElem?_eq_getElem _
theorem RRs.free {W:World} {g:Nat} {N:Int} {n:Bool} {ps:List Int} {Rf:Nat->Int} {us:Nat->Option Addr} {k:Nat} (h:RRs W g N n ps Rf us k) (j:Nat):W.frozen? ⟨g,j,none⟩=false:=by
 obtain ⟨vs,hl,ho,hy⟩:=h;exact World.ownsRow.frozenAt ho j
theorem RRs.at {W:World} {g:Nat} {N:Int} {n:Bool} {ps:List Int} {Rf:Nat→Int} {us:Nat→Option Addr} {k:Nat} (h:RRs W g N n ps Rf us k) (i:Nat) (hi:i<k) (hx:i<ps.length) :
  W.cell? ⟨g,i*5,none⟩=some (.int .i64 (ps.getD i 0))/\W.cell? ⟨g,i*5+1,none⟩=some (.int .i64 N)/\W.cell? ⟨g,i*5+2,none⟩=some (.int .i64 (Rf i))/\W.cell? ⟨g,i*5+3,none⟩=some (.bool n)/\W.cell? ⟨g,i*5+4,none⟩=some (.slice (us i) N.toNat N.toNat):=by
 obtain ⟨vs,hl,ho,hy⟩:=h;obtain ⟨h0,h1,h2,h3,h4⟩:=hy i hi;refine ⟨?_,?_,?_,?_,?_⟩
 ·rw [World.ownsRow.cellAt ho _ (by omega)];exact h0
 ·rw [World.ownsRow.cellAt ho _ (by omega)];exact h1
 ·rw [World.ownsRow.cellAt ho _ (by omega)];exact h2
 ·rw [World.ownsRow.cellAt ho _ (by omega)];exact h3
 ·rw [World.ownsRow.cellAt ho _ (by omega)];exact h4
theorem RRs.put {W:World} {g:Nat} {N:Int} {n:Bool} {ps:List Int} {Rf:Nat→Int} {us:Nat→Option Addr} {k:Nat} (h:RRs W g N n ps Rf us k) (hk:k<ps.length) :
  RRs (((((W.setCell ⟨g,k*5,none⟩ (.int .i64 (ps.getD k 0))).setCell ⟨g,k*5+1,none⟩ (.int .i64 N)).setCell ⟨g,k*5+2,none⟩ (.int .i64 (Rf k))).setCell ⟨g,k*5+3,none⟩ (.bool n)).setCell ⟨g,k*5+4,none⟩ (.slice (us k) N.toNat N.toNat)) g N n ps Rf us (k+1):=by
 obtain ⟨vs,hl,ho,hy⟩:=h;have h1:=(World.ownsRow.stored ho (k*5) (.int .i64 (ps.getD k 0))).1;have h2:=(World.ownsRow.stored h1 (k*5+1) (.int .i64 N)).1;have h3:=(World.ownsRow.stored h2 (k*5+2) (.int .i64 (Rf k))).1;have h4:=(World.ownsRow.stored h3 (k*5+3) (.bool n)).1;have h5:=(World.ownsRow.stored h4 (k*5+4) (.slice (us k) N.toNat N.toNat)).1;refine ⟨_,by simp [hl],h5,fun i hi=>?_⟩;rcases Nat.lt_or_ge i k with hlt | hge
 ·obtain ⟨q0,q1,q2,q3,q4⟩:=hy i hlt;refine ⟨?_,?_,?_,?_,?_⟩
  all_goals (rw [List.getElem?_set_ne (by omega),List.getElem?_set_ne (by omega),List.getElem?_set_ne (by omega),List.getElem?_set_ne (by omega),List.getElem?_set_ne (by omega)];assumption)
 ·obtain rfl:i=k:=by omega
  refine ⟨?_,?_,?_,?_,?_⟩
  ·rw [List.getElem?_set_ne (by omega),List.getElem?_set_ne (by omega),List.getElem?_set_ne (by omega),List.getElem?_set_ne (by omega),List.getElem?_set_self (by omega)]
  ·rw [List.getElem?_set_ne (by omega),List.getElem?_set_ne (by omega),List.getElem?_set_ne (by omega),List.getElem?_set_self (by simp;omega)]
  ·rw [List.getElem?_set_ne (by omega),List.getElem?_set_ne (by omega),List.getElem?_set_self (by simp;omega)]
  ·rw [List.getElem?_set_ne (by omega),List.getElem?_set_self (by simp;omega)]
  ·rw [List.getElem?_set_self (by simp;omega)]
def Qgd (w:World) (v:Value) (ps:List Int) (xss:List (List Int)) (us:Nat->Option Addr) (cs:Nat->Nat):Prop:=
 ∃b cap,v=.slice (some ⟨b,0,none⟩) xss.length cap/\b<w.heap.size/\∀j,j<xss.length->w.cell? ⟨b,j,none⟩=some (.slice (us j) (xss.getD j []).length (cs j))/\(xss.getD j []).length<=cs j/\Row w (.slice (us j) (xss.getD j []).length (cs j)) (xss.getD j [])
theorem OwS.at {xss:List (List Int)} {W:World} {lo hi:Nat} {v:Value} (ps:List Int) (h:OwS xss W lo hi v) (h0:0<xss.length):∃us cs,Qgd W v ps xss us cs:=by
 obtain ⟨hh,h | ⟨p,cap,vs,rfl,hcap,hlo,hhi,ho,hvl,hj,hd⟩⟩:=h
 ·obtain ⟨rfl,rfl⟩:=h;simp at h0
 ·have key:∀j,∃ac:Option Addr×Nat,j<xss.length→W.cell? ⟨p,j,none⟩=some (.slice ac.1 (xss.getD j []).length ac.2)∧(xss.getD j []).length≤ac.2∧Row W (.slice ac.1 (xss.getD j []).length ac.2) (xss.getD j []):=fun j=>by
   by_cases hjl:j<xss.length
   ·obtain ⟨a,c,e,hc,o,hb⟩:=hj j hjl;refine ⟨(a,c),fun _=>⟨?_,hc,o.row⟩⟩;rw [World.ownsRow.cellAt ho j (by omega)];exact e
   ·exact ⟨(none,0),fun h=>absurd h hjl⟩
  obtain ⟨f,hf⟩:=Classical.skolem.1 key;exact ⟨fun j=>(f j).1,fun j=>(f j).2,p,cap,rfl,by omega,hf⟩
theorem Qgd.old {w w':World} {v:Value} {ps:List Int} {xss:List (List Int)} {us:Nat->Option Addr} {cs:Nat->Nat} (h:Qgd w v ps xss us cs) (g:Old w w'):Qgd w' v ps xss us cs:=by
 obtain ⟨b,cap,e,hb,hc⟩:=h;exact ⟨b,cap,e,Nat.lt_of_lt_of_le hb g.size,fun j hj=>⟨(g.cell (p:=⟨b,j,none⟩) hb).trans (hc j hj).1,(hc j hj).2.1,(hc j hj).2.2.old g⟩⟩
theorem Rgs.same {W W':World} {g:Nat} {N:Int} {xs:List Int} {Rf:Nat->Int} {k:Nat} (h:Rgs W g N xs Rf k) (e:W'.heap[g]? = W.heap[g]?):Rgs W' g N xs Rf k:=by
 obtain ⟨ys,hl,ho,hy⟩:=h;refine ⟨ys,hl,⟨ho.1,?_⟩,hy⟩;rcases ho.2 with hn | ⟨p,cap,cur,e',hb,hgg,rest⟩
 ·exact .inl hn
 ·refine .inr ⟨p,cap,cur,e',hb,?_,rest⟩
  have:p=g:=by
   simp only [Value.slice.injEq,Option.some.injEq,Addr.mk.injEq] at e';exact e'.1.1.symm
  subst this;rw [e];exact hgg
theorem Qlg (W:World) (a:Addr):W.drew.cell? a=W.cell? a:=rfl
theorem Rgs.drewn {W:World} {g:Nat} {N:Int} {xs:List Int} {Rf:Nat->Int} {k:Nat} (h:Rgs W g N xs Rf k):Rgs W.drew g N xs Rf k:=h
theorem RRs.drewn {W:World} {g:Nat} {N:Int} {n:Bool} {ps:List Int} {Rf:Nat->Int} {us:Nat->Option Addr} {k:Nat} (h:RRs W g N n ps Rf us k):RRs W.drew g N n ps Rf us k:=h
theorem Qua (z:Array Value) (n k:Nat):(madeCells z (n*k)).toList.length=k*n:=by
 simp [size_madeCells,Nat.mul_comm]
theorem Qrm {p N:Int} {xs:List Int} (h:Qct p N xs=true):(xs.length:Int)=N:=by
 unfold Qct at h;rw [Bool.and_eq_true] at h;exact of_decide_eq_true h.1
theorem Qm0 (N:Int) (n:Bool) (ps:List Int) (xss:List (List Int)) (Rf:Nat→Int) (us:Nat→Option Addr) (cs:Nat→Nat) (g:Nat) (a1:Option Addr) (cap1:Nat) (w:World) (hrg:Rgs w g N ps Rf ps.length) (hsp:spB N ps=true) (hlx:xss.length≤1048576) (hr:∀r∈xss,r.length≤1048576) (hu:0<xss.length→Qgd w (.slice a1 xss.length cap1) ps xss us cs) :
  Calls Tryz.prog 85 #[.slice (some ⟨g,0,none⟩) ps.length ps.length,.agg #[.bool n,.slice a1 xss.length cap1]] w fun e w'=>Old w w'/\((rwB N ps xss=false/\e=.returned (.tuple #[.slice none 0 0,.bool false]))∨(rwB N ps xss=true/\∃g',w.heap.size<=g'/\e=.returned (.tuple #[.slice (some ⟨g',0,none⟩) ps.length ps.length,.bool true])/\RRs w' g' N n ps Rf us ps.length)):=by
 have HU:=Qaa hu;have HR:=Qaa hr;have HSP:=Qaa hsp;have hgl:=hrg.lt;have HN:Hid (Old w (w.alloc (.cells #[.bool n,.slice a1 xss.length cap1] 133))):=(Old.refl w).alloc _;have HRG0:Hid (Rgs (w.alloc (.cells #[.bool n,.slice a1 xss.length cap1] 133)) g N ps Rf ps.length):=hrg.old ((Old.refl w).alloc _);have hlen:=(Qc8 (Qdw hsp).2.1).1;clear hu hr hsp hrg
 by_cases hn:xss.length=ps.length
 ·have dn:((xss.length:Int) != (ps.length:Int))=false:=by simp;omega
  obtain ⟨hz,hbb,hring⟩:=Qdw HSP.out;have HPM:=Qaa ((Qc8 hbb).2);obtain ⟨Nn,rfl⟩:∃Nn:Nat,N=(Nn:Int):=⟨N.toNat,by omega⟩
  have hNn:2<=Nn/\Nn<=16:=by omega
  obtain ⟨bu,capu,eu,hbu,hcu⟩:=HU.out (by omega);simp only [Value.slice.injEq,true_and] at eu;obtain ⟨rfl,rfl⟩:=eu;have HCU:=Qaa hcu;have HB0:Hid (rwA Nn ps xss 0=rwB Nn ps xss):=by show _ = _;unfold rwB;rw [decide_eq_true hn];rfl
  have HNN:=Qaa hn;obtain ⟨i0,hi,hz0,hz1,hz2⟩:=info_parts Tryz.infoRingRow;generalize rwB (Nn:Int) ps xss=GB at *;clear hz hbb hring hcu hn;go_enter Tryz.func85,Tryz.ntmps85;go_wp2_with (at_make;refine wpList_make_full _ rfl _ _ 65 rfl (w.heap.size+1) 135 i0 (.agg #[.int .i64 0,.int .i64 0,.int .i64 0,.bool false,.slice none 0 0]) 5 Tryz.underlying65 hi hz0 hz1 .i64 .i64 _ _ ps.length rfl rfl rfl rfl (by rw [hz2];omega) (by unfold maxLen;omega) (by simp) ?_;intro w2 hown hgrow);simp only [World.size_alloc] at hown hgrow;have HRR:Hid (RRs w2 (w.heap.size+1) Nn n ps Rf us 0):=⟨_,Qua _ _ _,(by simpa using hown),fun i hi=>by omega⟩;have g2:Old (w.alloc (.cells #[.bool n,.slice (some ⟨bu,0,none⟩) xss.length cap1] 133)) w2:=Qbd hgrow;have HG2:=Qaa (Old.trans HN.out g2);have HRG2:=Qaa (HRG0.out.old g2);have HS2:Hid (w2.cell? ⟨w.heap.size,0,none⟩=some (.bool n)/\w2.cell? ⟨w.heap.size,1,none⟩=some (.slice (some ⟨bu,0,none⟩) xss.length cap1)):=⟨(g2.cell (p:=⟨w.heap.size,0,none⟩) (by simp)).trans (Qaj _ _ _ _ _ rfl),(g2.cell (p:=⟨w.heap.size,1,none⟩) (by simp)).trans (Qaj _ _ _ _ _ rfl)⟩;clear hown hgrow g2 HRG0
  go_loopw [21] (fun i W=>∃k:Nat,k<=ps.length/\i=.int .i64 k/\Hid (rwA Nn ps xss k=GB)/\Hid (RRs W (w.heap.size+1) Nn n ps Rf us k)/\Hid (Old w W)/\Hid (Rgs W g Nn ps Rf ps.length)/\Hid (W.cell? ⟨w.heap.size,0,none⟩=some (.bool n)/\W.cell? ⟨w.heap.size,1,none⟩=some (.slice (some ⟨bu,0,none⟩) xss.length cap1))) (fun i _=>ps.length - (intOf i).toNat)
  case atStart=>exact ⟨0,by omega,rfl,HB0,HRR,HG2,HRG2,HS2⟩
  case round=>
   obtain ⟨k,hk,rfl,H1,HRK,HG,HRG,HS⟩:=hrel;clear HB0 HRR HG2 HRG2 HS2;have hsr:=HRK.out.lt
   by_cases hlt:k<ps.length
   ·have hnn:=HNN.out;have hkx:k<xss.length:=by omega
    obtain ⟨r0,r1,r2⟩:=HRG.out.at k hlt hlt;obtain ⟨c0,hcs,rw0⟩:=HCU.out k hkx;have hp:=Qq8 (HPM.out k hlt);have hm:xss.getD k []∈xss:=by simp [List.getD,hkx]
    have hrl:=HR.out _ hm;have HY:=Qaa (fun h=>by have:=H1.out;rw [Qrf h] at this;exact this);have HNo:=Qaa (fun h=>by have:=H1.out;rw [Qvm hlt h] at this;exact this.symm);have HPUT:Hid (∀W,RRs W (w.heap.size+1) Nn n ps Rf us k->RRs (((((W.setCell ⟨w.heap.size+1,k*5,none⟩ (.int .i64 (ps.getD k 0))).setCell ⟨w.heap.size+1,k*5+1,none⟩ (.int .i64 Nn)).setCell ⟨w.heap.size+1,k*5+2,none⟩ (.int .i64 (Rf k))).setCell ⟨w.heap.size+1,k*5+3,none⟩ (.bool n)).setCell ⟨w.heap.size+1,k*5+4,none⟩ (.slice (us k) Nn Nn)) (w.heap.size+1) Nn n ps Rf us (k+1)):=fun W h=>h.put hlt
    obtain ⟨r,er⟩:∃r,Rf k=r:=⟨_,rfl⟩
    obtain ⟨ua,eua⟩:∃ua,us k=ua:=⟨_,rfl⟩
    obtain ⟨cc,ecc⟩:∃cc,cs k=cc:=⟨_,rfl⟩
    rw [er] at r2 HPUT;rw [eua] at c0 rw0 HPUT;rw [ecc] at c0 rw0 hcs;generalize xss.getD k []=xs at *;generalize ps.getD k 0=p at *;have cp:=fun W (h:Row W (.slice ua xs.length cc) xs)=>Qq9 p Nn r xs _ W h (by omega) hp
    have gb:Old wr (wr.alloc (.cells #[.int .i64 p,.int .i64 Nn,.int .i64 r] 114)):=(Old.refl wr).alloc _;have HGB:=Qaa (Old.trans HG.out gb);have x1:=(gb.cell (p:=⟨w.heap.size,1,none⟩) (by show w.heap.size<wr.heap.size;omega)).trans HS.out.2;have x2:=(HGB.out.cell (p:=⟨bu,k,none⟩) hbu).trans c0;have RW:=Qaa (rw0.old HGB.out);have HXL:Hid (Qct p Nn xs=true->(xs.length:Int)=Nn):=Qrm;clear H1 c0 rw0 er eua ecc hm gb hnn;obtain ⟨q,hq⟩:∃q,Qct p Nn xs=q:=⟨_,rfl⟩
    rw [hq] at cp HY HNo HXL;clear hq
    cases q
    ·have HB:=Qaa (HNo.out rfl);clear HY HNo HXL;go_wp2_with fail;refine (cp _ RW.out).mono ?_
     rintro e w3 ⟨rfl,g3⟩;have HG3:=Qaa (Old.trans HGB.out g3);clear g3;go_wp2_with fail;exact bodyPost_ret (v:=.tuple #[.slice none 0 0,.bool false]) (by simp [results,Tryz.results85,go_sem]) rfl ⟨HG3.out,Or.inl ⟨HB.out,rfl⟩⟩
    ·have H3:=Qaa (HY.out rfl);have hxl:xs.length=Nn:=by have:=HXL.out rfl;omega
     rw [hxl] at hcs;have HXN:=Qaa hxl;clear HY HNo HXL hxl;go_wp2_with fail;refine (cp _ RW.out).mono ?_
     rintro e w3 ⟨rfl,g3⟩;have g4:=Old.trans ((Old.refl wr).alloc _) g3;have HG3:=Qaa (Old.trans HGB.out g3);have HRK3:=Qaa (HRK.out.old g4);have HRG3:=Qaa (HRG.out.old g4);have HS3:Hid (w3.cell? ⟨w.heap.size,0,none⟩=some (.bool n)/\w3.cell? ⟨w.heap.size,1,none⟩=some (.slice (some ⟨bu,0,none⟩) xss.length cap1)):=⟨(g4.cell (p:=⟨w.heap.size,0,none⟩) (by show w.heap.size<wr.heap.size;omega)).trans HS.out.1,(g4.cell (p:=⟨w.heap.size,1,none⟩) (by show w.heap.size<wr.heap.size;omega)).trans HS.out.2⟩;have z0:w3.cell? ⟨wr.heap.size,0,none⟩=some (.int .i64 p):=(g3.cell (p:=⟨wr.heap.size,0,none⟩) (by simp)).trans (Qaj _ _ _ _ _ rfl)
     have z1:w3.cell? ⟨wr.heap.size,1,none⟩=some (.int .i64 Nn):=(g3.cell (p:=⟨wr.heap.size,1,none⟩) (by simp)).trans (Qaj _ _ _ _ _ rfl)
     have z2:w3.cell? ⟨wr.heap.size,2,none⟩=some (.int .i64 r):=(g3.cell (p:=⟨wr.heap.size,2,none⟩) (by simp)).trans (Qaj _ _ _ _ _ rfl)
     have s0:=HS3.out.1;obtain ⟨y0,q0⟩:=HRK3.out.cell (k*5) (by omega);obtain ⟨y1,q1⟩:=HRK3.out.cell (k*5+1) (by omega);obtain ⟨y2,q2⟩:=HRK3.out.cell (k*5+2) (by omega);obtain ⟨y3,q3⟩:=HRK3.out.cell (k*5+3) (by omega);obtain ⟨y4,q4⟩:=HRK3.out.cell (k*5+4) (by omega);have f0:=HRK3.out.free (k*5);have f1:=HRK3.out.free (k*5+1);have f2:=HRK3.out.free (k*5+2);have f3:=HRK3.out.free (k*5+3);have f4:=HRK3.out.free (k*5+4);clear g3 g4 cp x1 x2 r0 r1 r2 RW;rw [HXN.out];clear HXN
     go_upto_region 10 with fail
     have hne:w.heap.size≠w.heap.size+1:=by omega
     have hng:g≠w.heap.size+1:=by omega
     have A1:=Qaa (RRs.drewn (HPUT.out _ HRK3.out));have A2:Hid (Old w (((((w3.setCell ⟨w.heap.size+1,k*5,none⟩ (.int .i64 p)).setCell ⟨w.heap.size+1,k*5+1,none⟩ (.int .i64 Nn)).setCell ⟨w.heap.size+1,k*5+2,none⟩ (.int .i64 r)).setCell ⟨w.heap.size+1,k*5+3,none⟩ (.bool n)).setCell ⟨w.heap.size+1,k*5+4,none⟩ (.slice ua Nn Nn)).drew):=Below.drew (((((HG3.out.own (p:=⟨w.heap.size+1,k*5,none⟩) (by show w.heap.size<=w.heap.size+1;omega) _).own (p:=⟨w.heap.size+1,k*5+1,none⟩) (by show w.heap.size<=w.heap.size+1;omega) _).own (p:=⟨w.heap.size+1,k*5+2,none⟩) (by show w.heap.size<=w.heap.size+1;omega) _).own (p:=⟨w.heap.size+1,k*5+3,none⟩) (by show w.heap.size<=w.heap.size+1;omega) _).own (p:=⟨w.heap.size+1,k*5+4,none⟩) (by show w.heap.size<=w.heap.size+1;omega) _);have A3:Hid (Rgs (((((w3.setCell ⟨w.heap.size+1,k*5,none⟩ (.int .i64 p)).setCell ⟨w.heap.size+1,k*5+1,none⟩ (.int .i64 Nn)).setCell ⟨w.heap.size+1,k*5+2,none⟩ (.int .i64 r)).setCell ⟨w.heap.size+1,k*5+3,none⟩ (.bool n)).setCell ⟨w.heap.size+1,k*5+4,none⟩ (.slice ua Nn Nn)).drew g Nn ps Rf ps.length):=Rgs.drewn (HRG3.out.same ((heap_setCell_other _ _ _ _ hng).trans ((heap_setCell_other _ _ _ _ hng).trans ((heap_setCell_other _ _ _ _ hng).trans ((heap_setCell_other _ _ _ _ hng).trans ((heap_setCell_other _ _ _ _ hng).trans (rfl)))))));have A4:Hid ((((((w3.setCell ⟨w.heap.size+1,k*5,none⟩ (.int .i64 p)).setCell ⟨w.heap.size+1,k*5+1,none⟩ (.int .i64 Nn)).setCell ⟨w.heap.size+1,k*5+2,none⟩ (.int .i64 r)).setCell ⟨w.heap.size+1,k*5+3,none⟩ (.bool n)).setCell ⟨w.heap.size+1,k*5+4,none⟩ (.slice ua Nn Nn)).drew.cell? ⟨w.heap.size,0,none⟩=some (.bool n)/\(((((w3.setCell ⟨w.heap.size+1,k*5,none⟩ (.int .i64 p)).setCell ⟨w.heap.size+1,k*5+1,none⟩ (.int .i64 Nn)).setCell ⟨w.heap.size+1,k*5+2,none⟩ (.int .i64 r)).setCell ⟨w.heap.size+1,k*5+3,none⟩ (.bool n)).setCell ⟨w.heap.size+1,k*5+4,none⟩ (.slice ua Nn Nn)).drew.cell? ⟨w.heap.size,1,none⟩=some (.slice (some ⟨bu,0,none⟩) xss.length cap1)):=⟨(Qlg _ _).trans ((Qdi _ _ _ _ hne).trans ((Qdi _ _ _ _ hne).trans ((Qdi _ _ _ _ hne).trans ((Qdi _ _ _ _ hne).trans ((Qdi _ _ _ _ hne).trans (HS3.out.1)))))),(Qlg _ _).trans ((Qdi _ _ _ _ hne).trans ((Qdi _ _ _ _ hne).trans ((Qdi _ _ _ _ hne).trans ((Qdi _ _ _ _ hne).trans ((Qdi _ _ _ _ hne).trans (HS3.out.2))))))⟩;clear hne hng
     go_region
     go_wp2_with fail;exact ⟨⟨k+1,by omega,by go_num,H3,A1,A2,A3,A4⟩,by simp [intOf];omega⟩
   ·have d1:decide ((k:Int)<(ps.length:Int))=false:=by simp;omega
    obtain rfl:k=ps.length:=by omega
    have HB:Hid (GB=true):=by have:=H1.out;rw [Qre (Nat.le_refl _)] at this;exact this.symm
    clear H1;go_wp2_with fail;exact bodyPost_ret (v:=.tuple #[.slice (some ⟨w.heap.size+1,0,none⟩) ps.length ps.length,.bool true]) (by simp [results,Tryz.results85,go_sem]) rfl ⟨HG.out,Or.inr ⟨HB.out,w.heap.size+1,by omega,rfl,HRK.out⟩⟩
 ·have dn:((xss.length:Int) != (ps.length:Int))=true:=by simp;omega
  have HB:Hid (rwB N ps xss=false):=by show _ = _;unfold rwB;rw [decide_eq_false hn];rfl
  clear hn;go_enter Tryz.func85,Tryz.ntmps85;go_wp2_with fail;exact bodyPost_ret (v:=.tuple #[.slice none 0 0,.bool false]) (by simp [results,Tryz.results85,go_sem]) rfl ⟨HN.out,Or.inl ⟨HB.out,rfl⟩⟩
theorem Qhh (n:Bool) (l1:Nat) (a1:Option Addr) (cap1:Nat) (w:World) :
  Calls Tryz.prog 85 #[.slice none 0 0,.agg #[.bool n,.slice a1 l1 cap1]] w fun e w'=>Old w w'/\((decide (l1=0)=false/\e=.returned (.tuple #[.slice none 0 0,.bool false]))∨(decide (l1=0)=true/\∃g,e=.returned (.tuple #[.slice g 0 0,.bool true]))):=by
 have HN:Hid (Old w (w.alloc (.cells #[.bool n,.slice a1 l1 cap1] 133))):=(Old.refl w).alloc _
 by_cases h:l1=0
 ·have HD:=Qaa (decide_eq_true h);generalize decide (l1=0)=bb at *;subst h;obtain ⟨i0,hi,hz0,hz1,hz2⟩:=info_parts Tryz.infoRingRow;go_enter Tryz.func85,Tryz.ntmps85;go_wp2_with (at_make;refine wpList_make_full _ rfl _ _ 65 rfl (w.heap.size+1) 135 i0 (.agg #[.int .i64 0,.int .i64 0,.int .i64 0,.bool false,.slice none 0 0]) 5 Tryz.underlying65 hi hz0 hz1 .i64 .i64 _ _ 0 rfl rfl rfl rfl (by rw [hz2];omega) (by unfold maxLen;omega) (by simp) ?_;intro w2 hown hgrow);have HG2:=Qaa (Old.trans HN.out (Qbd hgrow));clear hown hgrow
  go_loopw [21] (fun i W=>i=.int .i64 0/\W=w2) (fun _ _=>0)
  case atStart=>exact ⟨rfl,rfl⟩
  case round=>
   obtain ⟨rfl,hW⟩:=hrel;obtain rfl:w2=wr:=hW.symm;go_wp2_with fail;refine bodyPost_ret (v:=.tuple #[.slice (some ⟨w.heap.size+1,0,none⟩) 0 0,.bool true]) (by simp [results,Tryz.results85,go_sem]) rfl ?_
   exact ⟨HG2.out,Or.inr ⟨HD.out,_,rfl⟩⟩
 ·have dn:((l1:Int) != 0)=true:=by simp;omega
  have HD:=Qaa (decide_eq_false h);generalize decide (l1=0)=bb at *;clear h;go_enter Tryz.func85,Tryz.ntmps85;go_wp2_with fail;refine bodyPost_ret (v:=.tuple #[.slice none 0 0,.bool false]) (by simp [results,Tryz.results85,go_sem]) rfl ?_
  exact ⟨HN.out,Or.inl ⟨HD.out,rfl⟩⟩
end Go.Proofs.YtjjohooeehjjcaaGreatDoor
namespace Go.Proofs.YtjjohooeehjjcaaGreatDoor
open Go.ChangeShapes Go.WideShapes Go.ChangeAt Go.RowKit
def TR (P N R:Int) (a:Bool) (E:Qbf):Qbf:=fun W B cs=>∃x,cs=[.int .i64 P,.int .i64 N,.int .i64 R,.bool a,x]/\E W B [x]
theorem Qw4 (P N R:Int) (a:Bool) {E:Qbf} (g:GoodT E):GoodT (TR P N R a E):=by
 constructor
 ·rintro W W' B cs ⟨x,e,h⟩ hf;exact ⟨x,e,g.far h hf⟩
 ·rintro W B cs ⟨x,e,h⟩ b hb;exact g.lt h b hb
abbrev elR (N:Int) (a:Bool) (ps:List Int) (Rf:Nat->Int) (zss:List (List Int)):Nat->Qbf:=fun k=>TR (ps.getD k 0) N (Rf k) a (TI (zss.getD k []))
theorem Qcq (N:Int) (a:Bool) (ps:List Int) (Rf:Nat->Int) (zss:List (List Int)) (k:Nat):GoodT (elR N a ps Rf zss k):=Qw4 _ _ _ _ (Qb9 _)
def RdR (w:World) (v:Value) (m:Nat) (N:Int) (a:Bool) (ps:List Int) (Rf:Nat->Int) (us:Nat->Value):Prop:=
 ∃b cap,v=.slice (some ⟨b,0,none⟩) m cap/\b<w.heap.size/\∀k,k<m->w.cell? ⟨b,k*5,none⟩=some (.int .i64 (ps.getD k 0))/\w.cell? ⟨b,k*5+1,none⟩=some (.int .i64 N)/\w.cell? ⟨b,k*5+2,none⟩=some (.int .i64 (Rf k))/\w.cell? ⟨b,k*5+3,none⟩=some (.bool a)/\w.cell? ⟨b,k*5+4,none⟩=some (us k)
theorem RdR.old {w w':World} {v:Value} {m:Nat} {N:Int} {a:Bool} {ps:List Int} {Rf:Nat->Int} {us:Nat->Value} (h:RdR w v m N a ps Rf us) (g:Old w w'):RdR w' v m N a ps Rf us:=by
 obtain ⟨b,cap,e,hb,hc⟩:=h;refine ⟨b,cap,e,Nat.lt_of_lt_of_le hb g.size,fun k hk=>?_⟩;obtain ⟨h0,h1,h2,h3,h4⟩:=hc k hk;exact ⟨(g.cell (p:=⟨b,k*5,none⟩) hb).trans h0,(g.cell (p:=⟨b,k*5+1,none⟩) hb).trans h1,(g.cell (p:=⟨b,k*5+2,none⟩) hb).trans h2,(g.cell (p:=⟨b,k*5+3,none⟩) hb).trans h3,(g.cell (p:=⟨b,k*5+4,none⟩) hb).trans h4⟩
theorem RRs.rd {W:World} {g:Nat} {N:Int} {n:Bool} {ps:List Int} {Rf:Nat->Int} {us:Nat->Option Addr} (h:RRs W g N n ps Rf us ps.length):RdR W (.slice (some ⟨g,0,none⟩) ps.length ps.length) ps.length N n ps Rf (fun k=>.slice (us k) N.toNat N.toNat):=
 ⟨g,ps.length,rfl,h.lt,fun k hk=>h.at k hk hk⟩
theorem Qpd {m k:Nat} {vs:List Value} (h:vs.length=m*5) (hk:k<m) (a b c d e:Value):Qa6 5 (((((vs.set (k*5+0) a).set (k*5+1) b).set (k*5+2) c).set (k*5+3) d).set (k*5+4) e) k=[a,b,c,d,e]:=by
 have hl:=Qbi (n:=5) h k hk;rw [Qbn 5 _ k 4 k e (by omega),if_pos rfl,Qbn 5 _ k 3 k d (by omega),if_pos rfl,Qbn 5 _ k 2 k c (by omega),if_pos rfl,Qbn 5 _ k 1 k b (by omega),if_pos rfl,Qbn 5 _ k 0 k a (by omega),if_pos rfl]
 match Qa6 5 vs k,hl with
 | [_,_,_,_,_],_=>rfl
theorem TSc.store5 {T:TypeId} {m k:Nat} {Es:Nat→Qbf} {W:World} {p cap:Nat} {vs:List Value} {Bs:Nat→Nat→Prop} {B:Nat→Prop} (g:∀j,GoodT (Es j)) (h:TSc T 5 m k Es W p cap vs Bs) (hk:k<m) (a b c d e:Value)
  (he:∀W':World,(∀b,b≠p->W'.heap[b]? = W.heap[b]?)->Es k W' B [a,b,c,d,e]) (hp:¬B p) (hd:∀j,j<k->∀b,Bs j b->B b->False) :
  ∃vs',TSc T 5 m (k+1) Es (((((W.setCell ⟨p,k*5,none⟩ a).setCell ⟨p,k*5+1,none⟩ b).setCell ⟨p,k*5+2,none⟩ c).setCell ⟨p,k*5+3,none⟩ d).setCell ⟨p,k*5+4,none⟩ e) p cap vs' (fun q=>if q=k then B else Bs q):=by
 have h1:=h.fill g 0 (by omega) a;have h2:=h1.fill g 1 (by omega) b;have h3:=h2.fill g 2 (by omega) c;have h4:=h3.fill g 3 (by omega) d;have h5:=h4.fill g 4 (by omega) e;refine ⟨_,h5.more (B:=B) ?_ hp hd⟩;rw [Qpd h.row.1 hk a b c d e];refine he _ (fun b hb=>?_);rw [heap_setCell_other _ _ _ _ hb,heap_setCell_other _ _ _ _ hb,heap_setCell_other _ _ _ _ hb,heap_setCell_other _ _ _ _ hb];exact heap_setCell_other _ _ _ _ hb
theorem cells_one {m k:Nat} {vs:List Value} (h:vs.length=m*1) (hk:k<m) (a:Value):Qa6 1 (vs.set (k*1+0) a) k=[a]:=by
 have hl:=Qbi (n:=1) h k hk;rw [Qbn 1 _ k 0 k a (by omega),if_pos rfl]
 match Qa6 1 vs k,hl with
 | [_],_=>rfl
theorem TSc.store1 {T:TypeId} {m k:Nat} {Es:Nat→Qbf} {W:World} {p cap:Nat} {vs:List Value} {Bs:Nat→Nat→Prop} {B:Nat→Prop} (g:∀j,GoodT (Es j)) (h:TSc T 1 m k Es W p cap vs Bs) (hk:k<m) (a:Value)
  (he:∀W':World,(∀b,b≠p->W'.heap[b]? = W.heap[b]?)->Es k W' B [a]) (hp:¬B p) (hd:∀j,j<k->∀b,Bs j b->B b->False) :
  ∃vs',TSc T 1 m (k+1) Es (W.setCell ⟨p,k,none⟩ a) p cap vs' (fun q=>if q=k then B else Bs q):=by
 have h1:=h.fill g 0 (by omega) a;rw [Nat.mul_one,Nat.add_zero] at h1;refine ⟨_,h1.more (B:=B) ?_ hp hd⟩;have:=cells_one h.row.1 hk a;rw [Nat.mul_one,Nat.add_zero] at this;rw [this];exact he _ (fun b hb=>heap_setCell_other _ _ _ _ hb)
theorem Qm1 (N:Int) (a:Bool) (ps:List Int) (Rf:Nat→Int) (zss:List (List Int)) (m:Nat) (v:Value) (w:World) (hm:1≤m∧m≤1000) (hz:zss.length=m) (B:Nat→Prop) (h:TS 135 5 m (elR N a ps Rf zss) w B [v]) :
  Calls Tryz.prog 57 #[v] w fun e w'=>e=.returned (.slice (some ⟨w.heap.size,0,none⟩) m m)/\Old w w'/\∃B',TSS zss w' B' [.slice (some ⟨w.heap.size,0,none⟩) m m]/\∀b,B' b->B b∨b=w.heap.size:=by
 obtain ⟨j0,ji,jz0,jz1,jz2⟩:=info_parts Tryz.infoInts;have hlt0:=(Qc6 135 5 m (Qcq N a ps Rf zss)).lt h;rcases h with ⟨e,_⟩ | ⟨p,cap,vs0,Bs,e,hc,hb⟩
 ·omega
 simp at e;subst e
 have HC:Hid (∀k,k<m->∃x y c,(w.cell? ⟨p,k*5,none⟩=some (.int .i64 (ps.getD k 0))/\w.cell? ⟨p,k*5+1,none⟩=some (.int .i64 N)/\w.cell? ⟨p,k*5+2,none⟩=some (.int .i64 (Rf k))/\w.cell? ⟨p,k*5+3,none⟩=some (.bool a)/\w.cell? ⟨p,k*5+4,none⟩=some x)/\x=.slice y (zss.getD k []).length c/\TI (zss.getD k []) w (Bs k) [x]):=fun k hk=>by
  obtain ⟨x,e,hE⟩:=hc.el k hk;obtain ⟨y,c,ex⟩:=hE.slice;have c0:=hc.cell k 0 hk (by omega);have c1:=hc.cell k 1 hk (by omega);have c2:=hc.cell k 2 hk (by omega);have c3:=hc.cell k 3 hk (by omega);have c4:=hc.cell k 4 hk (by omega);rw [e] at c0 c1 c2 c3 c4;exact ⟨x,y,c,⟨c0,c1,c2,c3,c4⟩,ex,hE⟩
 have hpl:=Qaw hc.row;have HBL:Hid (∀k b,k<m->Bs k b->B b/\b<w.heap.size):=fun k b hk h=>⟨(hb b).2 (.inr ⟨k,hk,h⟩),hlt0 b ((hb b).2 (.inr ⟨k,hk,h⟩))⟩
 have HDI:=Qaa hc.dis
 have HFI:Hid (∀w' vs Ds,TSc 22 1 m m (fun k=>TI (zss.getD k [])) w' w.heap.size m vs Ds->TSS zss w' (fun b=>b=w.heap.size∨∃j,j<m/\Ds j b) [.slice (some ⟨w.heap.size,0,none⟩) m m]):=fun w' vs Ds h=>by
  subst hz;exact .inr ⟨w.heap.size,zss.length,vs,Ds,rfl,h,fun b=>Iff.rfl⟩
 clear hc hb hlt0 hz;go_enter Tryz.func57,Tryz.ntmps57;go_wp2_with (at_make;refine wpList_make_full _ rfl _ _ 49 rfl 0 22 j0 (.slice none 0 0) 1 Tryz.underlying49 ji jz0 jz1 .i64 .i64 _ _ m rfl rfl rfl rfl (by rw [jz2];omega) (by unfold maxLen;omega) (Nat.zero_le _) ?_;intro w1 hown hgrow);have HO:Hid (TSc 22 1 m 0 (fun k=>TI (zss.getD k [])) w1 w.heap.size m _ (fun _ _=>False)):=TSc.start hown;have HG:Hid (Old w w1):=Below.grown (Below.refl _ _) hgrow (Nat.le_refl _) (fun _ h=>by cases h);clear hown hgrow
 go_loopw [11,4,5] (fun i _ _ W=>∃(k:Nat) (vs:List Value) (Ds:Nat->Nat->Prop),k<=m/\i=.int .i64 k/\Hid (TSc 22 1 m k (fun k=>TI (zss.getD k [])) W w.heap.size m vs Ds)/\Hid (∀j,j<k->Ds j=Bs j)/\Hid (Old w W)) (fun i _ _ _=>m - (intOf i).toNat)
 case atStart=>exact ⟨0,_,_,by omega,rfl,HO,(fun j hj=>by omega),HG⟩
 case round=>
  obtain ⟨k,vs,Ds,hk,rfl,H1,HD,HG1⟩:=hrel;clear HO HG
  by_cases hlt:k<m
  ·obtain ⟨x,y,c,⟨c0,c1,c2,c3,c4⟩,rfl,hE⟩:=HC.out k hlt;have q0:=(HG1.out.cell (p:=⟨p,k*5,none⟩) hpl).trans c0;have q1:=(HG1.out.cell (p:=⟨p,k*5+1,none⟩) hpl).trans c1;have q2:=(HG1.out.cell (p:=⟨p,k*5+2,none⟩) hpl).trans c2;have q3:=(HG1.out.cell (p:=⟨p,k*5+3,none⟩) hpl).trans c3;have q4:=(HG1.out.cell (p:=⟨p,k*5+4,none⟩) hpl).trans c4;have hsr:=Qaw H1.out.row;have hE1:=(Qb9 _).far hE (fun b hb=>HG1.out.block b (HBL.out k b hlt hb).2)
   have hst:=
    H1.out.store1 (fun j=>Qb9 _) hlt _ (B:=Bs k) (fun W' hW'=>(Qb9 _).far hE1 (fun b hb=>hW' b (by have:=(HBL.out k b hlt hb).2;omega))) (fun hb=>by have:=(HBL.out k _ hlt hb).2;omega) (fun j hj b h1 h2=>by
     rw [HD.out j hj] at h1;exact HDI.out j k (by omega) hlt (by omega) b h1 h2)
   obtain ⟨vs',hst⟩:=hst
   have HST:=Qaa (fun o=>hst.old (fun j=>by
    by_cases e:j=k
    ·exact Qb9 _
    ·exact Qb9 _) ((Old.refl _).alloc o))
   have HND:Hid (∀j,j<k+1->(fun q=>if q=k then Bs k else Ds q) j=Bs j):=fun j hj=>by
    by_cases e:j=k
    ·simp only [e,if_true]
    ·simp only [e,if_false];exact HD.out j (by omega)
   obtain ⟨z,hz⟩:∃z,wr.cell? ⟨w.heap.size,k,none⟩=some z:=by
    have h5:=H1.out.cell k 0 hlt (by omega);rw [Nat.mul_one,Nat.add_zero] at h5;have h6:=Qbi H1.out.row.1 k hlt;exact ⟨_,h5.trans (List.getElem?_eq_getElem (by omega))⟩
   have hfz:wr.frozen? ⟨w.heap.size,k,none⟩=false:=H1.out.frozen _
   clear c0 c1 c2 c3 c4 hE hE1 hst H1 HD;generalize ps.getD k 0=P at *;generalize Rf k=R at *;obtain ⟨n,hn⟩:∃n,(zss.getD k []).length=n:=⟨_,rfl⟩
   rw [hn] at HST q4;clear hn;have HN:Hid (TSc 22 1 m (k+1) (fun k=>TI (zss.getD k [])) ((wr.setCell ⟨w.heap.size,k,none⟩ (.slice y n c)).alloc (.cells #[.int .i64 P,.int .i64 N,.int .i64 R,.bool a,.slice y n c] 135)) w.heap.size m vs' (fun q=>if q=k then Bs k else Ds q)):=HST.out _;have HG2:Hid (Old w ((wr.setCell ⟨w.heap.size,k,none⟩ (.slice y n c)).alloc (.cells #[.int .i64 P,.int .i64 N,.int .i64 R,.bool a,.slice y n c] 135))):=(HG1.out.own (p:=⟨w.heap.size,k,none⟩) (Nat.le_refl _) _).alloc _;clear HST;go_wp2_with fail;exact ⟨⟨k+1,vs',_,by omega,by go_num,HN,HND,HG2⟩,by simp [intOf];omega⟩
  ·have d1:decide ((k:Int)<(m:Int))=false:=by simp;omega
   obtain rfl:k=m:=by omega
   have HE:Hid (∃B',TSS zss wr B' [.slice (some ⟨w.heap.size,0,none⟩) k k]/\∀b,B' b->B b∨b=w.heap.size):=⟨_,HFI.out wr vs Ds H1.out,fun b hb=>by
    rcases hb with hb | ⟨j,hj,hb⟩
    ·exact .inr hb
    ·rw [HD.out j hj] at hb;exact .inl (HBL.out j b hj hb).1⟩
   go_wp2_with fail;go_ret;exact ⟨rfl,HG1.out,HE.out⟩
abbrev elP (N:Int) (a:Bool) (ps:List Int) (Rf:Nat->Int) (zsss:List (List (List Int))):Nat->Qbf:=fun j=>TS 135 5 ps.length (elR N a ps Rf (zsss.getD j []))
theorem Qub (N:Int) (a:Bool) (ps:List Int) (Rf:Nat->Int) (zsss:List (List (List Int))) (j:Nat):GoodT (elP N a ps Rf zsss j):=Qc6 _ _ _ (Qcq N a ps Rf _)
theorem Qlh (N:Int) (a:Bool) (ps:List Int) (Rf:Nat→Int) (zsss:List (List (List Int))) (lo:Nat) (v:Value) (w:World) (hps:1≤ps.length∧ps.length≤1000) (hn:1≤zsss.length∧zsss.length≤1000) (hz:∀j,j<zsss.length→(zsss.getD j []).length=ps.length) (h:Ows (TS 65 1 zsss.length (elP N a ps Rf zsss)) w lo w.heap.size [v]) (hlo:lo≤w.heap.size) :
  Calls Tryz.prog 28 #[v] w fun e w'=>∃r0,e=.returned (.agg r0)/\Old w w'/\XC zsss w' lo w'.heap.size r0:=by
 obtain ⟨j0,ji,jz0,jz1,jz2⟩:=info_parts Tryz.infoIntSS;obtain ⟨_,B,hT,hB⟩:=h;rcases hT with ⟨e,_⟩ | ⟨p,cap,vs0,Bs,e,hc,hb⟩
 ·omega
 simp at e;subst e;have hvl:vs0.length=zsss.length:=by have:=hc.row.1;omega
 have HC:Hid (∀k,k<zsss.length->∃x y c,w.cell? ⟨p,k,none⟩=some x/\x=.slice y ps.length c/\elP N a ps Rf zsss k w (Bs k) [x]):=fun k hk=>by
  have h1:=hc.el k hk;rw [Qdk (by omega)] at h1;obtain ⟨y,c,e⟩:=TS.slice h1;refine ⟨_,y,c,?_,e,h1⟩;rw [World.ownsRow.cellAt hc.row k (by omega)];exact List.getElem?_eq_getElem _
 have hpl:=Qaw hc.row;have HBL:=Qaa (fun k b hk h=>hB b ((hb b).2 (.inr ⟨k,hk,h⟩)));have HDI:=Qaa hc.dis;have HZ:=Qaa hz;have HGD:Hid (∀j,GoodT (TSS (zsss.getD j []))):=fun j=>Qb6 _
 have BR:Hid (Bk (w.alloc (.cells #[.slice none 0 0] 30)) w.heap.size #[.slice none 0 0] 30):=Bk.new' w _ _ rfl;have HA:Hid (Old w (w.alloc (.cells #[.slice none 0 0] 30))):=(Old.refl w).alloc _;clear hc hb hB hz hvl;go_enter Tryz.func28,Tryz.ntmps28;go_wp2_with (at_make;refine wpList_make_full _ rfl _ _ 25 rfl 0 49 j0 (.slice none 0 0) 1 Tryz.underlying25 ji jz0 jz1 .i64 .i64 _ _ zsss.length rfl rfl rfl rfl (by rw [jz2];omega) (by unfold maxLen;omega) (Nat.zero_le _) ?_;intro w1 hown hgrow);have hs0:(w.alloc (.cells #[.slice none 0 0] 30)).heap.size=w.heap.size+1:=by simp
 rw [hs0] at hown;have HO:Hid (TSc 49 1 zsss.length 0 (fun j=>TSS (zsss.getD j [])) w1 (w.heap.size+1) zsss.length _ (fun _ _=>False)):=TSc.start hown;have HG:=Qaa (Old.trans HA.out (Qbd hgrow));have BR1:=Qaa (BR.out.old (Qbd hgrow));clear hown hgrow BR hs0
 go_loopw [11,4,5] (fun i _ _ W=>∃(k:Nat) (vs:List Value) (Ds:Nat->Nat->Prop),k<=zsss.length/\i=.int .i64 k/\Hid (TSc 49 1 zsss.length k (fun j=>TSS (zsss.getD j [])) W (w.heap.size+1) zsss.length vs Ds)/\Hid (∀j b,j<k->Ds j b->Bs j b∨(w.heap.size+1<b/\b<W.heap.size))/\Hid (Old w W)/\Hid (Bk W w.heap.size #[.slice none 0 0] 30)) (fun i _ _ _=>zsss.length - (intOf i).toNat)
 case atStart=>exact ⟨0,_,_,by omega,rfl,HO,(fun j b hj=>by omega),HG,BR1⟩
 case round=>
  obtain ⟨k,vs,Ds,hk,rfl,H1,HD,HG1,BK⟩:=hrel;clear HO HG BR1;have hsr:=Qaw H1.out.row
  by_cases hlt:k<zsss.length
  ·obtain ⟨x,y,c,c0,rfl,hE⟩:=HC.out k hlt;have q0:=(HG1.out.cell (p:=⟨p,k,none⟩) hpl).trans c0;have hE1:=(Qub N a ps Rf zsss k).far hE (fun b hb=>HG1.out.block b (HBL.out k b hlt hb).2);have cn:=Qm1 N a ps Rf (zsss.getD k []) ps.length _ wr hps (HZ.out k hlt) (Bs k) hE1;have HN:=Qaa cn;clear c0 hE hE1 cn;go_wp2_with fail;refine HN.out.mono ?_
   rintro e w2 ⟨rfl,g2,B',hT2,hB2⟩;have H2:=H1.out.old HGD.out g2
   obtain ⟨y0,hy0⟩:∃y,w2.cell? ⟨w.heap.size+1,k,none⟩=some y:=by
    have h5:=H2.cell k 0 hlt (by omega);rw [Nat.mul_one,Nat.add_zero] at h5;have h6:=Qbi H2.row.1 k hlt;exact ⟨_,h5.trans (List.getElem?_eq_getElem (by omega))⟩
   have f0:w2.frozen? ⟨w.heap.size+1,k,none⟩=false:=H2.frozen _
   have hst:=H2.storeT HGD.out hlt (.slice (some ⟨wr.heap.size,0,none⟩) ps.length ps.length) (B:=B') (fun W' hW'=>(Qb6 (zsss.getD k [])).far hT2 (fun b hb=>hW' b (by
    rcases hB2 b hb with h | h
    ·have:=(HBL.out k b hlt h).2;omega
    ·omega))) (fun hb=>by
    rcases hB2 _ hb with h | h
    ·have:=(HBL.out k _ hlt h).2;omega
    ·omega) (fun j hj b h1 h2=>by
    rcases HD.out j b hj h1 with h3 | h3
    ·rcases hB2 b h2 with h | h
     ·exact HDI.out j k (by omega) hlt (by omega) b h3 h
     ·have:=(HBL.out j b (by omega) h3).2;omega
    ·rcases hB2 b h2 with h | h
     ·have:=(HBL.out k b hlt h).2;omega
     ·omega)
   obtain ⟨vs',H3⟩:=hst
   have hw2:wr.heap.size<w2.heap.size:=by
    rcases hT2 with ⟨h0,_⟩ | ⟨p2,cap2,vs2,Bs2,e2,hc2,_⟩
    ·have:=HZ.out k hlt;omega
    ·simp at e2;rw [e2.1];exact Qaw hc2.row
   have HNN:=Qaa H3
   have HND:Hid (∀j b,j<k+1->(fun q=>if q=k then B' else Ds q) j b->Bs j b∨(w.heap.size+1<b/\b<(w2.setCell ⟨w.heap.size+1,k,none⟩ (.slice (some ⟨wr.heap.size,0,none⟩) ps.length ps.length)).heap.size)):=fun j b hj hb=>by
    have hsz:(w2.setCell ⟨w.heap.size+1,k,none⟩ (.slice (some ⟨wr.heap.size,0,none⟩) ps.length ps.length)).heap.size=w2.heap.size:=by simp
    rw [hsz]
    by_cases e:j=k
    ·simp only [e,if_true] at hb;rcases hB2 b hb with h | h
     ·rw [e];exact .inl h
     ·exact .inr ⟨by omega,by omega⟩
    ·simp only [e,if_false] at hb;rcases HD.out j b (by omega) hb with h | h
     ·exact .inl h
     ·exact .inr ⟨h.1,by omega⟩
   have HG2:Hid (Old w (w2.setCell ⟨w.heap.size+1,k,none⟩ (.slice (some ⟨wr.heap.size,0,none⟩) ps.length ps.length))):=(Old.trans HG1.out g2).own (p:=⟨w.heap.size+1,k,none⟩) (by simp) _;have BK2:Hid (Bk (w2.setCell ⟨w.heap.size+1,k,none⟩ (.slice (some ⟨wr.heap.size,0,none⟩) ps.length ps.length)) w.heap.size #[.slice none 0 0] 30):=(heap_setCell_other _ _ _ _ (by show w.heap.size≠w.heap.size+1;omega)).trans (BK.out.old g2);clear H1 H2 H3 HD g2 hT2 hB2 HN hw2 BK HG1;go_wp2_with fail;exact ⟨⟨k+1,vs',_,by omega,by go_num,HNN,HND,HG2,BK2⟩,by simp [intOf];omega⟩
  ·have d1:decide ((k:Int)<(zsss.length:Int))=false:=by simp;omega
   obtain rfl:k=zsss.length:=by omega
   have HE2:Hid (∀y,Ows (TTT zsss) (wr.setCell ⟨w.heap.size,0,none⟩ y) lo (wr.setCell ⟨w.heap.size,0,none⟩ y).heap.size [.slice (some ⟨w.heap.size+1,0,none⟩) zsss.length zsss.length]):=fun y=>by
    have h1:=H1.out
    have h2:TSc 49 1 zsss.length zsss.length (fun j=>TSS (zsss.getD j [])) (wr.setCell ⟨w.heap.size,0,none⟩ y) (w.heap.size+1) zsss.length vs Ds:=h1.far HGD.out (heap_setCell_other _ _ _ _ (by show w.heap.size+1≠w.heap.size;omega)) (fun j b hj hb=>heap_setCell_other _ _ _ _ (by
     show b≠w.heap.size
     rcases HD.out j b hj hb with h | h
     ·have:=(HBL.out j b hj h).2;omega
     ·omega))
    exact h2.done HGD.out (by omega) (fun j b hj hb=>by
     rcases HD.out j b hj hb with h | h
     ·exact (HBL.out j b hj h).1
     ·omega)
   have y0:=BK.out.c (i:=0) rfl;have f0:wr.frozen? ⟨w.heap.size,0,none⟩=false:=frozen_of_row _ _ _ _ _ BK.out
   clear H1 HD;go_wp2_with fail
   have q0:(wr.setCell ⟨w.heap.size,0,none⟩ (.slice (some ⟨w.heap.size+1,0,none⟩) zsss.length zsss.length)).cell? ⟨w.heap.size,0,none⟩=some (.slice (some ⟨w.heap.size+1,0,none⟩) zsss.length zsss.length):=by
    have hb5:Bk (wr.setCell ⟨w.heap.size,0,none⟩ (.slice (some ⟨w.heap.size+1,0,none⟩) zsss.length zsss.length)) w.heap.size #[.slice (some ⟨w.heap.size+1,0,none⟩) zsss.length zsss.length] 30:=(heap_setCell_same wr w.heap.size 0 _ _ _ BK.out).trans rfl;exact hb5.c (i:=0) rfl
   refine bodyPost_ret (v:=.agg #[.slice (some ⟨w.heap.size+1,0,none⟩) zsss.length zsss.length]) (by simp [results,Tryz.results28,go_sem,q0]) rfl ⟨_,rfl,?_,_,_,rfl,HE2.out _⟩;exact HG1.out.own (p:=⟨w.heap.size,0,none⟩) (by simp) _
end Go.Proofs.YtjjohooeehjjcaaGreatDoor
