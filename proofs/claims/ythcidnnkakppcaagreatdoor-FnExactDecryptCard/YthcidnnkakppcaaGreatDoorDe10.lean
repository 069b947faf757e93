/- Proved: what its theorems say. -/
import Derived.Test.YthcidnnkakppcaaGreatDoorDe02
import Derived.Test.YthcidnnkakppcaaGreatDoorDe08
import Derived.Deep.RegionHeld3
set_option linter.unusedVariables false
set_option linter.unusedSimpArgs false
set_option maxHeartbeats 4000000
set_option maxRecDepth 100000
namespace Go.Proofs.YthcidnnkakppcaaGreatDoor
open Go.ChangeShapes Go.WideShapes Go.ChangeAt Go.RowKit
def Qdq (w:World) (v:Value) (xss:List (List Int)):Prop:=
 (∃a cap,v=.slice a 0 cap/\xss=[])∨∃b o cap,∃us:Nat->Value,v=.slice (some ⟨b,o,none⟩) xss.length cap/\b<w.heap.size/\0<xss.length/\∀j,j<xss.length->w.cell? ⟨b,o+j,none⟩=some (us j)/\Row w (us j) (xss.getD j [])
theorem Qdq.old {w w':World} {v:Value} {xss:List (List Int)} (h:Qdq w v xss) (g:Old w w'):Qdq w' v xss:=by
 rcases h with h1 | ⟨b,o,cap,us,e,hb,h0,hc⟩
 ·exact Or.inl h1
 ·exact Or.inr ⟨b,o,cap,us,e,Nat.lt_of_lt_of_le hb g.size,h0,fun j hj=>⟨(g.cell (p:=⟨b,o+j,none⟩) hb).trans (hc j hj).1,(hc j hj).2.old g⟩⟩
theorem Qdq.slice {w:World} {v:Value} {xss:List (List Int)} (h:Qdq w v xss):∃a cap,v=.slice a xss.length cap:=by
 rcases h with ⟨a,cap,e,e2⟩ | ⟨b,o,cap,us,e,_⟩
 ·exact ⟨a,cap,by rw [e,e2];rfl⟩
 ·exact ⟨_,cap,e⟩
def Qdn:Int->List (List Int)->Int
 | left,[]=>left
 | left,r :: rs=>if Qdk left r.length<0 then -1 else Qdn (Qdk left r.length) rs
def Qbk (left:Int) (xss:List (List Int)):Int:=if left<(xss.length:Int) then -1 else Qdn (left - xss.length) xss
theorem Qp6:∀(xss:List (List Int)) (left:Int),0<=left->¬Qdn left xss<0->0<=Qdn left xss/\Qdn left xss<=left/\∀r∈xss,(r.length:Int)<=left
 | [],left,h0,h=>⟨h0,Int.le_refl _,by simp⟩
 | r :: rs,left,h0,h=>by
   unfold Qdn at h ⊢
   by_cases hr:Qdk left r.length<0
   ·rw [if_pos hr] at h;omega
   ·rw [if_neg hr] at h ⊢;obtain ⟨q1,q2,q3⟩:=Qfk hr h0;obtain ⟨p1,p2,p3⟩:=Qp6 rs _ q3 h;refine ⟨p1,by omega,fun x hx=>?_⟩;rcases List.mem_cons.1 hx with rfl | hx
    ·exact q1
    ·have:=p3 x hx;omega
theorem Qmb {xss:List (List Int)} {left:Int} (h0:0<=left) (h:¬Qbk left xss<0):0<=Qbk left xss/\Qbk left xss<=left/\(xss.length:Int)<=left/\∀r∈xss,(r.length:Int)<=left:=by
 unfold Qbk at h ⊢
 by_cases hr:left<(xss.length:Int)
 ·rw [if_pos hr] at h;omega
 ·rw [if_neg hr] at h ⊢;obtain ⟨p1,p2,p3⟩:=Qp6 xss _ (by omega) h;exact ⟨p1,by omega,by omega,fun r hr=>by have:=p3 r hr;omega⟩
theorem Qtc (xss:List (List Int)) (k:Nat) (h:k<xss.length):xss.drop k=xss.getD k [] :: xss.drop (k+1):=by
 rw [List.drop_eq_getElem_cons h];simp [List.getD,h]
theorem Qja {a b:Int} (h:a=b):Ending.returned (.int .i64 a)=.returned (.int .i64 b):=by rw [h]
theorem Qob (xss:List (List Int)) (v:Value) (left:Int) (w:World) (hv:Qdq w v xss) (hl:xss.length≤9223372036854775807) (hr:∀r∈xss,r.length≤9223372036854775807) (h0:0≤left) (h1:left≤1048576) :
  Calls Tryz.prog 41 #[v,.int .i64 left] w fun e w'=>e=.returned (.int .i64 (Qbk left xss))/\Old w w':=by
 obtain ⟨a0,cap0,ev⟩:=hv.slice;subst ev
 by_cases hb:left<(xss.length:Int)
 ·have d:decide (left - (xss.length:Int)<0)=true:=by simp;omega
  have HB:Hid (Qbk left xss = -1):=by show _ = _;unfold Qbk;rw [if_pos hb]
  clear hv hr hb;go_enter Tryz.func41,Tryz.ntmps41;go_wp2_with fail;go_ret;exact ⟨Qja HB.out.symm,Old.refl _⟩
 ·have d:decide (left - (xss.length:Int)<0)=false:=by simp;omega
  have HB:Hid (Qdn (left - xss.length) (xss.drop 0)=Qbk left xss):=by show _ = _;unfold Qbk;rw [if_neg hb];rfl
  have hl2:0<=left - (xss.length:Int)/\left - (xss.length:Int)<=1048576:=by omega
  generalize Qbk left xss=R at *;have HR:=Qaa hr;have HV:=Qaa hv;clear hv hr;go_enter Tryz.func41,Tryz.ntmps41;go_wp2_with fail
  go_loopw [5,1] (fun i l W=>∃(k:Nat) (z:Int),k<=xss.length/\i=.int .i64 k/\l=.int .i64 z/\0<=z/\z<=1048576/\Hid (Qdn z (xss.drop k)=R)/\W=w) (fun i _ _=>xss.length - (intOf i).toNat)
  case atStart=>exact ⟨0,left - xss.length,by omega,rfl,rfl,by omega,by omega,HB,rfl⟩
  case round=>
   obtain ⟨k,z,hk,rfl,rfl,z0,z1,H1,hW⟩:=hrel;obtain rfl:w=wr:=hW.symm;clear HB d hW
   by_cases hlt:k<xss.length
   ·have d1:decide ((k:Int)<(xss.length:Int))=true:=by simp;omega
    rcases HV.out with ⟨a,cap,e,e2⟩ | ⟨b,o,cap,us,e,hb2,h3,hc⟩
    ·subst e2;simp at hlt
    simp only [Value.slice.injEq,true_and] at e;obtain ⟨rfl,rfl⟩:=e;obtain ⟨c1,r1⟩:=hc k hlt;obtain ⟨a1,cap1,e1⟩:=r1.slice;rw [e1] at c1;have hm:xss.getD k []∈xss:=by simp [List.getD,hlt]
    have hrl:=HR.out _ hm
    have H2:Hid ((if Qdk z (xss.getD k []).length<0 then -1 else Qdn (Qdk z (xss.getD k []).length) (xss.drop (k+1)))=R):=by
     have:=H1.out;rw [Qtc xss k hlt] at this;unfold Qdn at this;exact this
    have cz:=fun W=>Qf7 a1 (xss.getD k []).length cap1 z W hrl z0 z1
    clear hc r1 e1 H1 hm;generalize (xss.getD k []).length=m at *
    by_cases hz:Qdk z m<0
    ·have H3:Hid (-1=R):=by have:=H2.out;rw [if_pos hz] at this;exact this
     have hz2:z<(m:Int):=by
      unfold Qdk at hz;split at hz
      ·assumption
      ·omega
     rw [if_pos hz2] at cz;clear H2 hz hz2;go_wp2_with fail;refine (cz _).mono ?_
     rintro e w1 ⟨rfl,hw1⟩;obtain rfl:w=w1:=hw1.symm;go_wp2_with fail;go_ret;exact ⟨Qja H3.out,Old.refl _⟩
    ·have H3:Hid (Qdn (Qdk z m) (xss.drop (k+1))=R):=by have:=H2.out;rw [if_neg hz] at this;exact this
     obtain ⟨q1,q2,q3⟩:=Qfk hz z0;rw [q2] at H3 q3;rw [if_neg (by omega)] at cz;have d2:decide (z - (m:Int)<0)=false:=by simp;omega
     clear H2 hz q2;go_wp2_with fail;refine (cz _).mono ?_
     rintro e w1 ⟨rfl,hw1⟩;obtain rfl:w=w1:=hw1.symm;go_wp2_with fail;exact ⟨⟨k+1,z - m,by omega,by go_num,rfl,by omega,by omega,H3,by first | rfl | trivial⟩,by simp [intOf];omega⟩
   ·have H2:Hid (z=R):=by
     have:=H1.out;rw [List.drop_eq_nil_of_le (by omega)] at this;unfold Qdn at this;exact this
    clear H1;go_wp2_with fail;go_ret;exact ⟨Qja H2.out,Old.refl _⟩
theorem Tryz.infoInts:(Tryz.prog.info? 22).map (fun i=>(i.zero,i.size,i.bytes))=some (some (.slice none 0 0),1,24):=by kernel_rfl
def OwS (xss:List (List Int)) (W:World) (lo hi:Nat) (v:Value):Prop:=
 hi<=W.heap.size/\((v=.slice none 0 0/\xss=[])∨∃(p cap:Nat) (vs:List Value),v=.slice (some ⟨p,0,none⟩) xss.length cap/\xss.length<=cap/\lo<=p/\p<hi/\W.ownsRow lo 22 1 (.slice (some ⟨p,0,none⟩) xss.length cap) xss.length vs/\vs.length=xss.length
  /\(∀j,j<xss.length->∃a c,vs[j]? = some (.slice a (xss.getD j []).length c)/\(xss.getD j []).length<=c/\OwI (xss.getD j []) W lo hi (.slice a (xss.getD j []).length c)/\(∀b,(Value.slice a (xss.getD j []).length c).ownBlock=some b->b≠p))
  /\(∀(i j:Nat) (x y:Value) (b:Nat),i<j->vs[i]? = some x->vs[j]? = some y->x.ownBlock=some b->y.ownBlock=some b->False))
theorem Qoc (xss:List (List Int)) (v:Value) (w:World) (hv:Qdq w v xss) (hl:xss.length≤1048576) (hr:∀r∈xss,r.length≤1048576) :
  Calls Tryz.prog 58 #[v] w fun e w'=>∃v',e=.returned v'/\Old w w'/\OwS xss w' w.heap.size w'.heap.size v'/\∃a c,v'=.slice a xss.length c:=by
 obtain ⟨i0,hi,hz0,hz1,hz2⟩:=info_parts Tryz.infoInts;obtain ⟨a0,cap0,ev⟩:=hv.slice;subst ev;have HR:=Qaa hr;have HV:=Qaa hv;clear hv hr;go_enter Tryz.func58,Tryz.ntmps58;go_wp2_with (at_make;refine wpList_make_full _ rfl _ _ 54 rfl w.heap.size 22 i0 (.slice none 0 0) 1 Tryz.underlying54 hi hz0 hz1 .i64 .i64 _ _ xss.length rfl rfl rfl rfl (by rw [hz2];omega) (by unfold maxLen;omega) (Nat.le_refl _) ?_;intro w1 hown hgrow)
 have hmade:(madeCells (Value.slice none 0 0).cells (xss.length*1)).toList=List.replicate xss.length (Value.slice none 0 0):=by
  rw [Nat.mul_one];exact toList_madeCells_one (.slice none 0 0) xss.length
 rw [hmade] at hown;have HO:=Qaa hown;have HG:Hid (Old w w1):=Below.grown (Below.refl _ _) hgrow (Nat.le_refl _) (fun _ h=>by cases h);clear hown hgrow hmade
 go_loopw [4] (fun i W=>∃(k:Nat) (vs:List Value),k<=xss.length/\i=.int .i64 k/\Hid (W.ownsRow w.heap.size 22 1 (.slice (some ⟨w.heap.size,0,none⟩) xss.length xss.length) xss.length vs)/\Hid (vs.length=xss.length)/\Hid (Old w W)
  /\Hid (∀j,j<k->∃a c,vs[j]? = some (.slice a (xss.getD j []).length c)/\(xss.getD j []).length<=c/\OwI (xss.getD j []) W w.heap.size W.heap.size (.slice a (xss.getD j []).length c)/\(∀b,(Value.slice a (xss.getD j []).length c).ownBlock=some b->b≠w.heap.size))
  /\Hid (∀(i j:Nat) (x y:Value) (b:Nat),i<j->j<k->vs[i]? = some x->vs[j]? = some y->x.ownBlock=some b->y.ownBlock=some b->False)) (fun i _=>xss.length - (intOf i).toNat)
 case atStart=>exact ⟨0,_,by omega,rfl,HO,by show _ = _;simp,HG,fun j hj=>by omega,fun i j x y b h1 h2=>by omega⟩
 case round=>
  obtain ⟨k,vs,hk,rfl,H1,HL,HG1,H2,H3⟩:=hrel;clear HO HG
  by_cases hlt:k<xss.length
  ·have d1:decide ((k:Int)<(xss.length:Int))=true:=by simp;omega
   rcases HV.out with ⟨a,cap,e,e2⟩ | ⟨b,o,cap,us,e,hb2,h3,hc⟩
   ·subst e2;simp at hlt
   simp only [Value.slice.injEq,true_and] at e;obtain ⟨rfl,rfl⟩:=e;obtain ⟨c0,r0⟩:=hc k hlt;have hm:xss.getD k []∈xss:=by simp [List.getD,hlt]
   have hrl:=HR.out _ hm;obtain ⟨a1,cap1,e1⟩:=r0.slice;rw [e1] at c0 r0;have c1:=(HG1.out.cell (p:=⟨b,o+k,none⟩) hb2).trans c0;have HR1:=Qaa (r0.old HG1.out);obtain ⟨xs,hxs⟩:∃xs,xss.getD k []=xs:=⟨_,rfl⟩
   have HXS:=Qaa hxs;rw [hxs] at c1 HR1 hrl;clear hc c0 r0 e1 hm hxs;go_wp2_with fail;refine (Qf6 xs _ _ HR1.out hrl).mono ?_
   rintro e w2 ⟨rfl,g2,o2⟩;have hsr:=(H1.out.lt w.heap.size rfl).2
   have H4:Hid (w2.ownsRow w.heap.size 22 1 (.slice (some ⟨w.heap.size,0,none⟩) xss.length xss.length) xss.length vs):=by
    refine ⟨H1.out.1,?_⟩;rcases H1.out.2 with hn | ⟨p,cap',cur,e,hb',hgg,rest⟩
    ·exact .inl hn
    ·refine .inr ⟨p,cap',cur,e,hb',?_,rest⟩;rw [g2.block p (Array.getElem?_eq_some_iff.1 hgg).1];exact hgg
   have hvl:=HL.out;obtain ⟨y,hy⟩:∃y,vs[k]? = some y:=⟨vs[k]'(by omega),List.getElem?_eq_getElem (by omega)⟩
   have c2:w2.cell? ⟨w.heap.size,k,none⟩=some y:=by
    rw [World.ownsRow.cellAt H4.out k (by omega)];exact hy
   have c3:=World.ownsRow.frozenAt H4.out k;have H5:=Qaa ((World.ownsRow.stored H4.out k (.slice (some ⟨wr.heap.size,0,none⟩) xs.length xs.length)).1);have HG2:=Qaa (Old.trans HG1.out g2);have HG3:Hid (Old w (w2.setCell ⟨w.heap.size,k,none⟩ (.slice (some ⟨wr.heap.size,0,none⟩) xs.length xs.length))):=HG2.out.own (Nat.le_refl _) _;have hfar:∀bb,w.heap.size<bb->(w2.setCell ⟨w.heap.size,k,none⟩ (.slice (some ⟨wr.heap.size,0,none⟩) xs.length xs.length)).heap[bb]? = w2.heap[bb]?:=fun bb hbb=>heap_setCell_other _ _ _ _ (by show bb≠w.heap.size;omega)
   have hsz:(w2.setCell ⟨w.heap.size,k,none⟩ (.slice (some ⟨wr.heap.size,0,none⟩) xs.length xs.length)).heap.size=w2.heap.size:=by simp
   have hown3:Own (w2.setCell ⟨w.heap.size,k,none⟩ (.slice (some ⟨wr.heap.size,0,none⟩) xs.length xs.length)) w.heap.size (.slice (some ⟨wr.heap.size,0,none⟩) xs.length xs.length) xs:=Own.low (ownsRow_setCell_other o2 (by simp [Value.ownBlock];omega) _) (by omega)
   have H6:Hid (∀j,j<k+1->∃a c,(vs.set k (.slice (some ⟨wr.heap.size,0,none⟩) xs.length xs.length))[j]? = some (.slice a (xss.getD j []).length c)/\(xss.getD j []).length<=c/\OwI (xss.getD j []) (w2.setCell ⟨w.heap.size,k,none⟩ (.slice (some ⟨wr.heap.size,0,none⟩) xs.length xs.length)) w.heap.size (w2.setCell ⟨w.heap.size,k,none⟩ (.slice (some ⟨wr.heap.size,0,none⟩) xs.length xs.length)).heap.size (.slice a (xss.getD j []).length c)/\(∀b,(Value.slice a (xss.getD j []).length c).ownBlock=some b->b≠w.heap.size)):=fun j hj=>by
    rcases Nat.lt_or_ge j k with hjk | hjk
    ·obtain ⟨a,c,h1,h2,h3,h4⟩:=H2.out j hjk;refine ⟨a,c,?_,h2,?_,h4⟩
     ·rw [List.getElem?_set_ne (by omega)];exact h1
     ·have h5:=h3.1.old g2;refine ⟨?_,Nat.le_refl _,fun b hb=>?_⟩
      ·exact ownsRow_setCell_other h5 (fun e=>h4 _ e rfl) _
      ·rw [hsz];exact (h5.lt b hb).2
    ·obtain rfl:j=k:=by omega
     rw [HXS.out];refine ⟨_,_,?_,Nat.le_refl _,⟨hown3,Nat.le_refl _,fun b hb=>(hown3.lt b hb).2⟩,fun b hb=>?_⟩
     ·rw [List.getElem?_set_self (by omega)]
     ·simp [Value.ownBlock] at hb;omega
   have H7:Hid (∀(i j:Nat) (x y:Value) (b:Nat),i<j->j<k+1->(vs.set k (.slice (some ⟨wr.heap.size,0,none⟩) xs.length xs.length))[i]? = some x->(vs.set k (.slice (some ⟨wr.heap.size,0,none⟩) xs.length xs.length))[j]? = some y->x.ownBlock=some b->y.ownBlock=some b->False):=fun i j x y b hij hjk hx hy' hbx hby=>by
    rcases Nat.lt_or_ge j k with hjk2 | hjk2
    ·rw [List.getElem?_set_ne (by omega)] at hx hy';exact H3.out i j x y b hij hjk2 hx hy' hbx hby
    ·obtain rfl:j=k:=by omega
     rw [List.getElem?_set_ne (by omega)] at hx;rw [List.getElem?_set_self (by omega)] at hy';obtain ⟨a,c,h1,h2,h3,h4⟩:=H2.out i hij;rw [h1] at hx;obtain rfl:=Option.some.inj hx;obtain rfl:=Option.some.inj hy';simp [Value.ownBlock] at hby;have:=h3.2.2 b hbx;omega
   have H8:Hid ((vs.set k (.slice (some ⟨wr.heap.size,0,none⟩) xs.length xs.length)).length=xss.length):=by show _ = _;simp [hvl]
   clear H1 H2 H3 HL H4 hfar hsz hown3 g2 o2 hy hvl;go_wp2_with fail;exact ⟨⟨k+1,_,by omega,by go_num,H5,H8,HG3,H6,H7⟩,by simp [intOf];omega⟩
  ·have d1:decide ((k:Int)<(xss.length:Int))=false:=by simp;omega
   obtain rfl:k=xss.length:=by omega
   go_wp2_with fail;go_ret;refine ⟨_,rfl,HG1.out,⟨Nat.le_refl _,Or.inr ⟨w.heap.size,xss.length,vs,rfl,Nat.le_refl _,Nat.le_refl _,(H1.out.lt w.heap.size rfl).2,H1.out,HL.out,H2.out,fun i j x y b hij hx hy=>?_⟩⟩,_,_,rfl⟩
   have hj:j<xss.length:=by
    have:=HL.out;have h4:=(List.getElem?_eq_some_iff.1 hy).1;omega
   exact H3.out i j x y b hij hj hx hy
theorem OwS.rowS {xss:List (List Int)} {W:World} {lo hi:Nat} {v:Value} (h:OwS xss W lo hi v):Qdq W v xss:=by
 obtain ⟨hh,h | ⟨p,cap,vs,rfl,hcap,hlo,hhi,ho,hvl,hj,hd⟩⟩:=h
 ·obtain ⟨rfl,rfl⟩:=h;exact Or.inl ⟨_,_,rfl,rfl⟩
 ·rcases Nat.eq_zero_or_pos xss.length with h0 | h0
  ·obtain rfl:=List.length_eq_zero_iff.1 h0;exact Or.inl ⟨_,_,rfl,rfl⟩
  ·refine Or.inr ⟨p,0,cap,fun j=>vs.getD j (.slice none 0 0),rfl,by omega,h0,fun j hjl=>?_⟩;obtain ⟨a,c,e,hc,o,hb⟩:=hj j hjl;have e2:vs.getD j (.slice none 0 0)=.slice a (xss.getD j []).length c:=by simp [List.getD,e]
   show W.cell? ⟨p,0+j,none⟩=some (vs.getD j (.slice none 0 0))/\Row W (vs.getD j (.slice none 0 0)) _
   rw [e2];refine ⟨?_,o.row⟩;rw [Nat.zero_add,World.ownsRow.cellAt ho j (by omega)];exact e
theorem Qod (xss:List (List Int)) (v u:Value) (w:World) (hv:Qdq w v xss) (hu:Qdq w u xss) (hl:xss.length≤1048576) (hr:∀r∈xss,r.length≤1048576) :
  Calls Tryz.prog 78 #[v,u] w fun e w'=>e=.returned (.bool true)/\Old w w':=by
 obtain ⟨a0,cap0,ev⟩:=hv.slice;obtain ⟨a1,cap1,eu⟩:=hu.slice;subst ev eu;have HR:=Qaa hr;have HV:=Qaa hv;have HU:=Qaa hu;have dn:((xss.length:Int) != (xss.length:Int))=false:=by simp
 clear hv hu hr;go_enter Tryz.func78,Tryz.ntmps78;go_wp2_with fail
 go_loopw [5] (fun i W=>∃k:Nat,k<=xss.length/\i=.int .i64 k/\Hid (Old w W)) (fun i _=>xss.length - (intOf i).toNat)
 case atStart=>exact ⟨0,by omega,rfl,Old.refl _⟩
 case round=>
  obtain ⟨k,hk,rfl,HG⟩:=hrel
  by_cases hlt:k<xss.length
  ·have d1:decide ((k:Int)<(xss.length:Int))=true:=by simp;omega
   rcases HV.out with ⟨a,cap,e,e2⟩ | ⟨b,o,cap,us,e,hb2,h3,hc⟩
   ·subst e2;simp at hlt
   rcases HU.out with ⟨a',cap',e',e2'⟩ | ⟨b',o',cap',us',e',hb2',h3',hc'⟩
   ·subst e2';simp at hlt
   simp only [Value.slice.injEq,true_and] at e e';obtain ⟨rfl,rfl⟩:=e;obtain ⟨rfl,rfl⟩:=e';obtain ⟨c0,r0⟩:=hc k hlt;obtain ⟨c0',r0'⟩:=hc' k hlt;have hm:xss.getD k []∈xss:=by simp [List.getD,hlt]
   have hrl:=HR.out _ hm;obtain ⟨x1,y1,e1⟩:=r0.slice;obtain ⟨x2,y2,e3⟩:=r0'.slice;rw [e1] at c0 r0;rw [e3] at c0' r0';have q1:=(HG.out.cell (p:=⟨b,o+k,none⟩) hb2).trans c0;have q2:=(HG.out.cell (p:=⟨b',o'+k,none⟩) hb2').trans c0';have R1:=Qaa (r0.old HG.out);have R2:=Qaa (r0'.old HG.out);have hbr:=Nat.lt_of_lt_of_le hb2 HG.out.size;have hbr':=Nat.lt_of_lt_of_le hb2' HG.out.size;generalize xss.getD k []=xs at *;have HAS:Hid (∀W':World,Old wr W'->(W'.cell? ⟨b,o+k,none⟩=some (.slice x1 xs.length y1)/\W'.cell? ⟨b',o'+k,none⟩=some (.slice x2 xs.length y2))):=fun W' g=>⟨(g.cell (p:=⟨b,o+k,none⟩) hbr).trans q1,(g.cell (p:=⟨b',o'+k,none⟩) hbr').trans q2⟩
   clear hc hc' c0 c0' r0 r0' e1 e3 hm;go_wp2_with fail
   go_region_held3 (fun W'=>W'.cell? ⟨b,o+k,none⟩=some (.slice x1 xs.length y1)/\W'.cell? ⟨b',o'+k,none⟩=some (.slice x2 xs.length y2)) (first | with_reducible exact HAS.out _ GE.out | with_reducible exact HAS.out _ (Below.drew (Old.refl wr)) | with_reducible exact HAS.out _ (Old.refl wr)) (first
    | (go_at_call 11;refine (Qer xs _ _ _ (R1.out.old (Below.drew (Old.refl wr))) (R2.out.old (Below.drew (Old.refl wr))) (by omega)).mono ?_;rintro e w2 ⟨rfl,ge⟩;have GE:=Qaa (Old.trans (Below.drew (Old.refl wr)) ge);clear ge)
    | fail)
   have HG2:=Qaa (Old.trans HG.out GE.out);go_wp2_with fail;exact ⟨⟨k+1,by omega,by go_num,HG2⟩,by simp [intOf];omega⟩
  ·go_wp2_with fail;go_ret;exact ⟨rfl,HG.out⟩
theorem OwS.slice {xss:List (List Int)} {W:World} {lo hi:Nat} {v:Value} (h:OwS xss W lo hi v):∃a c,v=.slice a xss.length c:=h.rowS.slice
theorem OwS.low {xss:List (List Int)} {W:World} {lo lo' hi:Nat} {v:Value} (h:OwS xss W lo hi v) (hl:lo'<=lo):OwS xss W lo' hi v:=by
 obtain ⟨hh,h | ⟨p,cap,vs,e,hcap,hlo,hhi,ho,hvl,hj,hd⟩⟩:=h
 ·exact ⟨hh,Or.inl h⟩
 ·refine ⟨hh,Or.inr ⟨p,cap,vs,e,hcap,by omega,hhi,⟨ho.1,?_⟩,hvl,fun j hjl=>?_,hd⟩⟩
  ·rcases ho.2 with hn | ⟨p',cap',cur,e',hb',rest⟩
   ·exact .inl hn
   ·exact .inr ⟨p',cap',cur,e',by omega,rest⟩
  ·obtain ⟨a,c,e1,hc,o,hb⟩:=hj j hjl;exact ⟨a,c,e1,hc,⟨Own.low o.1 hl,o.2.1,o.2.2⟩,hb⟩
def Qco:List (List Int)->Nat->Nat
 | [],_=>0
 | _ :: _,0=>0
 | r :: rs,j+1=>r.length+Qco rs j
theorem Qhx (xss:List (List Int)):Qco xss 0=0:=by cases xss <;> rfl
theorem Qmc:∀(xss:List (List Int)) (j:Nat),j<xss.length->Qco xss (j+1)=Qco xss j+(xss.getD j []).length
 | [],j,h=>by simp at h
 | r :: rs,0,h=>by
   show r.length+Qco rs 0=0+_
   rw [Qhx];simp
 | r :: rs,j+1,h=>by
   have:=Qmc rs j (by simpa using h)
   show r.length+Qco rs (j+1)=r.length+Qco rs j+_
   rw [this];simp [List.getD];omega
theorem Qtd:∀(xss:List (List Int)) (j:Nat),Qco xss j<=Qco xss xss.length
 | [],j=>by simp [Qco]
 | r :: rs,0=>by simp [Qco]
 | r :: rs,j+1=>by
   have:=Qtd rs j
   show r.length+Qco rs j<=r.length+Qco rs rs.length
   omega
def Qmd (w:World) (v:Value) (xsss:List (List (List Int))):Prop:=
 (∃a cap,v=.slice a 0 cap/\xsss=[])∨∃b o cap,∃us:Nat->Value,v=.slice (some ⟨b,o,none⟩) xsss.length cap/\b<w.heap.size/\0<xsss.length/\∀j,j<xsss.length->w.cell? ⟨b,o+j,none⟩=some (us j)/\Qdq w (us j) (xsss.getD j [])
theorem Qmd.old {w w':World} {v:Value} {xsss:List (List (List Int))} (h:Qmd w v xsss) (g:Old w w'):Qmd w' v xsss:=by
 rcases h with h1 | ⟨b,o,cap,us,e,hb,h0,hc⟩
 ·exact Or.inl h1
 ·exact Or.inr ⟨b,o,cap,us,e,Nat.lt_of_lt_of_le hb g.size,h0,fun j hj=>⟨(g.cell (p:=⟨b,o+j,none⟩) hb).trans (hc j hj).1,(hc j hj).2.old g⟩⟩
theorem Qmd.slice {w:World} {v:Value} {xsss:List (List (List Int))} (h:Qmd w v xsss):∃a cap,v=.slice a xsss.length cap:=by
 rcases h with ⟨a,cap,e,e2⟩ | ⟨b,o,cap,us,e,_⟩
 ·exact ⟨a,cap,by rw [e,e2];rfl⟩
 ·exact ⟨_,cap,e⟩
def Qdr:List (List (List Int))->Nat->Nat
 | [],_=>0
 | _ :: _,0=>0
 | r :: rs,j+1=>Qco r r.length+Qdr rs j
theorem Qhy (xsss:List (List (List Int))):Qdr xsss 0=0:=by cases xsss <;> rfl
theorem Qme:∀(xsss:List (List (List Int))) (j:Nat),j<xsss.length->Qdr xsss (j+1)=Qdr xsss j+Qco (xsss.getD j []) (xsss.getD j []).length
 | [],j,h=>by simp at h
 | r :: rs,0,h=>by
   show Qco r r.length+Qdr rs 0=0+_
   rw [Qhy];simp
 | r :: rs,j+1,h=>by
   have:=Qme rs j (by simpa using h)
   show Qco r r.length+Qdr rs (j+1)=Qco r r.length+Qdr rs j+_
   rw [this];simp [List.getD];omega
theorem Qte:∀(xsss:List (List (List Int))) (j:Nat),Qdr xsss j<=Qdr xsss xsss.length
 | [],j=>by simp [Qdr]
 | r :: rs,0=>by simp [Qdr]
 | r :: rs,j+1=>by
   have:=Qte rs j
   show Qco r r.length+Qdr rs j<=Qco r r.length+Qdr rs rs.length
   omega
def Qe1:Int->List (List (List Int))->Int
 | left,[]=>left
 | left,r :: rs=>if Qbk left r<0 then -1 else Qe1 (Qbk left r) rs
def Qcg (left:Int) (xsss:List (List (List Int))):Int:=if left<(xsss.length:Int) then -1 else Qe1 (left - xsss.length) xsss
theorem Qmf:∀(xss:List (List Int)) (left:Int),0<=left->¬Qdn left xss<0->Qdn left xss+(Qco xss xss.length:Int)=left
 | [],left,h0,h=>by simp [Qdn,Qco]
 | r :: rs,left,h0,h=>by
   unfold Qdn at h ⊢
   by_cases hr:Qdk left r.length<0
   ·rw [if_pos hr] at h;omega
   ·rw [if_neg hr] at h ⊢;obtain ⟨q1,q2,q3⟩:=Qfk hr h0;have:=Qmf rs _ q3 h
    show Qdn (Qdk left r.length) rs+((r.length+Qco rs rs.length:Nat):Int)=left
    omega
theorem Qrg {xss:List (List Int)} {left:Int} (h0:0<=left) (h:¬Qbk left xss<0):Qbk left xss+(Qco xss xss.length:Int)<=left:=by
 unfold Qbk at h ⊢
 by_cases hr:left<(xss.length:Int)
 ·rw [if_pos hr] at h;omega
 ·rw [if_neg hr] at h ⊢;have:=Qmf xss _ (by omega) h;omega
theorem Qp7:∀(xsss:List (List (List Int))) (left:Int),0<=left->¬Qe1 left xsss<0->0<=Qe1 left xsss/\Qe1 left xsss<=left/\(Qdr xsss xsss.length:Int)<=left/\∀r∈xsss,(r.length:Int)<=left/\∀q∈r,(q.length:Int)<=left
 | [],left,h0,h=>⟨h0,Int.le_refl _,by simpa [Qdr] using h0,by simp⟩
 | r :: rs,left,h0,h=>by
   unfold Qe1 at h ⊢
   by_cases hr:Qbk left r<0
   ·rw [if_pos hr] at h;omega
   ·rw [if_neg hr] at h ⊢;obtain ⟨q1,q2,q3,q4⟩:=Qmb h0 hr;have q5:=Qrg h0 hr;obtain ⟨p1,p2,p3,p4⟩:=Qp7 rs _ q1 h;refine ⟨p1,by omega,?_,fun x hx=>?_⟩
    ·show ((Qco r r.length+Qdr rs rs.length:Nat):Int)≤left
     omega
    ·rcases List.mem_cons.1 hx with rfl | hx
     ·exact ⟨q3,q4⟩
     ·have:=p4 x hx;exact ⟨by omega,fun q hq=>by have:=this.2 q hq;omega⟩
theorem Qtf {xsss:List (List (List Int))} {left:Int} (h0:0<=left) (h:¬Qcg left xsss<0):0<=Qcg left xsss/\Qcg left xsss<=left/\(xsss.length:Int)<=left/\(Qdr xsss xsss.length:Int)<=left/\∀r∈xsss,(r.length:Int)<=left/\∀q∈r,(q.length:Int)<=left:=by
 unfold Qcg at h ⊢
 by_cases hr:left<(xsss.length:Int)
 ·rw [if_pos hr] at h;omega
 ·rw [if_neg hr] at h ⊢;obtain ⟨p1,p2,p3,p4⟩:=Qp7 xsss _ (by omega) h
  exact ⟨p1,by omega,by omega,by omega,fun r hr=>by
   have:=p4 r hr;exact ⟨by omega,fun q hq=>by have:=this.2 q hq;omega⟩⟩
theorem Qrh {left:Int} {xss:List (List Int)} (h0:0<=left) (h:Qbk left xss<0):Qbk left xss = -1:=by
 unfold Qbk at h ⊢;split
 ·rfl
 ·rename_i h2
  rw [if_neg h2] at h
  have key:∀(l:List (List Int)) (z:Int),0<=z->Qdn z l<0->Qdn z l = -1:=fun l=>by
   induction l with
   | nil=>intro z hz h;unfold Qdn at h;omega
   | cons r rs ih=>
     intro z hz h;unfold Qdn at h ⊢
     by_cases hq:Qdk z r.length<0
     ·rw [if_pos hq]
     ·rw [if_neg hq] at h ⊢;exact ih _ (by omega) h
  exact key _ _ (by omega) h
theorem Qri {left:Int} {xsss:List (List (List Int))} (h0:0<=left) (h:Qcg left xsss<0):Qcg left xsss = -1:=by
 unfold Qcg at h ⊢;split
 ·rfl
 ·rename_i h2
  rw [if_neg h2] at h
  have key:∀(l:List (List (List Int))) (z:Int),0<=z->Qe1 z l<0->Qe1 z l = -1:=fun l=>by
   induction l with
   | nil=>intro z hz h;unfold Qe1 at h;omega
   | cons r rs ih=>
     intro z hz h;unfold Qe1 at h ⊢
     by_cases hq:Qbk z r<0
     ·rw [if_pos hq]
     ·rw [if_neg hq] at h ⊢;exact ih _ (by omega) h
  exact key _ _ (by omega) h
theorem Qrj (xsss:List (List (List Int))) (k:Nat) (h:k<xsss.length):xsss.drop k=xsss.getD k [] :: xsss.drop (k+1):=by
 rw [List.drop_eq_getElem_cons h];simp [List.getD,h]
theorem Qmg (xsss:List (List (List Int))) (v:Value) (left:Int) (w:World) (hv:Qmd w v xsss) (hl:xsss.length≤9223372036854775807) (hr:∀r∈xsss,r.length≤9223372036854775807∧∀q∈r,q.length≤9223372036854775807) (h0:0≤left) (h1:left≤1048576) :
  Calls Tryz.prog 19 #[v,.int .i64 left] w fun e w'=>e=.returned (.int .i64 (Qcg left xsss))/\Old w w':=by
 obtain ⟨a0,cap0,ev⟩:=hv.slice;subst ev
 by_cases hb:left<(xsss.length:Int)
 ·have d:decide (left - (xsss.length:Int)<0)=true:=by simp;omega
  have HB:Hid (Qcg left xsss = -1):=by show _ = _;unfold Qcg;rw [if_pos hb]
  clear hv hr hb;go_enter Tryz.func19,Tryz.ntmps19;go_wp2_with fail;go_ret;exact ⟨Qja HB.out.symm,Old.refl _⟩
 ·have d:decide (left - (xsss.length:Int)<0)=false:=by simp;omega
  have HB:Hid (Qe1 (left - xsss.length) (xsss.drop 0)=Qcg left xsss):=by show _ = _;unfold Qcg;rw [if_neg hb];rfl
  have hl2:0<=left - (xsss.length:Int)/\left - (xsss.length:Int)<=1048576:=by omega
  generalize Qcg left xsss=R at *;have HR:=Qaa hr;have HV:=Qaa hv;clear hv hr;go_enter Tryz.func19,Tryz.ntmps19;go_wp2_with fail
  go_loopw [5,1] (fun i l W=>∃(k:Nat) (z:Int),k<=xsss.length/\i=.int .i64 k/\l=.int .i64 z/\0<=z/\z<=1048576/\Hid (Qe1 z (xsss.drop k)=R)/\Hid (Old w W)) (fun i _ _=>xsss.length - (intOf i).toNat)
  case atStart=>exact ⟨0,left - xsss.length,by omega,rfl,rfl,by omega,by omega,HB,Old.refl _⟩
  case round=>
   obtain ⟨k,z,hk,rfl,rfl,z0,z1,H1,HG⟩:=hrel;clear HB d
   by_cases hlt:k<xsss.length
   ·have d1:decide ((k:Int)<(xsss.length:Int))=true:=by simp;omega
    rcases HV.out with ⟨a,cap,e,e2⟩ | ⟨b,o,cap,us,e,hb2,h3,hc⟩
    ·subst e2;simp at hlt
    simp only [Value.slice.injEq,true_and] at e;obtain ⟨rfl,rfl⟩:=e;obtain ⟨c1,r1⟩:=hc k hlt;obtain ⟨a1,cap1,e1⟩:=r1.slice;rw [e1] at c1 r1;have q1:=(HG.out.cell (p:=⟨b,o+k,none⟩) hb2).trans c1;have R1:=Qaa (r1.old HG.out);have hm:xsss.getD k []∈xsss:=by simp [List.getD,hlt]
    have hrl:=HR.out _ hm
    have H2:Hid ((if Qbk z (xsss.getD k [])<0 then -1 else Qe1 (Qbk z (xsss.getD k [])) (xsss.drop (k+1)))=R):=by
     have:=H1.out;rw [Qrj xsss k hlt] at this;unfold Qe1 at this;exact this
    generalize xsss.getD k []=xss at *;have cz:=fun W h=>Qob xss (.slice a1 xss.length cap1) z W h hrl.1 hrl.2 z0 z1
    clear hc c1 r1 e1 H1 hm
    by_cases hz:Qbk z xss<0
    ·have H3:Hid (-1=R):=by have:=H2.out;rw [if_pos hz] at this;exact this
     rw [Qrh z0 hz] at cz;clear H2 hz;go_wp2_with fail;refine (cz _ R1.out).mono ?_
     rintro e w1 ⟨rfl,g1⟩;have HG2:=Qaa (Old.trans HG.out g1);clear g1;go_wp2_with fail;go_ret;exact ⟨Qja H3.out,HG2.out⟩
    ·have H3:Hid (Qe1 (Qbk z xss) (xsss.drop (k+1))=R):=by have:=H2.out;rw [if_neg hz] at this;exact this
     obtain ⟨q3,q4,_,_⟩:=Qmb z0 hz;have d2:=decide_eq_false hz;clear H2 hz;generalize Qbk z xss=z2 at *;go_wp2_with fail;refine (cz _ R1.out).mono ?_
     rintro e w1 ⟨rfl,g1⟩;have HG2:=Qaa (Old.trans HG.out g1);clear g1;go_wp2_with fail;exact ⟨⟨k+1,z2,by omega,by go_num,rfl,by omega,by omega,H3,HG2⟩,by simp [intOf];omega⟩
   ·have H2:Hid (z=R):=by
     have:=H1.out;rw [List.drop_eq_nil_of_le (by omega)] at this;unfold Qe1 at this;exact this
    clear H1;go_wp2_with fail;go_ret;exact ⟨Qja H2.out,HG.out⟩
abbrev TSS (xss:List (List Int)):Qba:=TS 22 1 xss.length (fun k=>TI (xss.getD k []))
theorem Qet (xss:List (List Int)):GoodT (TSS xss):=Qsp _ _ _ (fun _=>Qcr _)
abbrev TTT (xsss:List (List (List Int))):Qba:=TS 54 1 xsss.length (fun j=>TSS (xsss.getD j []))
theorem Qfp (xsss:List (List (List Int))):GoodT (TTT xsss):=Qsp _ _ _ (fun _=>Qet _)
theorem Qee {vs:List Value} {j:Nat} (hj:j<vs.length):Qaz 1 vs j=[vs[j]]:=by
 have h2:=Qbe (n:=1) (m:=vs.length) (vs:=vs) (by omega) j hj;have h3:=Qdp 1 vs j 0 (by omega);rw [Nat.mul_one,Nat.add_zero,List.getElem?_eq_getElem hj] at h3
 match hcs:Qaz 1 vs j,h2 with
 | [x],_=>
   rw [hcs] at h3;simp at h3;rw [h3]
theorem OwS.tss {xss:List (List Int)} {W:World} {lo hi:Nat} {v:Value} (h:OwS xss W lo hi v):∃B,TSS xss W B [v]/\∀b,B b->lo<=b/\b<hi:=by
 obtain ⟨hh,h | ⟨p,cap,vs,rfl,hcap,hlo,hhi,ho,hvl,hj,hd⟩⟩:=h
 ·obtain ⟨rfl,rfl⟩:=h;exact ⟨fun _=>False,.inl ⟨rfl,rfl,fun b hb=>hb⟩,fun b hb=>hb.elim⟩
 ·refine ⟨fun b=>b=p∨∃j,j<xss.length∧(vs.getD j (.slice none 0 0)).ownBlock=some b,.inr ⟨p,cap,vs,fun j b=>(vs.getD j (.slice none 0 0)).ownBlock=some b,rfl,⟨⟨ho.1,?_⟩,fun j hjl=>?_,fun j hjl=>?_,fun i j hi' hj' hij b h1 h2=>?_⟩,fun b=>Iff.rfl⟩,fun b hb=>?_⟩
  ·rcases ho.2 with hn | ⟨p',cap',cur,e',hb',rest⟩
   ·exact .inl hn
   ·exact .inr ⟨p',cap',cur,e',Nat.zero_le _,rest⟩
  ·obtain ⟨a,c,e,hc,o,hb⟩:=hj j hjl;have e2:vs.getD j (.slice none 0 0)=.slice a (xss.getD j []).length c:=by simp [List.getD,e]
   have e3:vs[j]'(by omega)=.slice a (xss.getD j []).length c:=by
    have:=List.getElem?_eq_getElem (l:=vs) (i:=j) (by omega)
    rw [e] at this;exact (Option.some.inj this).symm
   rw [Qee (by omega),e3];refine ⟨a,c,rfl,Own.low o.1 (Nat.zero_le _),hc,fun b=>?_⟩
   show (vs.getD j (.slice none 0 0)).ownBlock=some b↔_
   rw [e2]
  ·obtain ⟨a,c,e,hc,o,hb⟩:=hj j hjl;have e2:vs.getD j (.slice none 0 0)=.slice a (xss.getD j []).length c:=by simp [List.getD,e]
   show ¬(vs.getD j (.slice none 0 0)).ownBlock=some p
   rw [e2];exact fun hx=>hb p hx rfl
  ·have g1:vs[i]? = some (vs.getD i (.slice none 0 0)):=by simp [List.getD,show i<vs.length by omega]
   have g2:vs[j]? = some (vs.getD j (.slice none 0 0)):=by simp [List.getD,show j<vs.length by omega]
   rcases Nat.lt_or_ge i j with h3 | h3
   ·exact hd i j _ _ b h3 g1 g2 h1 h2
   ·exact hd j i _ _ b (by omega) g2 g1 h2 h1
  ·rcases hb with rfl | ⟨j,hjl,hb⟩
   ·exact ⟨hlo,hhi⟩
   ·obtain ⟨a,c,e,hc,o,hb2⟩:=hj j hjl;have e2:vs.getD j (.slice none 0 0)=.slice a (xss.getD j []).length c:=by simp [List.getD,e]
    rw [e2] at hb;exact ⟨(o.1.lt b hb).1,o.2.2 b hb⟩
theorem TSS.owS {xss:List (List Int)} {W:World} {B:Nat->Prop} {v:Value} {lo hi:Nat} (h:TSS xss W B [v]) (hb:∀b,B b->lo<=b/\b<hi) (hh:hi<=W.heap.size):OwS xss W lo hi v:=by
 rcases h with ⟨h0,e,_⟩ | ⟨p,cap,vs,Bs,e,hc,hbb⟩
 ·simp at e;exact ⟨hh,.inl ⟨e,List.length_eq_zero_iff.1 h0⟩⟩
 simp at e;subst e;have hp:=hb p ((hbb p).2 (.inl rfl));have hvl:vs.length=xss.length:=by have:=hc.row.1;omega
 have hcap:xss.length<=cap:=by
  rcases hc.row.2 with ⟨hn,_⟩ | ⟨p',cap',cur,e',_,_,h3,_⟩
  ·cases hn
  ·simp only [Value.slice.injEq] at e';omega
 have hcell:∀j,j<xss.length->∃x,vs[j]? = some x/\TI (xss.getD j []) W (Bs j) [x]:=fun j hj=>by
  have h1:=hc.el j hj;rw [Qee (by omega)] at h1;exact ⟨_,List.getElem?_eq_getElem (by omega),h1⟩
 refine ⟨hh,.inr ⟨p,cap,vs,rfl,hcap,hp.1,hp.2,⟨hc.row.1,?_⟩,hvl,fun j hj=>?_,fun i j x y b hij hx hy hbx hby=>?_⟩⟩
 ·rcases hc.row.2 with ⟨hn,_⟩ | ⟨p',cap',cur,e',_,rest⟩
  ·cases hn
  ·simp only [Value.slice.injEq,Option.some.injEq,Addr.mk.injEq,true_and,and_true] at e';obtain ⟨rfl,rfl⟩:=e';exact .inr ⟨p,cap,cur,rfl,hp.1,rest⟩
 ·obtain ⟨x,e,hE⟩:=hcell j hj;obtain ⟨a,c,rfl⟩:=hE.slice;have hbl:=hE.blocks;have ho:=hE.own (lo:=lo) (fun b hb'=>(hb b ((hbb b).2 (.inr ⟨j,hj,hb'⟩))).1);refine ⟨a,c,e,?_,⟨ho,hh,fun b hb'=>(hb b ((hbb b).2 (.inr ⟨j,hj,(hbl b).2 hb'⟩))).2⟩,fun b hb' e2=>?_⟩
  ·obtain ⟨a2,c2,e2,_,f2,_⟩:=hE;simp at e2;rw [e2.2];exact f2
  ·subst e2;exact hc.np j hj ((hbl b).2 hb')
 ·have hi':i<xss.length:=by have:=(List.getElem?_eq_some_iff.1 hx).1;omega
  have hj':j<xss.length:=by have:=(List.getElem?_eq_some_iff.1 hy).1;omega
  obtain ⟨x2,e,hE⟩:=hcell i hi';obtain ⟨y2,e2,hE2⟩:=hcell j hj';rw [e] at hx;rw [e2] at hy;obtain rfl:=Option.some.inj hx;obtain rfl:=Option.some.inj hy;exact hc.dis i j hi' hj' (by omega) b ((hE.blocks b).2 hbx) ((hE2.blocks b).2 hby)
theorem TSS.whole {xss:List (List Int)} {W:World} {B:Nat->Prop} {v:Value} (h:TSS xss W B [v]):OwS xss W 0 W.heap.size v:=
 TSS.owS h (fun b hb=>⟨Nat.zero_le _,(Qet xss).lt h b hb⟩) (Nat.le_refl _)
theorem TSS.slice {xss:List (List Int)} {W:World} {B:Nat->Prop} {v:Value} (h:TSS xss W B [v]):∃a c,v=.slice a xss.length c:=TS.slice h
theorem TTT.rowT {xsss:List (List (List Int))} {W:World} {B:Nat->Prop} {v:Value} (h:TTT xsss W B [v]):Qmd W v xsss:=by
 rcases h with ⟨h0,e,_⟩ | ⟨p,cap,vs,Bs,e,hc,hbb⟩
 ·simp at e;subst e;exact .inl ⟨none,0,rfl,List.length_eq_zero_iff.1 h0⟩
 simp at e;subst e;have hvl:vs.length=xsss.length:=by have:=hc.row.1;omega
 rcases Nat.eq_zero_or_pos xsss.length with h0 | h0
 ·obtain rfl:=List.length_eq_zero_iff.1 h0;exact .inl ⟨_,_,rfl,rfl⟩
 refine .inr ⟨p,0,cap,fun j=>vs.getD j (.slice none 0 0),rfl,Qa1 hc.row,h0,fun j hj=>?_⟩;have h1:=hc.el j hj;rw [Qee (by omega)] at h1;have e2:vs.getD j (.slice none 0 0)=vs[j]'(by omega):=by simp [List.getD,show j<vs.length by omega]
 show W.cell? ⟨p,0+j,none⟩=some (vs.getD j (.slice none 0 0))/\Qdq W (vs.getD j (.slice none 0 0)) _
 rw [e2];refine ⟨?_,(TSS.whole h1).rowS⟩;rw [Nat.zero_add,World.ownsRow.cellAt hc.row j (by omega)];exact List.getElem?_eq_getElem _
theorem Tryz.infoIntSS:(Tryz.prog.info? 54).map (fun i=>(i.zero,i.size,i.bytes))=some (some (.slice none 0 0),1,24):=by kernel_rfl
theorem Qrk {m k:Nat} {vs:List Value} (h:vs.length=m*1) (hk:k<m) (a:Value):Qaz 1 (vs.set (k*1+0) a) k=[a]:=by
 have hl:=Qbe (n:=1) h k hk;rw [Qbl 1 _ k 0 k a (by omega),if_pos rfl]
 match Qaz 1 vs k,hl with
 | [_],_=>rfl
theorem TSc.storeT {T:TypeId} {m k:Nat} {Es:Nat→Qba} {W:World} {p cap:Nat} {vs:List Value} {Bs:Nat→Nat→Prop} {B:Nat→Prop} (g:∀j,GoodT (Es j)) (h:TSc T 1 m k Es W p cap vs Bs) (hk:k<m) (a:Value)
  (he:∀W':World,(∀b,b≠p->W'.heap[b]? = W.heap[b]?)->Es k W' B [a]) (hp:¬B p) (hd:∀j,j<k->∀b,Bs j b->B b->False) :
  ∃vs',TSc T 1 m (k+1) Es (W.setCell ⟨p,k,none⟩ a) p cap vs' (fun q=>if q=k then B else Bs q):=by
 have h1:=h.fill g 0 (by omega) a;rw [Nat.mul_one,Nat.add_zero] at h1;refine ⟨_,h1.more (B:=B) ?_ hp hd⟩;have:=Qrk h.row.1 hk a;rw [Nat.mul_one,Nat.add_zero] at this;rw [this];exact he _ (fun b hb=>heap_setCell_other _ _ _ _ hb)
theorem Qmh (xsss:List (List (List Int))) (v:Value) (w:World) (hv:Qmd w v xsss) (hl:xsss.length≤1048576) (hr:∀r∈xsss,r.length≤1048576∧∀q∈r,q.length≤1048576) :
  Calls Tryz.prog 30 #[v] w fun e w'=>∃v',e=.returned v'/\Old w w'/\Ows (TTT xsss) w' w.heap.size w'.heap.size [v']:=by
 obtain ⟨i0,hi,hz0,hz1,hz2⟩:=info_parts Tryz.infoIntSS;obtain ⟨a0,cap0,ev⟩:=hv.slice;subst ev;have HR:=Qaa hr;have HV:=Qaa hv;have HGD:Hid (∀j,GoodT (TSS (xsss.getD j []))):=fun j=>Qet _
 clear hv hr;go_enter Tryz.func30,Tryz.ntmps30;go_wp2_with (at_make;refine wpList_make_full _ rfl _ _ 25 rfl 0 54 i0 (.slice none 0 0) 1 Tryz.underlying25 hi hz0 hz1 .i64 .i64 _ _ xsss.length rfl rfl rfl rfl (by rw [hz2];omega) (by unfold maxLen;omega) (Nat.zero_le _) ?_;intro w1 hown hgrow);have HO:Hid (TSc 54 1 xsss.length 0 (fun j=>TSS (xsss.getD j [])) w1 w.heap.size xsss.length _ (fun _ _=>False)):=TSc.start hown;have HG:Hid (Old w w1):=Below.grown (Below.refl _ _) hgrow (Nat.le_refl _) (fun _ h=>by cases h);clear hown hgrow
 go_loopw [4] (fun i W=>∃(k:Nat) (vs:List Value) (Bs:Nat->Nat->Prop),k<=xsss.length/\i=.int .i64 k/\Hid (TSc 54 1 xsss.length k (fun j=>TSS (xsss.getD j [])) W w.heap.size xsss.length vs Bs)/\Hid (∀j b,j<k->Bs j b->w.heap.size<b)/\Hid (Old w W)) (fun i _=>xsss.length - (intOf i).toNat)
 case atStart=>exact ⟨0,_,_,by omega,rfl,HO,(fun j b hj=>by omega),HG⟩
 case round=>
  obtain ⟨k,vs,Bs,hk,rfl,H1,HB,HG1⟩:=hrel;clear HO HG
  by_cases hlt:k<xsss.length
  ·have d1:decide ((k:Int)<(xsss.length:Int))=true:=by simp;omega
   rcases HV.out with ⟨a,cap,e,e2⟩ | ⟨b,o,cap,us,e,hb2,h3,hc⟩
   ·subst e2;simp at hlt
   simp only [Value.slice.injEq,true_and] at e;obtain ⟨rfl,rfl⟩:=e;obtain ⟨c0,r0⟩:=hc k hlt;have hm:xsss.getD k []∈xsss:=by simp [List.getD,hlt]
   have hrl:=HR.out _ hm;obtain ⟨a1,cap1,e1⟩:=r0.slice;rw [e1] at c0 r0;have q1:=(HG1.out.cell (p:=⟨b,o+k,none⟩) hb2).trans c0;have HR1:=Qaa (r0.old HG1.out);obtain ⟨xss,hxss⟩:∃xss,xsss.getD k []=xss:=⟨_,rfl⟩
   have HEL:Hid (TSS (xsss.getD k [])=TSS xss):=by show _ = _;rw [hxss]
   rw [hxss] at q1 HR1 hrl;clear hc c0 r0 e1 hm hxss;go_wp2_with fail;refine (Qoc xss _ _ HR1.out hrl.1 hrl.2).mono ?_
   rintro e w2 ⟨v',rfl,g2,o2,a2,c2,rfl⟩;have hsr:=Qa1 H1.out.row;have H2:=H1.out.old HGD.out g2
   obtain ⟨y0,hy0⟩:∃y,w2.cell? ⟨w.heap.size,k,none⟩=some y:=by
    have h5:=H2.cell k 0 hlt (by omega);rw [Nat.mul_one,Nat.add_zero] at h5;have h6:=Qbe H2.row.1 k hlt;exact ⟨_,h5.trans (List.getElem?_eq_getElem (by omega))⟩
   have f0:w2.frozen? ⟨w.heap.size,k,none⟩=false:=H2.frozen _
   obtain ⟨B,hTI,hBlo⟩:=o2.tss
   have hst:=H2.storeT HGD.out hlt (.slice a2 xss.length c2) (B:=B) (fun W' hW'=>by
    rw [HEL.out];refine (Qet xss).far hTI (fun b hb=>hW' b ?_);have:=hBlo b hb
    omega) (fun hb=>by have:=hBlo _ hb;omega) (fun j hj b h1 h2=>by
     have h4:=H1.out.lt HGD.out j b hj h1;have:=hBlo b h2;omega)
   obtain ⟨vs',H3⟩:=hst;have HN:=Qaa H3
   have HNB:Hid (∀j b,j<k+1->(fun q=>if q=k then B else Bs q) j b->w.heap.size<b):=fun j b hj hb=>by
    by_cases e:j=k
    ·simp only [e,if_true] at hb;have:=hBlo b hb;omega
    ·simp only [e,if_false] at hb;exact HB.out j b (by omega) hb
   have HG2:Hid (Old w (w2.setCell ⟨w.heap.size,k,none⟩ (.slice a2 xss.length c2))):=(Old.trans HG1.out g2).own (p:=⟨w.heap.size,k,none⟩) (Nat.le_refl _) _;clear H1 H2 H3 g2 o2 hTI hBlo HB HEL;go_wp2_with fail;exact ⟨⟨k+1,vs',_,by omega,by go_num,HN,HNB,HG2⟩,by simp [intOf];omega⟩
  ·have d1:decide ((k:Int)<(xsss.length:Int))=false:=by simp;omega
   obtain rfl:k=xsss.length:=by omega
   go_wp2_with fail;go_ret;exact ⟨_,rfl,HG1.out,H1.out.done HGD.out (Nat.le_refl _) (fun j b hj hb=>Nat.le_of_lt (HB.out j b hj hb))⟩
theorem Qmi (xsss:List (List (List Int))) (v u:Value) (w:World) (hv:Qmd w v xsss) (hu:Qmd w u xsss) (hl:xsss.length≤1048576) (hr:∀r∈xsss,r.length≤1048576∧∀q∈r,q.length≤1048576) :
  Calls Tryz.prog 39 #[v,u] w fun e w'=>e=.returned (.bool true)/\Old w w':=by
 obtain ⟨a0,cap0,ev⟩:=hv.slice;obtain ⟨a1,cap1,eu⟩:=hu.slice;subst ev eu;have HR:=Qaa hr;have HV:=Qaa hv;have HU:=Qaa hu;have dn:((xsss.length:Int) != (xsss.length:Int))=false:=by simp
 clear hv hu hr;go_enter Tryz.func39,Tryz.ntmps39;go_wp2_with fail
 go_loopw [5] (fun i W=>∃k:Nat,k<=xsss.length/\i=.int .i64 k/\Hid (Old w W)) (fun i _=>xsss.length - (intOf i).toNat)
 case atStart=>exact ⟨0,by omega,rfl,Old.refl _⟩
 case round=>
  obtain ⟨k,hk,rfl,HG⟩:=hrel
  by_cases hlt:k<xsss.length
  ·have d1:decide ((k:Int)<(xsss.length:Int))=true:=by simp;omega
   rcases HV.out with ⟨a,cap,e,e2⟩ | ⟨b,o,cap,us,e,hb2,h3,hc⟩
   ·subst e2;simp at hlt
   rcases HU.out with ⟨a',cap',e',e2'⟩ | ⟨b',o',cap',us',e',hb2',h3',hc'⟩
   ·subst e2';simp at hlt
   simp only [Value.slice.injEq,true_and] at e e';obtain ⟨rfl,rfl⟩:=e;obtain ⟨rfl,rfl⟩:=e';obtain ⟨c0,r0⟩:=hc k hlt;obtain ⟨c0',r0'⟩:=hc' k hlt;have hm:xsss.getD k []∈xsss:=by simp [List.getD,hlt]
   have hrl:=HR.out _ hm;obtain ⟨x1,y1,e1⟩:=r0.slice;obtain ⟨x2,y2,e3⟩:=r0'.slice;rw [e1] at c0 r0;rw [e3] at c0' r0';have q1:=(HG.out.cell (p:=⟨b,o+k,none⟩) hb2).trans c0;have q2:=(HG.out.cell (p:=⟨b',o'+k,none⟩) hb2').trans c0';have R1:=Qaa (r0.old HG.out);have R2:=Qaa (r0'.old HG.out);have hbr:=Nat.lt_of_lt_of_le hb2 HG.out.size;have hbr':=Nat.lt_of_lt_of_le hb2' HG.out.size;generalize xsss.getD k []=xs at *;have HAS:Hid (∀W':World,Old wr W'->(W'.cell? ⟨b,o+k,none⟩=some (.slice x1 xs.length y1)/\W'.cell? ⟨b',o'+k,none⟩=some (.slice x2 xs.length y2))):=fun W' g=>⟨(g.cell (p:=⟨b,o+k,none⟩) hbr).trans q1,(g.cell (p:=⟨b',o'+k,none⟩) hbr').trans q2⟩
   clear hc hc' c0 c0' r0 r0' e1 e3 hm;go_wp2_with fail
   go_region_held3 (fun W'=>W'.cell? ⟨b,o+k,none⟩=some (.slice x1 xs.length y1)/\W'.cell? ⟨b',o'+k,none⟩=some (.slice x2 xs.length y2)) (first | with_reducible exact HAS.out _ GE.out | with_reducible exact HAS.out _ (Below.drew (Old.refl wr)) | with_reducible exact HAS.out _ (Old.refl wr)) (first
    | (go_at_call 78;refine (Qod xs _ _ _ (R1.out.old (Below.drew (Old.refl wr))) (R2.out.old (Below.drew (Old.refl wr))) hrl.1 hrl.2).mono ?_;rintro e w2 ⟨rfl,ge⟩;have GE:=Qaa (Old.trans (Below.drew (Old.refl wr)) ge);clear ge)
    | fail)
   have HG2:=Qaa (Old.trans HG.out GE.out);go_wp2_with fail;exact ⟨⟨k+1,by omega,by go_num,HG2⟩,by simp [intOf];omega⟩
  ·go_wp2_with fail;go_ret;exact ⟨rfl,HG.out⟩
def XC (xsss:List (List (List Int))) (W:World) (lo hi:Nat) (g:Array Value):Prop:=∃a c,g=#[.slice a xsss.length c]/\Ows (TTT xsss) W lo hi [.slice a xsss.length c]
theorem Q2o (xsss:List (List (List Int))):Far (XC xsss):=fun W W' lo hi v h hf hs=>by
 obtain ⟨a,c,e,o⟩:=h;exact ⟨a,c,e,Qnu (Qfp xsss) W W' lo hi _ o hf hs⟩
theorem Qwm {xsss:List (List (List Int))} (W:World) (lo hi:Nat) (g:Array Value) (h:XC xsss W lo hi g):∃a c,g=#[.slice a xsss.length c]:=by
 obtain ⟨a,c,e,o⟩:=h;exact ⟨a,c,e⟩
theorem Ows.rowT {xsss:List (List (List Int))} {W:World} {lo hi:Nat} {v:Value} (h:Ows (TTT xsss) W lo hi [v]):Qmd W v xsss:=by
 obtain ⟨_,B,hT,_⟩:=h;exact TTT.rowT hT
theorem Q4d (xsss:List (List (List Int))) (v:Value) (left:Int) (w:World) (hv:Qmd w v xsss) (hl:xsss.length≤9223372036854775807) (hr:∀r∈xsss,r.length≤9223372036854775807∧∀q∈r,q.length≤9223372036854775807) (h0:0≤left) (h1:left≤1048576) :
  Calls Tryz.prog 5 #[.agg #[v],.int .i64 left] w fun e w'=>e=.returned (.int .i64 (Qcg left xsss))/\Old w w':=by
 have c:=fun W (h:Qmd W v xsss)=>Qmg xsss v left W h hl hr h0 h1
 have HV:=Qaa hv;obtain ⟨a0,cap0,ev⟩:=hv.slice;subst ev;clear hv hr
 by_cases hz:Qcg left xsss<0
 ·rw [Qri h0 hz] at c ⊢;clear hz;go_enter Tryz.func5,Tryz.ntmps5;go_wp2_with fail;refine (c _ (HV.out.old ((Old.refl w).alloc _))).mono ?_
  rintro e w1 ⟨rfl,g1⟩;have HG:=Qaa (Old.trans ((Old.refl w).alloc _) g1);clear g1;go_wp2_with fail;go_ret;exact ⟨rfl,HG.out⟩
 ·have d:=decide_eq_false hz;generalize Qcg left xsss=z at *;go_enter Tryz.func5,Tryz.ntmps5;go_wp2_with fail;refine (c _ (HV.out.old ((Old.refl w).alloc _))).mono ?_
  rintro e w1 ⟨rfl,g1⟩;have HG:=Qaa (Old.trans ((Old.refl w).alloc _) g1);clear g1;go_wp2_with fail;go_ret;exact ⟨rfl,HG.out⟩
theorem Ows.putT {xsss:List (List (List Int))} {W:World} {lo hi k j:Nat} {v x:Value} (h:Ows (TTT xsss) W lo hi [v]) (hk:k<lo∨hi<=k):Ows (TTT xsss) (W.setCell ⟨k,j,none⟩ x) lo hi [v]:=
 Qnu (Qfp xsss) W _ lo hi _ h (fun b h1 h2=>heap_setCell_other _ _ _ _ (by show b≠k;omega)) (by simp)
theorem Q4e (xsss:List (List (List Int))) (v:Value) (w:World) (h:Qmd w v xsss) (hl:xsss.length≤1048576) (hr:∀r∈xsss,r.length≤1048576∧∀q∈r,q.length≤1048576) :
  Calls Tryz.prog 9 #[.agg #[v]] w fun e w'=>∃g,e=.returned (.agg g)/\Old w w'/\XC xsss w' w.heap.size w'.heap.size g:=by
 have HR:=Qaa h;have HRR:=Qaa hr;obtain ⟨a0,cap0,ev⟩:=h.slice;subst ev;clear h hr;go_enter Tryz.func9,Tryz.ntmps9;go_wp2_with fail;refine (Qmh xsss _ _ (HR.out.old (((Old.refl w).alloc _).alloc _ |>.alloc _)) hl HRR.out).mono ?_
 rintro e w1 ⟨v1,rfl,g1,o1⟩;obtain ⟨a1,c1,rfl⟩:∃a c,v1=.slice a xsss.length c:=o1.rowT.slice
 have q20:w1.cell? ⟨w.heap.size+1+1,0,none⟩=some (Value.slice none 0 0):=(g1.cell (p:=⟨w.heap.size+1+1,0,none⟩) (by simp;try omega)).trans (by simp [Qad,Qa0,Qbp,Qca])
 have q10:w1.cell? ⟨w.heap.size+1,0,none⟩=some (Value.slice none 0 0):=(g1.cell (p:=⟨w.heap.size+1,0,none⟩) (by simp;try omega)).trans (by simp [Qad,Qa0,Qbp,Qca])
 have f20:w1.frozen? ⟨w.heap.size+1+1,0,none⟩=false:=(g1.frozen (p:=⟨w.heap.size+1+1,0,none⟩) (by simp;try omega)).trans (by simp [Qad,Qa0,Qbp,Qca])
 have f10:w1.frozen? ⟨w.heap.size+1,0,none⟩=false:=(g1.frozen (p:=⟨w.heap.size+1,0,none⟩) (by simp;try omega)).trans (by simp [Qad,Qa0,Qbp,Qca])
 have HG:=Qaa (Old.trans (((Old.refl w).alloc _).alloc _ |>.alloc _) g1)
 have HO:Hid (Ows (TTT xsss) w1 (w.heap.size+1+1+1) w1.heap.size [.slice a1 xsss.length c1]):=by
  have:=o1;simp at this;exact this
 clear g1 o1 HR;go_wp2_with fail;refine bodyPost_ret (v:=.agg #[.slice a1 xsss.length c1]) (by simp [results,Tryz.results9,go_sem,q10]) rfl ⟨_,rfl,?_,a1,c1,rfl,?_⟩
 ·exact (HG.out.own (p:=⟨w.heap.size+1+1,0,none⟩) (by simp;omega) _).own (p:=⟨w.heap.size+1,0,none⟩) (by simp) _
 ·have h2:=(HO.out.putT (k:=w.heap.size+1+1) (j:=0) (x:=.slice a1 xsss.length c1) (by omega)).putT (k:=w.heap.size+1) (j:=0) (x:=.slice a1 xsss.length c1) (by omega);exact h2.low (lo':=w.heap.size) (by omega) (by simp) (Nat.le_refl _)
theorem Q4f (xsss:List (List (List Int))) (w:World) (lo hi:Nat) (g:Array Value) (lo' hi':Nat) (g':Array Value) (h:XC xsss w lo hi g) (h':XC xsss w lo' hi' g') (hl:xsss.length≤1048576) (hr:∀r∈xsss,r.length≤1048576∧∀q∈r,q.length≤1048576) :
  Calls Tryz.prog 13 #[.agg g,.agg g'] w fun e w'=>e=.returned (.bool true)/\Old w w':=by
 obtain ⟨a0,cap0,rfl,o⟩:=h;obtain ⟨a1,cap1,rfl,o'⟩:=h';have HR:=Qaa o.rowT;have HK:=Qaa o'.rowT;have HRR:=Qaa hr;clear o o' hr;go_enter Tryz.func13,Tryz.ntmps13;go_wp2_with fail;refine (Qmi xsss _ _ _ (HR.out.old (((Old.refl w).alloc _).alloc _)) (HK.out.old (((Old.refl w).alloc _).alloc _)) hl HRR.out).mono ?_
 rintro e w1 ⟨rfl,g1⟩;have HG:=Qaa (Old.trans (((Old.refl w).alloc _).alloc _) g1);clear g1;go_wp2_with fail;go_ret;exact ⟨rfl,HG.out⟩
def Qjb:Int->List (List Int)->List (List Int)
 | _,[]=>[]
 | k,r :: rs=>marks k r.length :: Qjb (k+r.length) rs
theorem Qg4:∀(xss:List (List Int)) (k:Int),(Qjb k xss).length=xss.length
 | [],k=>rfl
 | r :: rs,k=>by
   show (Qjb (k+r.length) rs).length+1=rs.length+1
   rw [Qg4 rs]
theorem Qp8:∀(xss:List (List Int)) (k:Int) (j:Nat),j<xss.length->(Qjb k xss).getD j []=marks (k+Qco xss j) (xss.getD j []).length
 | [],k,j,h=>by simp at h
 | r :: rs,k,0,h=>by
   show marks k r.length=marks (k+((Qco (r :: rs) 0:Nat):Int)) _
   rw [Qhx];simp
 | r :: rs,k,j+1,h=>by
   have:=Qp8 rs (k+r.length) j (by simpa using h)
   show (Qjb (k+r.length) rs).getD j []=marks (k+((r.length+Qco rs j:Nat):Int)) (rs.getD j []).length
   rw [this]
   congr 1
   omega
def mkT:Int->List (List (List Int))->List (List (List Int))
 | _,[]=>[]
 | k,r :: rs=>Qjb k r :: mkT (k+Qco r r.length) rs
theorem Qka:∀(xsss:List (List (List Int))) (k:Int),(mkT k xsss).length=xsss.length
 | [],k=>rfl
 | r :: rs,k=>by
   show (mkT (k+Qco r r.length) rs).length+1=rs.length+1
   rw [Qka rs]
theorem Qtg:∀(xsss:List (List (List Int))) (k:Int) (j:Nat),j<xsss.length->(mkT k xsss).getD j []=Qjb (k+Qdr xsss j) (xsss.getD j [])
 | [],k,j,h=>by simp at h
 | r :: rs,k,0,h=>by
   show Qjb k r=Qjb (k+((Qdr (r :: rs) 0:Nat):Int)) _
   rw [Qhy];simp
 | r :: rs,k,j+1,h=>by
   have:=Qtg rs (k+Qco r r.length) j (by simpa using h)
   show (mkT (k+Qco r r.length) rs).getD j []=Qjb (k+((Qco r r.length+Qdr rs j:Nat):Int)) (rs.getD j [])
   rw [this]
   congr 1
   omega
structure ChB (w w':World) (B:Nat->Prop):Prop where
 os:w'.os=w.os
 tape:w'.tape=w.tape
 output:w'.output=w.output
 size:w.heap.size<=w'.heap.size
 block:∀b,b<w.heap.size->¬B b->w'.heap[b]? = w.heap[b]?
theorem ChB.refl (w:World) (B:Nat->Prop):ChB w w B:=⟨rfl,rfl,rfl,Nat.le_refl _,fun _ _ _=>rfl⟩
theorem ChB.trans {a b c:World} {B:Nat->Prop} (h:ChB a b B) (k:ChB b c B):ChB a c B:=
 ⟨k.os.trans h.os,k.tape.trans h.tape,k.output.trans h.output,Nat.le_trans h.size k.size,fun i hi ho=>(k.block i (Nat.lt_of_lt_of_le hi h.size) ho).trans (h.block i hi ho)⟩
theorem ChB.sub {w w':World} {B C:Nat->Prop} (h:ChB w w' B) (hs:∀b,B b->C b):ChB w w' C:=
 ⟨h.os,h.tape,h.output,h.size,fun b hb hn=>h.block b hb (fun hx=>hn (hs b hx))⟩
theorem ChB.chg {w w':World} {B:Nat->Prop} {lo hi:Nat} (h:ChB w w' B) (hb:∀b,B b->lo<=b/\b<hi):Chg w w' lo hi:=
 ⟨h.os,h.tape,h.output,h.size,fun b hl ho=>h.block b hl (fun hx=>by have:=hb b hx;omega)⟩
theorem ChB.by_ {w w':World} {B:Nat->Prop} {ob:Option Nat} (g:w.grownBy w' ob) (hb:∀b,ob=some b->B b):ChB w w' B:=
 ⟨g.os,g.tape,g.output,g.size,fun b hl ho=>g.block b hl (fun h=>ho (hb b h.symm))⟩
theorem Qoe (xss:List (List Int)) (v:Value) (k:Int) (B:Nat→Prop) (w:World) (hv:TSS xss w B [v]) (hl:xss.length≤1048576) (hr:∀r∈xss,r.length≤1048576) (hk:0≤k) (hs:k+(Qco xss xss.length:Int)≤1073741824) :
  Calls Tryz.prog 79 #[v,.int .i64 k] w fun e w'=>e=.returned (.int .i64 (k+Qco xss xss.length))/\ChB w w' B/\TSS (Qjb k xss) w' B [v]:=by
 rcases Nat.eq_zero_or_pos xss.length with h0 | h0
 ·obtain rfl:=List.length_eq_zero_iff.1 h0;have HF:Hid (TSS (Qjb k []) w B [v]):=hv;obtain ⟨a,c,rfl⟩:=TSS.slice hv;clear hv h0;go_enter Tryz.func79,Tryz.ntmps79;go_wp2_with fail
  go_loopw [5,1] (fun i l W=>i=.int .i64 0/\l=.int .i64 k/\W=w) (fun _ _ _=>0)
  case atStart=>exact ⟨rfl,rfl,rfl⟩
  case round=>
   obtain ⟨rfl,rfl,hW⟩:=hrel;obtain rfl:w=wr:=hW.symm;go_wp2_with fail;go_ret;exact ⟨by simp [Qco],ChB.refl w B,HF.out⟩
 rcases hv with ⟨h1,_,_⟩ | ⟨p,cap,vs,Bs,e,hc,hb⟩
 ·omega
 simp at e;subst e;have HR:=Qaa hr;have HS:=Qaa hs;have HBB:=Qaa (fun j b hj h=>(hb b).2 (.inr ⟨j,hj,h⟩));have HI:Hid (TSc 22 1 xss.length xss.length (fun q=>if q<0 then TI (marks (k+Qco xss q) (xss.getD q []).length) else TI (xss.getD q [])) w p cap vs Bs):=hc.ext (fun j _=>by simp)
 have HF:Hid (∀w',TSc 22 1 xss.length xss.length (fun q=>if q<xss.length then TI (marks (k+Qco xss q) (xss.getD q []).length) else TI (xss.getD q [])) w' p cap vs Bs->TSS (Qjb k xss) w' B [.slice (some ⟨p,0,none⟩) xss.length cap]):=fun w' h=>by
  refine .inr ⟨p,cap,vs,Bs,by rw [Qg4],?_,fun b=>by rw [Qg4];exact hb b⟩;rw [Qg4];exact h.ext (fun j hj=>by simp only [hj,if_true];rw [Qp8 xss k j hj])
 have HGD:Hid (∀n j,GoodT (if j<n then TI (marks (k+Qco xss j) (xss.getD j []).length) else TI (xss.getD j []))):=fun n j=>by
  split
  ·exact Qcr _
  ·exact Qcr _
 have HC0:=Qaa (ChB.refl w B);clear hc hb hr hs;go_enter Tryz.func79,Tryz.ntmps79;go_wp2_with fail
 go_loopw [5,1] (fun i l W=>∃j:Nat,j<=xss.length/\i=.int .i64 j/\l=.int .i64 (k+Qco xss j)/\Hid (TSc 22 1 xss.length xss.length (fun q=>if q<j then TI (marks (k+Qco xss q) (xss.getD q []).length) else TI (xss.getD q [])) W p cap vs Bs)/\Hid (ChB w W B)) (fun i _ _=>xss.length - (intOf i).toNat)
 case atStart=>exact ⟨0,by omega,rfl,by rw [Qhx];simp,HI,HC0⟩
 case round=>
  obtain ⟨j,hj,rfl,rfl,H1,HC⟩:=hrel;clear HI HC0
  by_cases hlt:j<xss.length
  ·have d1:decide ((j:Int)<(xss.length:Int))=true:=by simp;omega
   have hvl:vs.length=xss.length:=by have:=H1.out.row.1;omega
   have hel:=H1.out.el j hlt;simp only [Nat.lt_irrefl,if_false] at hel;rw [Qee (by omega)] at hel;obtain ⟨a',c',ex⟩:=hel.slice
   have hfit:(xss.getD j []).length<=c':=by
    obtain ⟨a3,c3,e3,_,f3,_⟩:=hel;simp at e3;rw [ex] at e3;simp at e3;rw [e3.2];exact f3
   rw [ex] at hel;have hbl:=hel.blocks
   have q1:wr.cell? ⟨p,j,none⟩=some (.slice a' (xss.getD j []).length c'):=by
    rw [World.ownsRow.cellAt H1.out.row j (by omega),<- ex];exact List.getElem?_eq_getElem _
   have hm:xss.getD j []∈xss:=by simp [List.getD,hlt]
   have hrl:=HR.out _ hm;have hoj:=Qtd xss (j+1);have hos:=Qmc xss j hlt;have hsum:=HS.out;have hkb:0<=k+(Qco xss j:Int)/\k+(Qco xss j:Int)<=1073741824:=by omega
   have HN4:Hid (k+(Qco xss (j+1):Int)=k+(Qco xss j:Int)+((xss.getD j []).length:Int)):=by show _ = _;rw [hos];omega
   have HX:Hid (∀w2,wr.grownBy w2 (Value.slice a' (xss.getD j []).length c').ownBlock->Own w2 0 (.slice a' (xss.getD j []).length c') (marks (k+Qco xss j) (xss.getD j []).length)->ChB w w2 B/\TSc 22 1 xss.length xss.length (fun q=>if q<j+1 then TI (marks (k+Qco xss q) (xss.getD q []).length) else TI (xss.getD q [])) w2 p cap vs Bs):=fun w2 gr o=>by
    refine ⟨HC.out.trans (ChB.by_ gr (fun b hb=>HBB.out j b hlt ((hbl b).2 hb))),(H1.out.sub (HGD.out j) j hlt (E':=TI (marks (k+Qco xss j) (xss.getD j []).length)) (fun b h1 h2=>gr.block b h1 (fun e=>h2 ((hbl b).2 e.symm))) ?_).ext (fun q hq=>?_)⟩
    ·rw [Qee (by omega),ex];refine ⟨a',c',by rw [Qb5],?_,?_,?_⟩
     ·rw [Qb5];exact o
     ·rw [Qb5];exact hfit
     ·rw [Qb5];exact hbl
    ·by_cases h1:q=j
     ·subst h1;simp
     ·by_cases h2:q<j
      ·have h3:q<j+1:=by omega
       simp [h1,h2,h3]
      ·have h3:¬q<j+1:=by omega
       simp [h1,h2,h3]
   have HOI:=Qaa (hel.own (fun b _=>Nat.zero_le _));clear hel ex hbl hfit H1 hos hoj hsum hm hvl;generalize hnn:(Qco xss (j+1))=nxt at *;generalize (Qco xss j:Nat)=off at *;generalize xss.getD j []=xs at *;have cm:=fun W (h:Own W 0 (.slice a' xs.length c') xs)=>Qdb xs _ (k+off) 0 W h (by omega) (by omega) (by omega)
   go_wp2_with fail;refine (cm _ HOI.out).mono ?_
   rintro e w2 ⟨rfl,g2,o2⟩;obtain ⟨n1,n2⟩:=HX.out w2 g2 o2;have N1:=Qaa n1;have N2:=Qaa n2;clear n1 n2 g2 o2 cm HX HOI;go_wp2_with fail;refine ⟨⟨j+1,by omega,by go_num,?_,N2,N1⟩,by simp [intOf];omega⟩;rw [hnn,HN4.out]
  ·have d1:decide ((j:Int)<(xss.length:Int))=false:=by simp;omega
   obtain rfl:j=xss.length:=by omega
   have HE:=Qaa (HF.out wr H1.out);clear H1 HF;go_wp2_with fail;go_ret;exact ⟨rfl,HC.out,HE.out⟩
theorem Qmj (xsss:List (List (List Int))) (v:Value) (k:Int) (B:Nat→Prop) (w:World) (hv:TTT xsss w B [v]) (hl:xsss.length≤1048576) (hr:∀r∈xsss,r.length≤1048576∧∀q∈r,q.length≤1048576) (hk:0≤k) (hs:k+(Qdr xsss xsss.length:Int)≤1073741824) :
  Calls Tryz.prog 40 #[v,.int .i64 k] w fun e w'=>e=.returned (.int .i64 (k+Qdr xsss xsss.length))/\ChB w w' B/\TTT (mkT k xsss) w' B [v]:=by
 rcases Nat.eq_zero_or_pos xsss.length with h0 | h0
 ·obtain rfl:=List.length_eq_zero_iff.1 h0;have HF:Hid (TTT (mkT k []) w B [v]):=hv;obtain ⟨a,c,rfl⟩:=(TTT.rowT hv).slice;clear hv h0;go_enter Tryz.func40,Tryz.ntmps40;go_wp2_with fail
  go_loopw [5,1] (fun i l W=>i=.int .i64 0/\l=.int .i64 k/\W=w) (fun _ _ _=>0)
  case atStart=>exact ⟨rfl,rfl,rfl⟩
  case round=>
   obtain ⟨rfl,rfl,hW⟩:=hrel;obtain rfl:w=wr:=hW.symm;go_wp2_with fail;go_ret;exact ⟨by simp [Qdr],ChB.refl w B,HF.out⟩
 rcases hv with ⟨h1,_,_⟩ | ⟨p,cap,vs,Bs,e,hc,hb⟩
 ·omega
 simp at e;subst e;have HR:=Qaa hr;have HS:=Qaa hs;have HBB:=Qaa (fun j b hj h=>(hb b).2 (.inr ⟨j,hj,h⟩));have HI:Hid (TSc 54 1 xsss.length xsss.length (fun q=>if q<0 then TSS (Qjb (k+Qdr xsss q) (xsss.getD q [])) else TSS (xsss.getD q [])) w p cap vs Bs):=hc.ext (fun j _=>by simp)
 have HF:Hid (∀w',TSc 54 1 xsss.length xsss.length (fun q=>if q<xsss.length then TSS (Qjb (k+Qdr xsss q) (xsss.getD q [])) else TSS (xsss.getD q [])) w' p cap vs Bs->TTT (mkT k xsss) w' B [.slice (some ⟨p,0,none⟩) xsss.length cap]):=fun w' h=>by
  refine .inr ⟨p,cap,vs,Bs,by rw [Qka],?_,fun b=>by rw [Qka];exact hb b⟩;rw [Qka];exact h.ext (fun j hj=>by simp only [hj,if_true];rw [Qtg xsss k j hj])
 have HGD:Hid (∀n j,GoodT (if j<n then TSS (Qjb (k+Qdr xsss j) (xsss.getD j [])) else TSS (xsss.getD j []))):=fun n j=>by
  split
  ·exact Qet _
  ·exact Qet _
 have HC0:=Qaa (ChB.refl w B);clear hc hb hr hs;go_enter Tryz.func40,Tryz.ntmps40;go_wp2_with fail
 go_loopw [5,1] (fun i l W=>∃j:Nat,j<=xsss.length/\i=.int .i64 j/\l=.int .i64 (k+Qdr xsss j)/\Hid (TSc 54 1 xsss.length xsss.length (fun q=>if q<j then TSS (Qjb (k+Qdr xsss q) (xsss.getD q [])) else TSS (xsss.getD q [])) W p cap vs Bs)/\Hid (ChB w W B)) (fun i _ _=>xsss.length - (intOf i).toNat)
 case atStart=>exact ⟨0,by omega,rfl,by rw [Qhy];simp,HI,HC0⟩
 case round=>
  obtain ⟨j,hj,rfl,rfl,H1,HC⟩:=hrel;clear HI HC0
  by_cases hlt:j<xsss.length
  ·have d1:decide ((j:Int)<(xsss.length:Int))=true:=by simp;omega
   have hvl:vs.length=xsss.length:=by have:=H1.out.row.1;omega
   have hel:=H1.out.el j hlt;simp only [Nat.lt_irrefl,if_false] at hel;rw [Qee (by omega)] at hel;obtain ⟨a',c',ex⟩:=TSS.slice hel;rw [ex] at hel
   have q1:wr.cell? ⟨p,j,none⟩=some (.slice a' (xsss.getD j []).length c'):=by
    rw [World.ownsRow.cellAt H1.out.row j (by omega),<- ex];exact List.getElem?_eq_getElem _
   have hm:xsss.getD j []∈xsss:=by simp [List.getD,hlt]
   have hrl:=HR.out _ hm;have hoj:=Qte xsss (j+1);have hos:=Qme xsss j hlt;have hsum:=HS.out;have hkb:0<=k+(Qdr xsss j:Int)/\k+(Qdr xsss j:Int)+(Qco (xsss.getD j []) (xsss.getD j []).length:Int)<=1073741824:=by omega
   have HN4:Hid (k+(Qdr xsss (j+1):Int)=k+(Qdr xsss j:Int)+(Qco (xsss.getD j []) (xsss.getD j []).length:Int)):=by show _ = _;rw [hos];omega
   have HX:Hid (∀w2,ChB wr w2 (Bs j)->TSS (Qjb (k+Qdr xsss j) (xsss.getD j [])) w2 (Bs j) [.slice a' (xsss.getD j []).length c']->ChB w w2 B/\TSc 54 1 xsss.length xsss.length (fun q=>if q<j+1 then TSS (Qjb (k+Qdr xsss q) (xsss.getD q [])) else TSS (xsss.getD q [])) w2 p cap vs Bs):=fun w2 gr o=>by
    refine ⟨HC.out.trans (gr.sub (fun b hb=>HBB.out j b hlt hb)),(H1.out.sub (HGD.out j) j hlt (E':=TSS (Qjb (k+Qdr xsss j) (xsss.getD j []))) (fun b h1 h2=>gr.block b h1 h2) ?_).ext (fun q hq=>?_)⟩
    ·rw [Qee (by omega),ex];exact o
    ·by_cases h1:q=j
     ·subst h1;simp
     ·by_cases h2:q<j
      ·have h3:q<j+1:=by omega
       simp [h1,h2,h3]
      ·have h3:¬q<j+1:=by omega
       simp [h1,h2,h3]
   have HOI:=Qaa hel;clear hel ex H1 hos hoj hsum hm hvl;generalize hnn:(Qdr xsss (j+1))=nxt at *;generalize (Qdr xsss j:Nat)=off at *;generalize xsss.getD j []=xss at *;have cm:=fun W (h:TSS xss W (Bs j) [.slice a' xss.length c'])=>Qoe xss _ (k+off) (Bs j) W h hrl.1 hrl.2 (by omega) (by omega)
   generalize Qco xss xss.length=ol at *;go_wp2_with fail;refine (cm _ HOI.out).mono ?_
   rintro e w2 ⟨rfl,g2,o2⟩;obtain ⟨n1,n2⟩:=HX.out w2 g2 o2;have N1:=Qaa n1;have N2:=Qaa n2;clear n1 n2 g2 o2 cm HX HOI;go_wp2_with fail;refine ⟨⟨j+1,by omega,by go_num,?_,N2,N1⟩,by simp [intOf];omega⟩;rw [hnn,HN4.out]
  ·have d1:decide ((j:Int)<(xsss.length:Int))=false:=by simp;omega
   obtain rfl:j=xsss.length:=by omega
   have HE:=Qaa (HF.out wr H1.out);clear H1 HF;go_wp2_with fail;go_ret;exact ⟨rfl,HC.out,HE.out⟩
def XCm (k:Int) (xsss:List (List (List Int))) (W:World) (lo hi:Nat) (g:Array Value):Prop:=∃a c,g=#[.slice a xsss.length c]/\Ows (TTT (mkT k xsss)) W lo hi [.slice a xsss.length c]
theorem Q0g (xsss:List (List (List Int))) (k:Int) (w:World) (lo hi:Nat) (g:Array Value) (h:XC xsss w lo hi g) (hl:xsss.length≤1048576) (hr:∀r∈xsss,r.length≤1048576∧∀q∈r,q.length≤1048576) (hk:0≤k) (hs:k+(Qdr xsss xsss.length:Int)≤1073741824) :
  Calls Tryz.prog 16 #[.agg g,.int .i64 k] w fun e w'=>e=.returned (.int .i64 (k+Qdr xsss xsss.length))/\Chg w w' lo hi/\XCm k xsss w' lo hi g:=by
 obtain ⟨a0,cap0,rfl,hh,B,hT,hB⟩:=h;have HO:Hid (TTT xsss (w.alloc (.cells #[.slice a0 xsss.length cap0] 35)) B [.slice a0 xsss.length cap0]):=(Qfp xsss).far hT (fun b hb=>((Old.refl w).alloc _).block b ((Qfp xsss).lt hT b hb));have HA:Hid (Chg w (w.alloc (.cells #[.slice a0 xsss.length cap0] 35)) lo hi):=((Old.refl w).alloc _).toChg lo hi;have HR:=Qaa hr;have HS:=Qaa hs;have HB:=Qaa hB;clear hT hr hs hB;go_enter Tryz.func16,Tryz.ntmps16;go_wp2_with fail;refine (Qmj xsss _ k B _ HO.out hl HR.out hk HS.out).mono ?_
 rintro e w1 ⟨rfl,g1,o1⟩;have HG:=Qaa (Chg.trans HA.out (g1.chg HB.out));have HM:Hid (XCm k xsss w1 lo hi #[.slice a0 xsss.length cap0]):=⟨a0,cap0,rfl,Nat.le_trans hh HG.out.size,B,o1,HB.out⟩;clear g1 o1;go_wp2_with fail;go_ret;exact ⟨rfl,HG.out,HM.out⟩
end Go.Proofs.YthcidnnkakppcaaGreatDoor
namespace Go.Proofs.YthcidnnkakppcaaGreatDoor
open Go.ChangeShapes Go.WideShapes Go.ChangeAt Go.RowKit
open M1
def rwA (N:Int) (ps:List Int) (xss:List (List Int)) (k:Nat):Bool:=decide (∀i,i<ps.length->k<=i->Qcs (ps.getD i 0) N (xss.getD i [])=true)
theorem Qth {N:Int} {ps:List Int} {xss:List (List Int)} {k:Nat} (h:ps.length<=k):rwA N ps xss k=true:=decide_eq_true (fun i h1 h2=>by omega)
theorem Qyg {N:Int} {ps:List Int} {xss:List (List Int)} {k:Nat} (h:k<ps.length) (hk:Qcs (ps.getD k 0) N (xss.getD k [])=false):rwA N ps xss k=false:=
 decide_eq_false (fun f=>by rw [f k h (Nat.le_refl _)] at hk;cases hk)
theorem Qti {N:Int} {ps:List Int} {xss:List (List Int)} {k:Nat} (hk:Qcs (ps.getD k 0) N (xss.getD k [])=true):rwA N ps xss k=rwA N ps xss (k+1):=by
 unfold rwA;apply decide_eq_decide.2;constructor
 ·exact fun f i h1 h2=>f i h1 (by omega)
 ·intro f i h1 h2;rcases Nat.eq_or_lt_of_le h2 with e | e
  ·subst e;exact hk
  ·exact f i h1 e
def rwB (N:Int) (ps:List Int) (xss:List (List Int)):Bool:=decide (xss.length=ps.length)&&rwA N ps xss 0
theorem Qof (N:Int) (ps:List Int) (xss:List (List Int)) (v u:Value) (w:World) (hv:Row w v ps) (hu:Qdq w u xss) (hl:xss.length≤1048576) (hr:∀r∈xss,r.length≤1048576) (hs:spB N ps=true) :
  Calls Tryz.prog 45 #[.agg #[.int .i64 N,v],u] w fun e w'=>e=.returned (.bool (rwB N ps xss))/\Old w w':=by
 obtain ⟨hz,hbb,hring⟩:=Qdm hs;have hlen:=(Qdc hbb).1;have HPM:=Qaa ((Qdc hbb).2);have HR:=Qaa hr;obtain ⟨a0,cap0,ev⟩:=hv.slice;obtain ⟨a1,cap1,eu⟩:=hu.slice;subst ev eu;have HV:=Qaa hv;have HU:=Qaa hu;clear hv hu hr hring hbb hz hs
 by_cases hn:xss.length=ps.length
 ·have HB:Hid (rwA N ps xss 0=rwB N ps xss):=by show _ = _;unfold rwB;rw [decide_eq_true hn];rfl
  have dn:((xss.length:Int) != (ps.length:Int))=false:=by simp;omega
  generalize rwB N ps xss=B at *;rcases HV.out with ⟨a,cap,e,e2⟩ | ⟨b,o,cap,e,hb,h1,hc⟩
  ·subst e2;simp at hlen
  simp only [Value.slice.injEq,true_and] at e;obtain ⟨rfl,rfl⟩:=e;rcases HU.out with ⟨a,cap,e,e2⟩ | ⟨b',o',cap,us,e,hb',h1',hc'⟩
  ·subst e2;simp at hn;omega
  simp only [Value.slice.injEq,true_and] at e;obtain ⟨rfl,rfl⟩:=e;have HC:=Qaa hc;have HC':=Qaa hc';have HNN:=Qaa hn;clear hc hc' hn;have HN:Hid (Old w (w.alloc (.cells #[.int .i64 N,.slice (some ⟨b,o,none⟩) ps.length cap0] 52))):=(Old.refl w).alloc _;go_enter Tryz.func45,Tryz.ntmps45;go_wp2_with fail
  go_loopw [16] (fun i W=>∃k:Nat,k<=ps.length/\i=.int .i64 k/\Hid (rwA N ps xss k=B)/\Hid (Old (w.alloc (.cells #[.int .i64 N,.slice (some ⟨b,o,none⟩) ps.length cap0] 52)) W)) (fun i _=>ps.length - (intOf i).toNat)
  case atStart=>exact ⟨0,by omega,rfl,HB,Old.refl _⟩
  case round=>
   obtain ⟨k,hk,rfl,H1,HG⟩:=hrel;clear HB;have HGw:=Qaa (Old.trans HN.out HG.out);have hsw:w.heap.size<wr.heap.size:=by have:=HG.out.size;simp at this;omega
   by_cases hlt:k<ps.length
   ·have hx:=HNN.out;have hkx:k<xss.length:=by omega
    have c1:=(HGw.out.cell (p:=⟨b,o+k,none⟩) hb).trans (HC.out k hlt);obtain ⟨c2,r2⟩:=HC'.out k hkx;obtain ⟨x1,y1,e1⟩:=r2.slice;rw [e1] at c2 r2;have hp:=Qs8 (HPM.out k hlt);have hm:xss.getD k []∈xss:=by simp [List.getD,hkx]
    have hrl:=HR.out _ hm;have c3:=(HGw.out.cell (p:=⟨b',o'+k,none⟩) hb').trans c2;have R3:=Qaa (r2.old HGw.out);have s0:wr.cell? ⟨w.heap.size,0,none⟩=some (.int .i64 N):=(HG.out.cell (p:=⟨w.heap.size,0,none⟩) (by simp)).trans (Qad _ _ _ _ _ rfl)
    have HY:=Qaa (fun h=>by have:=H1.out;rw [Qti h] at this;exact this);have HNo:=Qaa (fun h=>by have:=H1.out;rw [Qyg hlt h] at this;exact this);generalize xss.getD k []=xs at *;generalize ps.getD k 0=p at *;have cp:=fun W (h:Row W (.slice x1 xs.length y1) xs)=>Qta p N 0 xs _ W h (by omega) hp
    obtain ⟨q,hq⟩:∃q,Qcs p N xs=q:=⟨_,rfl⟩
    rw [hq] at cp HY HNo;have hbr':=Nat.lt_of_lt_of_le hb' HGw.out.size;have HAS:Hid (∀W':World,Old wr W'->(W'.cell? ⟨w.heap.size,0,none⟩=some (.int .i64 N)/\W'.cell? ⟨b',o'+k,none⟩=some (.slice x1 xs.length y1))):=fun W' g=>⟨(g.cell (p:=⟨w.heap.size,0,none⟩) hsw).trans s0,(g.cell (p:=⟨b',o'+k,none⟩) hbr').trans c3⟩
    clear H1 c2 r2 e1 hm hq hx
    cases q
    ·have H3:=Qaa (HNo.out rfl);clear HY HNo;go_wp2_with fail
     go_region_held3 (fun W'=>W'.cell? ⟨w.heap.size,0,none⟩=some (.int .i64 N)/\W'.cell? ⟨b',o'+k,none⟩=some (.slice x1 xs.length y1)) (first | with_reducible exact HAS.out _ GE.out | with_reducible exact HAS.out _ (Below.drew (Old.refl wr)) | with_reducible exact HAS.out _ (Old.refl wr)) (first
      | (go_at_call 82;refine (cp _ (R3.out.old (Below.drew (Old.refl wr)))).mono ?_;rintro e w2 ⟨rfl,ge⟩;have GE:=Qaa (Old.trans (Below.drew (Old.refl wr)) ge);clear ge)
      | fail)
     have HG2:=Qaa (Old.trans HGw.out GE.out);go_wp2_with fail;go_ret;exact ⟨Qa9 H3.out,HG2.out⟩
    ·have H3:=Qaa (HY.out rfl);clear HY HNo;go_wp2_with fail
     go_region_held3 (fun W'=>W'.cell? ⟨w.heap.size,0,none⟩=some (.int .i64 N)/\W'.cell? ⟨b',o'+k,none⟩=some (.slice x1 xs.length y1)) (first | with_reducible exact HAS.out _ GE.out | with_reducible exact HAS.out _ (Below.drew (Old.refl wr)) | with_reducible exact HAS.out _ (Old.refl wr)) (first
      | (go_at_call 82;refine (cp _ (R3.out.old (Below.drew (Old.refl wr)))).mono ?_;rintro e w2 ⟨rfl,ge⟩;have GE:=Qaa (Old.trans (Below.drew (Old.refl wr)) ge);clear ge)
      | fail)
     have HG2:=Qaa (Old.trans HG.out GE.out);go_wp2_with fail;exact ⟨⟨k+1,by omega,by go_num,H3,HG2⟩,by simp [intOf];omega⟩
   ·have H2:Hid (true=B):=by have:=H1.out;rw [Qth (by omega)] at this;exact this
    clear H1;go_wp2_with fail;go_ret;exact ⟨Qa9 H2.out,HGw.out⟩
 ·have HB:Hid (false=rwB N ps xss):=by show _ = _;unfold rwB;rw [decide_eq_false hn];rfl
  have dn:((xss.length:Int) != (ps.length:Int))=true:=by simp;omega
  generalize rwB N ps xss=B at *;clear hn;go_enter Tryz.func45,Tryz.ntmps45;go_wp2_with fail;go_ret;exact ⟨Qa9 HB.out,(Old.refl w).alloc _⟩
theorem Qtj (yss:List (List Int)) (r:List Int) (j:Nat) (h:j<yss.length):(yss++[r]).getD j []=yss.getD j []:=by
 simp [List.getD,List.getElem?_append_left h]
theorem Qtk (yss:List (List Int)) (r:List Int):(yss++[r]).getD yss.length []=r:=by
 simp [List.getD]
theorem OwS.app {yss:List (List Int)} {wr W:World} {lo:Nat} {x:Value} {r:List Int} {a:Option Addr} {c:Nat} (h:OwS yss wr lo wr.heap.size x) (hlo:lo≤wr.heap.size) (g:Old wr W) (o:Own W wr.heap.size (.slice a r.length c) r) (hc:r.length≤c) :
  ∃vs,W.ownsRow lo 22 1 x yss.length vs/\(∀v' w',w'.ownsRow lo 22 1 v' (yss.length+1) (vs++[.slice a r.length c])->W.grownBy w' x.ownBlock->(v'.ownBlock=x.ownBlock∨v'.ownBlock=some W.heap.size)->OwS (yss++[r]) w' lo w'.heap.size v'):=by
 have key:∃vs:List Value,W.ownsRow lo 22 1 x yss.length vs∧vs.length=yss.length∧(∀p,x.ownBlock=some p→p<wr.heap.size)
   /\(∀j,j<yss.length->∃a c,vs[j]? = some (.slice a (yss.getD j []).length c)/\(yss.getD j []).length<=c/\Own wr lo (.slice a (yss.getD j []).length c) (yss.getD j [])/\(∀b,(Value.slice a (yss.getD j []).length c).ownBlock=some b->x.ownBlock≠some b))
   /\(∀(i j:Nat) (x y:Value) (b:Nat),i<j->vs[i]? = some x->vs[j]? = some y->x.ownBlock=some b->y.ownBlock=some b->False):=by
  obtain ⟨hh,⟨e,e2⟩ | ⟨p,cap,vs,e,hcap,hl,hhi,ho,hvl,hj,hd⟩⟩:=h
  ·subst e e2;refine ⟨[],⟨rfl,Or.inl ⟨rfl,rfl⟩⟩,rfl,(fun p hp=>by cases hp),(fun j hj=>by simp at hj),(fun i j x y b hij hx=>by simp at hx)⟩
  ·subst e;refine ⟨vs,?_,hvl,fun q hq=>?_,fun j hjl=>?_,hd⟩
   ·refine ⟨ho.1,?_⟩;rcases ho.2 with ⟨hn,_⟩ | ⟨p',cap',cur,e',hb',hgg,rest⟩
    ·cases hn
    ·refine .inr ⟨p',cap',cur,e',hb',?_,rest⟩;rw [g.block p' (Array.getElem?_eq_some_iff.1 hgg).1];exact hgg
   ·simp only [Value.ownBlock,Option.some.injEq] at hq;omega
   ·obtain ⟨a2,c2,e3,hc2,oj,hb2⟩:=hj j hjl;refine ⟨a2,c2,e3,hc2,oj.1,fun b hb hx=>hb2 b hb ?_⟩;simp only [Value.ownBlock,Option.some.injEq] at hx;exact hx.symm
 obtain ⟨vs,ho,hvl,hp,hj,hd⟩:=key;refine ⟨vs,ho,fun v' w' ho' gr hv'=>?_⟩;have hsz:=g.size
 have hrow:∀j,j<yss.length->∃a c,vs[j]? = some (.slice a (yss.getD j []).length c)/\(yss.getD j []).length<=c/\Own w' lo (.slice a (yss.getD j []).length c) (yss.getD j [])/\(∀b,(Value.slice a (yss.getD j []).length c).ownBlock=some b->b<wr.heap.size/\v'.ownBlock≠some b):=fun j hjl=>by
  obtain ⟨a2,c2,e3,hc2,oj,hb2⟩:=hj j hjl;refine ⟨a2,c2,e3,hc2,Own.by_ (oj.old g) gr (fun q y hx hy hxy=>?_),fun b hb=>⟨(oj.lt b hb).2,fun hx=>?_⟩⟩
  ·subst hxy;exact hb2 q hx hy
  ·rcases hv' with e | e
   ·exact hb2 b hb (e.symm.trans hx)
   ·rw [e] at hx;have:=(oj.lt b hb).2;simp only [Option.some.injEq] at hx;omega
 have hnew:=Own.low (Own.by_ o gr (fun q y hx hy hxy=>by
  subst hxy;have h1:=(o.lt q hx).1;have h2:=hp q hy;omega)) hlo
 have hnewb:∀b,(Value.slice a r.length c).ownBlock=some b->wr.heap.size<=b/\b<W.heap.size/\v'.ownBlock≠some b:=fun b hb=>by
  obtain ⟨h1,h2⟩:=o.lt b hb;refine ⟨h1,h2,fun hx=>?_⟩;rcases hv' with e | e
  ·have:=hp b (e.symm.trans hx);omega
  ·rw [e] at hx;simp only [Option.some.injEq] at hx;omega
 have ho2:=ho';rcases ho'.2 with ⟨_,h0⟩ | ⟨p',cap',cur,e',hb',hgg,hnc,rest⟩
 ·omega
 subst e';have hlt':=(Array.getElem?_eq_some_iff.1 hgg).1;refine ⟨Nat.le_refl _,Or.inr ⟨p',cap',vs++[.slice a r.length c],by simp,by simpa using hnc,hb',hlt',by simpa using ho2,by simp [hvl],fun j hjl=>?_,fun i j x y b hij hx hy hbx hby=>?_⟩⟩
 ·simp at hjl;rcases Nat.lt_or_ge j yss.length with h1 | h1
  ·rw [Qtj yss r j h1];obtain ⟨a2,c2,e3,hc2,oj,hb2⟩:=hrow j h1;refine ⟨a2,c2,by rw [List.getElem?_append_left (by omega)];exact e3,hc2,⟨oj,Nat.le_refl _,fun b hb=>(oj.lt b hb).2⟩,fun b hb hx=>(hb2 b hb).2 ?_⟩;rw [hx];rfl
  ·obtain rfl:j=yss.length:=by omega
   rw [Qtk yss r];refine ⟨a,c,by rw [<- hvl];simp,hc,⟨hnew,Nat.le_refl _,fun b hb=>(hnew.lt b hb).2⟩,fun b hb hx=>(hnewb b hb).2.2 ?_⟩;rw [hx];rfl
 ·have hjl:j<vs.length+1:=by
   have:=(List.getElem?_eq_some_iff.1 hy).1
   simpa using this
  rcases Nat.lt_or_ge j vs.length with h1 | h1
  ·rw [List.getElem?_append_left (by omega)] at hx hy;exact hd i j x y b hij hx hy hbx hby
  ·obtain rfl:j=vs.length:=by omega
   rw [List.getElem?_append_left (by omega)] at hx;simp at hy;subst hy;obtain ⟨a2,c2,e3,hc2,oj,hb2⟩:=hrow i (by omega);rw [e3] at hx;obtain rfl:=Option.some.inj hx;have h3:=(hb2 b hbx).1;have h4:=(hnewb b hby).1;omega
def Qef (f:Int->Int->Int->Int) (p:Int) (xs ys:List Int):List Int:=(List.range xs.length).map fun i=>f p (xs.getD i 0) (ys.getD i 0)
def Qcb (f:Int->Int->Int->Int) (ps:List Int) (xss yss:List (List Int)):List (List Int):=(List.range ps.length).map fun k=>Qef f (ps.getD k 0) (xss.getD k []) (yss.getD k [])
theorem Qfq (f:Int->Int->Int->Int) (p:Int) (xs ys:List Int):(Qef f p xs ys).length=xs.length:=by simp [Qef]
theorem Qhz (f:Int->Int->Int->Int) (p:Int) (xs ys:List Int) (i:Nat) (h:i<xs.length):(Qef f p xs ys).getD i 0=f p (xs.getD i 0) (ys.getD i 0):=by simp [Qef,List.getD,h]
theorem Qcp (f:Int->Int->Int->Int) (ps:List Int) (xss yss:List (List Int)):(Qcb f ps xss yss).length=ps.length:=by simp [Qcb]
theorem Qc6 (f:Int->Int->Int->Int) (ps:List Int) (xss yss:List (List Int)) (k:Nat) (h:k<ps.length):(Qcb f ps xss yss).getD k []=Qef f (ps.getD k 0) (xss.getD k []) (yss.getD k []):=by simp [Qcb,List.getD,h]
theorem Qga (xs:List (List Int)) (k:Nat) (h:k<xs.length):xs.take (k+1)=xs.take k++[xs.getD k []]:=by
 rw [List.take_add_one];simp [List.getD,h]
def Qdd (p x y:Int):Int:=(x+y)%p
end Go.Proofs.YthcidnnkakppcaaGreatDoor
namespace Go.Proofs.YthcidnnkakppcaaGreatDoor
open Go.ChangeShapes Go.WideShapes Go.ChangeAt Go.RowKit
theorem Row.recap {W:World} {a:Option Addr} {n c c':Nat} {xs:List Int} (h:Row W (.slice a n c) xs) (h0:xs≠[]):Row W (.slice a n c') xs:=by
 rcases h with ⟨_,_,e,e'⟩ | ⟨b,o,cap,e,r⟩
 ·exact absurd e' h0
 ·simp only [Value.slice.injEq] at e;obtain ⟨rfl,rfl,rfl⟩:=e;exact Or.inr ⟨b,o,c',rfl,r⟩
def Q2p (w:World) (v:Value) (bs:List Bool) (xss:List (List Int)):Prop:=
 bs.length=xss.length/\((∃a cap,v=.slice a 0 cap/\xss=[])∨∃b o cap,∃us:Nat->Value,v=.slice (some ⟨b,o,none⟩) xss.length cap/\b<w.heap.size/\0<xss.length/\∀j,j<xss.length->w.cell? ⟨b,o+j*2,none⟩=some (.bool (bs.getD j false))/\w.cell? ⟨b,o+j*2+1,none⟩=some (us j)/\Row w (us j) (xss.getD j []))
abbrev elW (bs:List Bool) (xss:List (List Int)):Nat->Qba:=fun j=>TB (bs.getD j false) (TI (xss.getD j []))
theorem Qp9 (bs:List Bool) (xss:List (List Int)) (j:Nat):GoodT (elW bs xss j):=Qso _ (Qcr _)
theorem TB.two {s:Bool} {E:Qba} {W:World} {B:Nat->Prop} {cs:List Value} (h:TB s E W B cs):∃x,cs[0]? = some (.bool s)/\cs[1]? = some x/\E W B [x]:=by
 obtain ⟨x,rfl,h⟩:=h;exact ⟨x,rfl,rfl,h⟩
theorem Qtl {m k:Nat} {vs:List Value} (h:vs.length=m*2) (hk:k<m) (x y:Value):Qaz 2 ((vs.set (k*2+0) x).set (k*2+1) y) k=[x,y]:=by
 have hl:=Qbe (n:=2) h k hk;rw [Qbl 2 _ k 1 k y (by omega),if_pos rfl,Qbl 2 _ k 0 k x (by omega),if_pos rfl]
 match Qaz 2 vs k,hl with
 | [a,b],_=>rfl
theorem TSc.store2 {T:TypeId} {m k:Nat} {Es:Nat→Qba} {W:World} {p cap:Nat} {vs:List Value} {Bs:Nat→Nat→Prop} {B:Nat→Prop} (g:∀j,GoodT (Es j)) (h:TSc T 2 m k Es W p cap vs Bs) (hk:k<m) (x y:Value)
  (he:∀W':World,(∀b,b≠p->W'.heap[b]? = W.heap[b]?)->Es k W' B [x,y]) (hp:¬B p) (hd:∀j,j<k->∀b,Bs j b->B b->False) :
  ∃vs',TSc T 2 m (k+1) Es ((W.setCell ⟨p,k*2,none⟩ x).setCell ⟨p,k*2+1,none⟩ y) p cap vs' (fun q=>if q=k then B else Bs q):=by
 have h1:=h.fill g 0 (by omega) x;have h2:=h1.fill g 1 (by omega) y;refine ⟨_,h2.more (B:=B) ?_ hp hd⟩;rw [Qtl h.row.1 hk x y];refine he _ (fun b hb=>?_);rw [heap_setCell_other _ _ _ _ hb];exact heap_setCell_other _ _ _ _ hb
theorem Tryz.infoWhole:(Tryz.prog.info? 65).map (fun i=>(i.zero,i.size,i.bytes))=some (some (.agg #[.bool false,.slice none 0 0]),2,32):=by kernel_rfl
end Go.Proofs.YthcidnnkakppcaaGreatDoor
