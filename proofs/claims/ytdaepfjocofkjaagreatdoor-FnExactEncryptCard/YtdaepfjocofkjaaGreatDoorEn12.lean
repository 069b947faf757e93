/- Proved: what its theorems say. -/
import Derived.Test.YtdaepfjocofkjaaGreatDoorEn02
import Derived.Test.YtdaepfjocofkjaaGreatDoorEn10
import Derived.Deep.RegionHeld3
set_option linter.unusedVariables false
set_option linter.unusedSimpArgs false
set_option maxHeartbeats 4000000
set_option maxRecDepth 100000
namespace Go.Proofs.YtdaepfjocofkjaaGreatDoor
open Go.ChangeShapes Go.WideShapes Go.ChangeAt Go.RowKit
def Qci (w:World) (v:Value) (xss:List (List Int)):Prop:=
 (∃a cap,v=.slice a 0 cap/\xss=[])∨∃b o cap,∃us:Nat->Value,v=.slice (some ⟨b,o,none⟩) xss.length cap/\b<w.heap.size/\0<xss.length/\∀j,j<xss.length->w.cell? ⟨b,o+j,none⟩=some (us j)/\Row w (us j) (xss.getD j [])
theorem Qci.old {w w':World} {v:Value} {xss:List (List Int)} (h:Qci w v xss) (g:Old w w'):Qci w' v xss:=by
 rcases h with h1 | ⟨b,o,cap,us,e,hb,h0,hc⟩
 ·exact Or.inl h1
 ·exact Or.inr ⟨b,o,cap,us,e,Nat.lt_of_lt_of_le hb g.size,h0,fun j hj=>⟨(g.cell (p:=⟨b,o+j,none⟩) hb).trans (hc j hj).1,(hc j hj).2.old g⟩⟩
theorem Qci.slice {w:World} {v:Value} {xss:List (List Int)} (h:Qci w v xss):∃a cap,v=.slice a xss.length cap:=by
 rcases h with ⟨a,cap,e,e2⟩ | ⟨b,o,cap,us,e,_⟩
 ·exact ⟨a,cap,by rw [e,e2];rfl⟩
 ·exact ⟨_,cap,e⟩
def Qd6:Int->List (List Int)->Int
 | left,[]=>left
 | left,r :: rs=>if Qdk left r.length<0 then -1 else Qd6 (Qdk left r.length) rs
def Qa7 (left:Int) (xss:List (List Int)):Int:=if left<(xss.length:Int) then -1 else Qd6 (left - xss.length) xss
theorem Qp4:∀(xss:List (List Int)) (left:Int),0<=left->¬Qd6 left xss<0->0<=Qd6 left xss/\Qd6 left xss<=left/\∀r∈xss,(r.length:Int)<=left
 | [],left,h0,h=>⟨h0,Int.le_refl _,by simp⟩
 | r :: rs,left,h0,h=>by
   unfold Qd6 at h ⊢
   by_cases hr:Qdk left r.length<0
   ·rw [if_pos hr] at h;omega
   ·rw [if_neg hr] at h ⊢;obtain ⟨q1,q2,q3⟩:=Qfm hr h0;obtain ⟨p1,p2,p3⟩:=Qp4 rs _ q3 h;refine ⟨p1,by omega,fun x hx=>?_⟩;rcases List.mem_cons.1 hx with rfl | hx
    ·exact q1
    ·have:=p3 x hx;omega
theorem Qh2 {xss:List (List Int)} {left:Int} (h0:0<=left) (h:¬Qa7 left xss<0):0<=Qa7 left xss/\Qa7 left xss<=left/\(xss.length:Int)<=left/\∀r∈xss,(r.length:Int)<=left:=by
 unfold Qa7 at h ⊢
 by_cases hr:left<(xss.length:Int)
 ·rw [if_pos hr] at h;omega
 ·rw [if_neg hr] at h ⊢;obtain ⟨p1,p2,p3⟩:=Qp4 xss _ (by omega) h;exact ⟨p1,by omega,by omega,fun r hr=>by have:=p3 r hr;omega⟩
theorem Qsq (xss:List (List Int)) (k:Nat) (h:k<xss.length):xss.drop k=xss.getD k [] :: xss.drop (k+1):=by
 rw [List.drop_eq_getElem_cons h];simp [List.getD,h]
theorem Qsr {a b:Int} (h:a=b):Ending.returned (.int .i64 a)=.returned (.int .i64 b):=by rw [h]
theorem Qh3 (xss:List (List Int)) (v:Value) (left:Int) (w:World) (hv:Qci w v xss) (hl:xss.length<=9223372036854775807) (hr:∀r∈xss,r.length<=9223372036854775807) (h0:0<=left) (h1:left<=1048576) :
 Calls Tryz.prog 21 #[v,.int .i64 left] w fun e w'=>e=.returned (.int .i64 (Qa7 left xss))/\Old w w':=by
 obtain ⟨a0,cap0,ev⟩:=hv.slice;subst ev
 by_cases hb:left<(xss.length:Int)
 ·have d:decide (left - (xss.length:Int)<0)=true:=by simp;omega
  have HB:Hid (Qa7 left xss = -1):=by show _ = _;unfold Qa7;rw [if_pos hb]
  clear hv hr hb;go_enter Tryz.func21,Tryz.ntmps21;go_wp2_with fail;go_ret;exact ⟨Qsr HB.out.symm,Old.refl _⟩
 ·have d:decide (left - (xss.length:Int)<0)=false:=by simp;omega
  have HB:Hid (Qd6 (left - xss.length) (xss.drop 0)=Qa7 left xss):=by show _ = _;unfold Qa7;rw [if_neg hb];rfl
  have hl2:0<=left - (xss.length:Int)/\left - (xss.length:Int)<=1048576:=by omega
  generalize Qa7 left xss=R at *;have HR:=Qaa hr;have HV:=Qaa hv;clear hv hr;go_enter Tryz.func21,Tryz.ntmps21;go_wp2_with fail
  go_loopw [5,1] (fun i l W=>∃(k:Nat) (z:Int),k<=xss.length/\i=.int .i64 k/\l=.int .i64 z/\0<=z/\z<=1048576/\Hid (Qd6 z (xss.drop k)=R)/\W=w) (fun i _ _=>xss.length - (intOf i).toNat)
  case atStart=>exact ⟨0,left - xss.length,by omega,rfl,rfl,by omega,by omega,HB,rfl⟩
  case round=>
   obtain ⟨k,z,hk,rfl,rfl,z0,z1,H1,hW⟩:=hrel;obtain rfl:w=wr:=hW.symm;clear HB d hW
   by_cases hlt:k<xss.length
   ·have d1:decide ((k:Int)<(xss.length:Int))=true:=by simp;omega
    rcases HV.out with ⟨a,cap,e,e2⟩ | ⟨b,o,cap,us,e,hb2,h3,hc⟩
    ·subst e2;simp at hlt
    simp only [Value.slice.injEq,true_and] at e;obtain ⟨rfl,rfl⟩:=e;obtain ⟨c1,r1⟩:=hc k hlt;obtain ⟨a1,cap1,e1⟩:=r1.slice;rw [e1] at c1;have hm:xss.getD k []∈xss:=by simp [List.getD,hlt]
    have hrl:=HR.out _ hm
    have H2:Hid ((if Qdk z (xss.getD k []).length<0 then -1 else Qd6 (Qdk z (xss.getD k []).length) (xss.drop (k+1)))=R):=by
     have:=H1.out;rw [Qsq xss k hlt] at this;unfold Qd6 at this;exact this
    have cz:=fun W=>Qgg a1 (xss.getD k []).length cap1 z W hrl z0 z1
    clear hc r1 e1 H1 hm;generalize (xss.getD k []).length=m at *
    by_cases hz:Qdk z m<0
    ·have H3:Hid (-1=R):=by have:=H2.out;rw [if_pos hz] at this;exact this
     have hz2:z<(m:Int):=by
      unfold Qdk at hz;split at hz
      ·assumption
      ·omega
     rw [if_pos hz2] at cz;clear H2 hz hz2;go_wp2_with fail;refine (cz _).mono ?_
     rintro e w1 ⟨rfl,hw1⟩;obtain rfl:w=w1:=hw1.symm;go_wp2_with fail;go_ret;exact ⟨Qsr H3.out,Old.refl _⟩
    ·have H3:Hid (Qd6 (Qdk z m) (xss.drop (k+1))=R):=by have:=H2.out;rw [if_neg hz] at this;exact this
     obtain ⟨q1,q2,q3⟩:=Qfm hz z0;rw [q2] at H3 q3;rw [if_neg (by omega)] at cz;have d2:decide (z - (m:Int)<0)=false:=by simp;omega
     clear H2 hz q2;go_wp2_with fail;refine (cz _).mono ?_
     rintro e w1 ⟨rfl,hw1⟩;obtain rfl:w=w1:=hw1.symm;go_wp2_with fail;exact ⟨⟨k+1,z - m,by omega,by go_num,rfl,by omega,by omega,H3,by first | rfl | trivial⟩,by simp [intOf];omega⟩
   ·have H2:Hid (z=R):=by
     have:=H1.out;rw [List.drop_eq_nil_of_le (by omega)] at this;unfold Qd6 at this;exact this
    clear H1;go_wp2_with fail;go_ret;exact ⟨Qsr H2.out,Old.refl _⟩
theorem Tryz.infoInts:(Tryz.prog.info? 22).map (fun i=>(i.zero,i.size,i.bytes))=some (some (.slice none 0 0),1,24):=by kernel_rfl
def OwS (xss:List (List Int)) (W:World) (lo hi:Nat) (v:Value):Prop:=
 hi<=W.heap.size/\((v=.slice none 0 0/\xss=[])∨∃(p cap:Nat) (vs:List Value),v=.slice (some ⟨p,0,none⟩) xss.length cap/\xss.length<=cap/\lo<=p/\p<hi/\W.ownsRow lo 22 1 (.slice (some ⟨p,0,none⟩) xss.length cap) xss.length vs/\vs.length=xss.length
  /\(∀j,j<xss.length->∃a c,vs[j]? = some (.slice a (xss.getD j []).length c)/\(xss.getD j []).length<=c/\OwI (xss.getD j []) W lo hi (.slice a (xss.getD j []).length c)/\(∀b,(Value.slice a (xss.getD j []).length c).ownBlock=some b->b≠p))
  /\(∀(i j:Nat) (x y:Value) (b:Nat),i<j->vs[i]? = some x->vs[j]? = some y->x.ownBlock=some b->y.ownBlock=some b->False))
theorem Qh4 (xss:List (List Int)) (v:Value) (w:World) (hv:Qci w v xss) (hl:xss.length<=1048576) (hr:∀r∈xss,r.length<=1048576) :
 Calls Tryz.prog 33 #[v] w fun e w'=>∃v',e=.returned v'/\Old w w'/\OwS xss w' w.heap.size w'.heap.size v'/\∃a c,v'=.slice a xss.length c:=by
 obtain ⟨i0,hi,hz0,hz1,hz2⟩:=info_parts Tryz.infoInts;obtain ⟨a0,cap0,ev⟩:=hv.slice;subst ev;have HR:=Qaa hr;have HV:=Qaa hv;clear hv hr;go_enter Tryz.func33,Tryz.ntmps33;go_wp2_with (at_make;refine wpList_make_full _ rfl _ _ 25 rfl w.heap.size 22 i0 (.slice none 0 0) 1 Tryz.underlying25 hi hz0 hz1 .i64 .i64 _ _ xss.length rfl rfl rfl rfl (by rw [hz2];omega) (by unfold maxLen;omega) (Nat.le_refl _) ?_;intro w1 hown hgrow)
 have hmade:(madeCells (Value.slice none 0 0).cells (xss.length*1)).toList=List.replicate xss.length (Value.slice none 0 0):=by
  rw [Nat.mul_one];exact toList_madeCells_one (.slice none 0 0) xss.length
 rw [hmade] at hown;have HO:=Qaa hown;have HG:Hid (Old w w1):=Below.grown (Below.refl _ _) hgrow (Nat.le_refl _) (fun _ h=>by cases h);clear hown hgrow hmade
 go_loopw [4] (fun i W=>∃(k:Nat) (vs:List Value),k<=xss.length/\i=.int .i64 k/\Hid (W.ownsRow w.heap.size 22 1 (.slice (some ⟨w.heap.size,0,none⟩) xss.length xss.length) xss.length vs)/\Hid (vs.length=xss.length)/\Hid (Old w W)
  /\Hid (∀j,j<k->∃a c,vs[j]? = some (.slice a (xss.getD j []).length c)/\(xss.getD j []).length<=c/\OwI (xss.getD j []) W w.heap.size W.heap.size (.slice a (xss.getD j []).length c)/\(∀b,(Value.slice a (xss.getD j []).length c).ownBlock=some b->b≠w.heap.size))
  /\Hid (∀(i j:Nat) (x y:Value) (b:Nat),i<j->j<k->vs[i]? = some x->vs[j]? = some y->x.ownBlock=some b->y.ownBlock=some b->False)) (fun i _=>xss.length - (intOf i).toNat)
 case atStart=>exact ⟨0,_,by omega,rfl,HO,by show _ = _;simp,HG,fun j hj=>by omega,fun i j x y b h1 h2=>by omega⟩
 case round=>
  obtain ⟨k,vs,hk,rfl,H1,HL,HG1,H2,H3⟩:=hrel;clear HO HG
  by_cases hlt:k<xss.length
  ·have d1:decide ((k:Int)<(xss.length:Int))=true:=by simp;omega
   rcases HV.out with ⟨a,cap,e,e2⟩ | ⟨b,o,cap,us,e,hb2,h3,hc⟩
   ·subst e2;simp at hlt
   simp only [Value.slice.injEq,true_and] at e;obtain ⟨rfl,rfl⟩:=e;obtain ⟨c0,r0⟩:=hc k hlt;have hm:xss.getD k []∈xss:=by simp [List.getD,hlt]
   have hrl:=HR.out _ hm;obtain ⟨a1,cap1,e1⟩:=r0.slice;rw [e1] at c0 r0;have c1:=(HG1.out.cell (p:=⟨b,o+k,none⟩) hb2).trans c0;have HR1:=Qaa (r0.old HG1.out);obtain ⟨xs,hxs⟩:∃xs,xss.getD k []=xs:=⟨_,rfl⟩
   have HXS:=Qaa hxs;rw [hxs] at c1 HR1 hrl;clear hc c0 r0 e1 hm hxs;go_wp2_with fail;refine (Qge xs _ _ HR1.out hrl).mono ?_
   rintro e w2 ⟨rfl,g2,o2⟩;have hsr:=(H1.out.lt w.heap.size rfl).2
   have H4:Hid (w2.ownsRow w.heap.size 22 1 (.slice (some ⟨w.heap.size,0,none⟩) xss.length xss.length) xss.length vs):=by
    refine ⟨H1.out.1,?_⟩;rcases H1.out.2 with hn | ⟨p,cap',cur,e,hb',hgg,rest⟩
    ·exact .inl hn
    ·refine .inr ⟨p,cap',cur,e,hb',?_,rest⟩;rw [g2.block p (Array.getElem?_eq_some_iff.1 hgg).1];exact hgg
   have hvl:=HL.out;obtain ⟨y,hy⟩:∃y,vs[k]? = some y:=⟨vs[k]'(by omega),List.getElem?_eq_getElem (by omega)⟩
   have c2:w2.cell? ⟨w.heap.size,k,none⟩=some y:=by
    rw [World.ownsRow.cellAt H4.out k (by omega)];exact hy
   have c3:=World.ownsRow.frozenAt H4.out k;have H5:=Qaa ((World.ownsRow.stored H4.out k (.slice (some ⟨wr.heap.size,0,none⟩) xs.length xs.length)).1);have HG2:=Qaa (Old.trans HG1.out g2);have HG3:Hid (Old w (w2.setCell ⟨w.heap.size,k,none⟩ (.slice (some ⟨wr.heap.size,0,none⟩) xs.length xs.length))):=HG2.out.own (Nat.le_refl _) _;have hfar:∀bb,w.heap.size<bb->(w2.setCell ⟨w.heap.size,k,none⟩ (.slice (some ⟨wr.heap.size,0,none⟩) xs.length xs.length)).heap[bb]? = w2.heap[bb]?:=fun bb hbb=>heap_setCell_other _ _ _ _ (by show bb≠w.heap.size;omega)
   have hsz:(w2.setCell ⟨w.heap.size,k,none⟩ (.slice (some ⟨wr.heap.size,0,none⟩) xs.length xs.length)).heap.size=w2.heap.size:=by simp
   have hown3:Own (w2.setCell ⟨w.heap.size,k,none⟩ (.slice (some ⟨wr.heap.size,0,none⟩) xs.length xs.length)) w.heap.size (.slice (some ⟨wr.heap.size,0,none⟩) xs.length xs.length) xs:=Own.low (ownsRow_setCell_other o2 (by simp [Value.ownBlock];omega) _) (by omega)
   have H6:Hid (∀j,j<k+1->∃a c,(vs.set k (.slice (some ⟨wr.heap.size,0,none⟩) xs.length xs.length))[j]? = some (.slice a (xss.getD j []).length c)/\(xss.getD j []).length<=c/\OwI (xss.getD j []) (w2.setCell ⟨w.heap.size,k,none⟩ (.slice (some ⟨wr.heap.size,0,none⟩) xs.length xs.length)) w.heap.size (w2.setCell ⟨w.heap.size,k,none⟩ (.slice (some ⟨wr.heap.size,0,none⟩) xs.length xs.length)).heap.size (.slice a (xss.getD j []).length c)/\(∀b,(Value.slice a (xss.getD j []).length c).ownBlock=some b->b≠w.heap.size)):=fun j hj=>by
    rcases Nat.lt_or_ge j k with hjk | hjk
    ·obtain ⟨a,c,h1,h2,h3,h4⟩:=H2.out j hjk;refine ⟨a,c,?_,h2,?_,h4⟩
     ·rw [List.getElem?_set_ne (by omega)];exact h1
     ·have h5:=h3.1.old g2;refine ⟨?_,Nat.le_refl _,fun b hb=>?_⟩
      ·exact ownsRow_setCell_other h5 (fun e=>h4 _ e rfl) _
      ·rw [hsz];exact (h5.lt b hb).2
    ·obtain rfl:j=k:=by omega
     rw [HXS.out];refine ⟨_,_,?_,Nat.le_refl _,⟨hown3,Nat.le_refl _,fun b hb=>(hown3.lt b hb).2⟩,fun b hb=>?_⟩
     ·rw [List.getElem?_set_self (by omega)]
     ·simp [Value.ownBlock] at hb;omega
   have H7:Hid (∀(i j:Nat) (x y:Value) (b:Nat),i<j->j<k+1->(vs.set k (.slice (some ⟨wr.heap.size,0,none⟩) xs.length xs.length))[i]? = some x->(vs.set k (.slice (some ⟨wr.heap.size,0,none⟩) xs.length xs.length))[j]? = some y->x.ownBlock=some b->y.ownBlock=some b->False):=fun i j x y b hij hjk hx hy' hbx hby=>by
    rcases Nat.lt_or_ge j k with hjk2 | hjk2
    ·rw [List.getElem?_set_ne (by omega)] at hx hy';exact H3.out i j x y b hij hjk2 hx hy' hbx hby
    ·obtain rfl:j=k:=by omega
     rw [List.getElem?_set_ne (by omega)] at hx;rw [List.getElem?_set_self (by omega)] at hy';obtain ⟨a,c,h1,h2,h3,h4⟩:=H2.out i hij;rw [h1] at hx;obtain rfl:=Option.some.inj hx;obtain rfl:=Option.some.inj hy';simp [Value.ownBlock] at hby;have:=h3.2.2 b hbx;omega
   have H8:Hid ((vs.set k (.slice (some ⟨wr.heap.size,0,none⟩) xs.length xs.length)).length=xss.length):=by show _ = _;simp [hvl]
   clear H1 H2 H3 HL H4 hfar hsz hown3 g2 o2 hy hvl;go_wp2_with fail;exact ⟨⟨k+1,_,by omega,by go_num,H5,H8,HG3,H6,H7⟩,by simp [intOf];omega⟩
  ·have d1:decide ((k:Int)<(xss.length:Int))=false:=by simp;omega
   obtain rfl:k=xss.length:=by omega
   go_wp2_with fail;go_ret;refine ⟨_,rfl,HG1.out,⟨Nat.le_refl _,Or.inr ⟨w.heap.size,xss.length,vs,rfl,Nat.le_refl _,Nat.le_refl _,(H1.out.lt w.heap.size rfl).2,H1.out,HL.out,H2.out,fun i j x y b hij hx hy=>?_⟩⟩,_,_,rfl⟩
   have hj:j<xss.length:=by
    have:=HL.out;have h4:=(List.getElem?_eq_some_iff.1 hy).1;omega
   exact H3.out i j x y b hij hj hx hy
theorem OwS.rowS {xss:List (List Int)} {W:World} {lo hi:Nat} {v:Value} (h:OwS xss W lo hi v):Qci W v xss:=by
 obtain ⟨hh,h | ⟨p,cap,vs,rfl,hcap,hlo,hhi,ho,hvl,hj,hd⟩⟩:=h
 ·obtain ⟨rfl,rfl⟩:=h;exact Or.inl ⟨_,_,rfl,rfl⟩
 ·rcases Nat.eq_zero_or_pos xss.length with h0 | h0
  ·obtain rfl:=List.length_eq_zero_iff.1 h0;exact Or.inl ⟨_,_,rfl,rfl⟩
  ·refine Or.inr ⟨p,0,cap,fun j=>vs.getD j (.slice none 0 0),rfl,by omega,h0,fun j hjl=>?_⟩;obtain ⟨a,c,e,hc,o,hb⟩:=hj j hjl;have e2:vs.getD j (.slice none 0 0)=.slice a (xss.getD j []).length c:=by simp [List.getD,e]
   show W.cell? ⟨p,0+j,none⟩=some (vs.getD j (.slice none 0 0))/\Row W (vs.getD j (.slice none 0 0)) _
   rw [e2];refine ⟨?_,o.row⟩;rw [Nat.zero_add,World.ownsRow.cellAt ho j (by omega)];exact e
theorem OwS.fit {xss:List (List Int)} {W:World} {lo hi:Nat} {v:Value} (h:OwS xss W lo hi v) (j:Nat) (hj:j<xss.length):∃p cap a c,v=.slice (some ⟨p,0,none⟩) xss.length cap/\W.cell? ⟨p,j,none⟩=some (.slice a (xss.getD j []).length c)/\(xss.getD j []).length<=c/\Row W (.slice a (xss.getD j []).length c) (xss.getD j []):=by
 obtain ⟨hh,h | ⟨p,cap,vs,rfl,hcap,hlo,hhi,ho,hvl,hjj,hd⟩⟩:=h
 ·obtain ⟨rfl,rfl⟩:=h;simp at hj
 ·obtain ⟨a,c,e,hc,o,hb⟩:=hjj j hj;refine ⟨p,cap,a,c,rfl,?_,hc,o.row⟩;rw [World.ownsRow.cellAt ho j (by omega)];exact e
theorem Qdz (xss:List (List Int)):Far (OwS xss):=fun W W' lo hi v h hf hs=>by
 obtain ⟨hh,h | ⟨p,cap,vs,e,hcap,hlo,hhi,ho,hvl,hj,hd⟩⟩:=h
 ·exact ⟨by omega,Or.inl h⟩
 ·refine ⟨by omega,Or.inr ⟨p,cap,vs,e,hcap,hlo,hhi,⟨ho.1,?_⟩,hvl,fun j hjl=>?_,hd⟩⟩
  ·rcases ho.2 with hn | ⟨p',cap',cur,e',hb',hgg,rest⟩
   ·exact .inl hn
   ·refine .inr ⟨p',cap',cur,e',hb',?_,rest⟩
    have:p'=p:=by
     simp only [Value.slice.injEq,Option.some.injEq,Addr.mk.injEq] at e';exact e'.1.1.symm
    subst this;rw [hf p' hlo hhi];exact hgg
  ·obtain ⟨a,c,e1,hc,o,hb⟩:=hj j hjl;exact ⟨a,c,e1,hc,Qn0 _ W W' lo hi _ o hf hs,hb⟩
theorem Qe5 (xss:List (List Int)) (v u:Value) (w:World) (hv:Qci w v xss) (hu:Qci w u xss) (hl:xss.length<=1048576) (hr:∀r∈xss,r.length<=1048576) :
 Calls Tryz.prog 45 #[v,u] w fun e w'=>e=.returned (.bool true)/\Old w w':=by
 obtain ⟨a0,cap0,ev⟩:=hv.slice;obtain ⟨a1,cap1,eu⟩:=hu.slice;subst ev eu;have HR:=Qaa hr;have HV:=Qaa hv;have HU:=Qaa hu;have dn:((xss.length:Int) != (xss.length:Int))=false:=by simp
 clear hv hu hr;go_enter Tryz.func45,Tryz.ntmps45;go_wp2_with fail
 go_loopw [5] (fun i W=>∃k:Nat,k<=xss.length/\i=.int .i64 k/\Hid (Old w W)) (fun i _=>xss.length - (intOf i).toNat)
 case atStart=>exact ⟨0,by omega,rfl,Old.refl _⟩
 case round=>
  obtain ⟨k,hk,rfl,HG⟩:=hrel
  by_cases hlt:k<xss.length
  ·have d1:decide ((k:Int)<(xss.length:Int))=true:=by simp;omega
   rcases HV.out with ⟨a,cap,e,e2⟩ | ⟨b,o,cap,us,e,hb2,h3,hc⟩
   ·subst e2;simp at hlt
   rcases HU.out with ⟨a',cap',e',e2'⟩ | ⟨b',o',cap',us',e',hb2',h3',hc'⟩
   ·subst e2';simp at hlt
   simp only [Value.slice.injEq,true_and] at e e';obtain ⟨rfl,rfl⟩:=e;obtain ⟨rfl,rfl⟩:=e';obtain ⟨c0,r0⟩:=hc k hlt;obtain ⟨c0',r0'⟩:=hc' k hlt;have hm:xss.getD k []∈xss:=by simp [List.getD,hlt]
   have hrl:=HR.out _ hm;obtain ⟨x1,y1,e1⟩:=r0.slice;obtain ⟨x2,y2,e3⟩:=r0'.slice;rw [e1] at c0 r0;rw [e3] at c0' r0';have q1:=(HG.out.cell (p:=⟨b,o+k,none⟩) hb2).trans c0;have q2:=(HG.out.cell (p:=⟨b',o'+k,none⟩) hb2').trans c0';have R1:=Qaa (r0.old HG.out);have R2:=Qaa (r0'.old HG.out);have hbr:=Nat.lt_of_lt_of_le hb2 HG.out.size;have hbr':=Nat.lt_of_lt_of_le hb2' HG.out.size;generalize xss.getD k []=xs at *;have HAS:Hid (∀W':World,Old wr W'->(W'.cell? ⟨b,o+k,none⟩=some (.slice x1 xs.length y1)/\W'.cell? ⟨b',o'+k,none⟩=some (.slice x2 xs.length y2))):=fun W' g=>⟨(g.cell (p:=⟨b,o+k,none⟩) hbr).trans q1,(g.cell (p:=⟨b',o'+k,none⟩) hbr').trans q2⟩
   clear hc hc' c0 c0' r0 r0' e1 e3 hm;go_wp2_with fail
   go_region_held3 (fun W'=>W'.cell? ⟨b,o+k,none⟩=some (.slice x1 xs.length y1)/\W'.cell? ⟨b',o'+k,none⟩=some (.slice x2 xs.length y2)) (first | with_reducible exact HAS.out _ GE.out | with_reducible exact HAS.out _ (Below.drew (Old.refl wr)) | with_reducible exact HAS.out _ (Old.refl wr)) (first
    | (go_at_call 14;refine (Qgf xs _ _ _ (R1.out.old (Below.drew (Old.refl wr))) (R2.out.old (Below.drew (Old.refl wr))) (by omega)).mono ?_;rintro e w2 ⟨rfl,ge⟩;have GE:=Qaa (Old.trans (Below.drew (Old.refl wr)) ge);clear ge)
    | fail)
   have HG2:=Qaa (Old.trans HG.out GE.out);go_wp2_with fail;exact ⟨⟨k+1,by omega,by go_num,HG2⟩,by simp [intOf];omega⟩
  ·go_wp2_with fail;go_ret;exact ⟨rfl,HG.out⟩
theorem OwS.slice {xss:List (List Int)} {W:World} {lo hi:Nat} {v:Value} (h:OwS xss W lo hi v):∃a c,v=.slice a xss.length c:=h.rowS.slice
theorem OwS.put {xss:List (List Int)} {W:World} {lo hi k j:Nat} {v x:Value} (h:OwS xss W lo hi v) (hk:k<lo∨hi<=k):OwS xss (W.setCell ⟨k,j,none⟩ x) lo hi v:=
 Qdz xss W _ lo hi v h (fun b h1 h2=>heap_setCell_other _ _ _ _ (by show b≠k;omega)) (by simp)
theorem OwS.low {xss:List (List Int)} {W:World} {lo lo' hi:Nat} {v:Value} (h:OwS xss W lo hi v) (hl:lo'<=lo):OwS xss W lo' hi v:=by
 obtain ⟨hh,h | ⟨p,cap,vs,e,hcap,hlo,hhi,ho,hvl,hj,hd⟩⟩:=h
 ·exact ⟨hh,Or.inl h⟩
 ·refine ⟨hh,Or.inr ⟨p,cap,vs,e,hcap,by omega,hhi,⟨ho.1,?_⟩,hvl,fun j hjl=>?_,hd⟩⟩
  ·rcases ho.2 with hn | ⟨p',cap',cur,e',hb',rest⟩
   ·exact .inl hn
   ·exact .inr ⟨p',cap',cur,e',by omega,rest⟩
  ·obtain ⟨a,c,e1,hc,o,hb⟩:=hj j hjl;exact ⟨a,c,e1,hc,⟨Own.low o.1 hl,o.2.1,o.2.2⟩,hb⟩
theorem OwS.high {xss:List (List Int)} {W:World} {lo hi hi':Nat} {v:Value} (h:OwS xss W lo hi v) (hl:hi<=hi') (hs:hi'<=W.heap.size):OwS xss W lo hi' v:=by
 obtain ⟨hh,h | ⟨p,cap,vs,e,hcap,hlo,hhi,ho,hvl,hj,hd⟩⟩:=h
 ·exact ⟨hs,Or.inl h⟩
 ·refine ⟨hs,Or.inr ⟨p,cap,vs,e,hcap,hlo,by omega,ho,hvl,fun j hjl=>?_,hd⟩⟩;obtain ⟨a,c,e1,hc,o,hb⟩:=hj j hjl;exact ⟨a,c,e1,hc,⟨o.1,hs,fun b hb=>by have:=o.2.2 b hb;omega⟩,hb⟩
def Qa4:List (List Int)->Nat->Nat
 | [],_=>0
 | _ :: _,0=>0
 | r :: rs,j+1=>r.length+Qa4 rs j
theorem Qee (xss:List (List Int)):Qa4 xss 0=0:=by cases xss <;> rfl
theorem Qft:∀(xss:List (List Int)) (j:Nat),j<xss.length->Qa4 xss (j+1)=Qa4 xss j+(xss.getD j []).length
 | [],j,h=>by simp at h
 | r :: rs,0,h=>by
   show r.length+Qa4 rs 0=0+_
   rw [Qee];simp
 | r :: rs,j+1,h=>by
   have:=Qft rs j (by simpa using h)
   show r.length+Qa4 rs (j+1)=r.length+Qa4 rs j+_
   rw [this];simp [List.getD];omega
theorem Qmi:∀(xss:List (List Int)) (left:Int),0<=left->¬Qd6 left xss<0->(Qa4 xss xss.length:Int)<=left
 | [],left,h0,h=>by simpa [Qa4] using h0
 | r :: rs,left,h0,h=>by
   unfold Qd6 at h
   by_cases hr:Qdk left r.length<0
   ·rw [if_pos hr] at h;omega
   ·rw [if_neg hr] at h;obtain ⟨q1,q2,q3⟩:=Qfm hr h0;have:=Qmi rs _ q3 h
    show ((r.length+Qa4 rs rs.length:Nat):Int)<=left
    omega
theorem Qh5 {xss:List (List Int)} {left:Int} (h0:0<=left) (h:¬Qa7 left xss<0):(Qa4 xss xss.length:Int)<=left:=by
 unfold Qa7 at h
 by_cases hr:left<(xss.length:Int)
 ·rw [if_pos hr] at h;omega
 ·rw [if_neg hr] at h;have:=Qmi xss _ (by omega) h;omega
theorem Qkq:∀(xss:List (List Int)) (j:Nat),Qa4 xss j<=Qa4 xss xss.length
 | [],j=>by simp [Qa4]
 | r :: rs,0=>by simp [Qa4]
 | r :: rs,j+1=>by
   have:=Qkq rs j
   show r.length+Qa4 rs j<=r.length+Qa4 rs rs.length
   omega
theorem Qfu (yss:List (List Int)) (i j:Nat) (r:List Int) (h:i<yss.length):(yss.set i r).getD j []=if j=i then r else yss.getD j []:=by
 by_cases hj:j=i
 ·subst hj;simp [List.getD,h]
 ·rw [if_neg hj];simp [List.getD,List.getElem?_set,Ne.symm hj]
theorem OwS.mark {yss:List (List Int)} {W w':World} {lo hi p cap i:Nat} {a:Option Addr} {c:Nat} {r:List Int} (h:OwS yss W lo hi (.slice (some ⟨p,0,none⟩) yss.length cap)) (hi':i<yss.length) (hc:W.cell? ⟨p,i,none⟩=some (.slice a (yss.getD i []).length c)) (hr:r.length=(yss.getD i []).length)
 (g:W.grownBy w' (Value.slice a (yss.getD i []).length c).ownBlock) (o:Own w' lo (.slice a (yss.getD i []).length c) r):OwS (yss.set i r) w' lo hi (.slice (some ⟨p,0,none⟩) yss.length cap)/\Chg W w' lo hi:=by
 obtain ⟨hh,h | ⟨p',cap',vs,e,hcap,hlo,hhi,ho,hvl,hj,hd⟩⟩:=h
 ·obtain ⟨e,rfl⟩:=h;simp at hi'
 ·simp only [Value.slice.injEq,Option.some.injEq,Addr.mk.injEq,true_and,and_true] at e;obtain ⟨rfl,rfl⟩:=e;obtain ⟨a1,c1,e1,hc1,oi,hb1⟩:=hj i hi'
  have e2:vs[i]? = some (.slice a (yss.getD i []).length c):=by
   rw [World.ownsRow.cellAt ho i (by omega)] at hc;exact hc
  rw [e2] at e1;simp only [Option.some.injEq,Value.slice.injEq,true_and] at e1;obtain ⟨rfl,rfl⟩:=e1;have hch:=Qxi g (fun b hb=>⟨(oi.1.lt b hb).1,oi.2.2 b hb⟩);refine ⟨⟨Nat.le_trans hh g.size,Or.inr ⟨p,cap,vs,by simp,by simpa using hcap,hlo,hhi,?_,by simpa using hvl,fun j hjl=>?_,hd⟩⟩,hch⟩
  ·refine ⟨by simpa using ho.1,?_⟩;rcases ho.2 with ⟨hn,_⟩ | ⟨p',cap',cur,e',hb',hgg,rest⟩
   ·cases hn
   ·have hp:p'=p:=by
     simp only [Value.slice.injEq,Option.some.injEq,Addr.mk.injEq] at e';exact e'.1.1.symm
    subst hp;refine .inr ⟨p',cap',cur,by simpa using e',hb',?_,by simpa using rest⟩;rw [g.block p' (Array.getElem?_eq_some_iff.1 hgg).1 (fun hx=>hb1 p' hx.symm rfl)];exact hgg
  ·rw [List.length_set] at hjl
   by_cases hji:j=i
   ·subst hji;rw [Qfu yss j j r hi',if_pos rfl,hr];exact ⟨a,c,e2,hc1,⟨o,Nat.le_trans hh g.size,oi.2.2⟩,hb1⟩
   ·rw [Qfu yss i j r hi',if_neg hji];obtain ⟨a2,c2,e3,hc2,oj,hb2⟩:=hj j hjl;refine ⟨a2,c2,e3,hc2,⟨?_,Nat.le_trans hh g.size,oj.2.2⟩,hb2⟩;refine oj.1.by_ g (fun x y hx hy hxy=>?_);subst hxy;rcases Nat.lt_or_ge j i with hlt | hge
    ·exact hd j i _ _ x hlt e3 e2 hx hy
    ·exact hd i j _ _ x (by omega) e2 e3 hy hx
def OwM (k:Int) (xss:List (List Int)) (W:World) (lo hi:Nat) (v:Value):Prop:=
 ∃yss:List (List Int),yss.length=xss.length/\(∀j,j<xss.length->yss.getD j []=marks (k+Qa4 xss j) (xss.getD j []).length)/\OwS yss W lo hi v
theorem Qss (k:Int) (xss:List (List Int)):Far (OwM k xss):=fun W W' lo hi v h hf hs=>by
 obtain ⟨yss,h1,h2,h3⟩:=h;exact ⟨yss,h1,h2,Qdz yss W W' lo hi v h3 hf hs⟩
theorem OwM.slice {k:Int} {xss:List (List Int)} {W:World} {lo hi:Nat} {v:Value} (h:OwM k xss W lo hi v):∃a c,v=.slice a xss.length c:=by
 obtain ⟨yss,h1,h2,h3⟩:=h;obtain ⟨a,c,e⟩:=h3.slice;exact ⟨a,c,by rw [e,h1]⟩
theorem Qfv (xss:List (List Int)) (v:Value) (k:Int) (lo hi:Nat) (w:World) (hv:OwS xss w lo hi v) (hl:xss.length<=1048576) (hr:∀r∈xss,r.length<=1048576) (hk:0<=k) (hs:k+(Qa4 xss xss.length:Int)<=1073741824) :
 Calls Tryz.prog 46 #[v,.int .i64 k] w fun e w'=>e=.returned (.int .i64 (k+Qa4 xss xss.length))/\Chg w w' lo hi/\OwM k xss w' lo hi v:=by
 obtain ⟨a0,cap0,ev⟩:=hv.slice;subst ev;have HR:=Qaa hr;have HO:=Qaa hv;have HC0:=Qaa ((Old.refl w).toChg lo hi);have HS:=Qaa hs;clear hv hr hs;go_enter Tryz.func46,Tryz.ntmps46;go_wp2_with fail
 go_loopw [5,1] (fun i l W=>∃(j:Nat) (yss:List (List Int)),j<=xss.length/\i=.int .i64 j/\l=.int .i64 (k+Qa4 xss j)/\Hid (yss.length=xss.length)/\Hid (∀q,q<j->yss.getD q []=marks (k+Qa4 xss q) (xss.getD q []).length)/\Hid (∀q,j<=q->yss.getD q []=xss.getD q [])/\Hid (OwS yss W lo hi (.slice a0 xss.length cap0))/\Hid (Chg w W lo hi)) (fun i _ _=>xss.length - (intOf i).toNat)
 case atStart=>exact ⟨0,xss,by omega,rfl,by rw [Qee];simp,by show _ = _;rfl,fun q hq=>by omega,fun q _=>rfl,HO,HC0⟩
 case round=>
  obtain ⟨j,yss,hj,rfl,rfl,HL,H1,H2,H3,HC⟩:=hrel;clear HO HC0
  by_cases hlt:j<xss.length
  ·have d1:decide ((j:Int)<(xss.length:Int))=true:=by simp;omega
   have hyl:=HL.out;have hjy:j<yss.length:=by omega
   obtain ⟨p,cap,a,c,ev,hc,hcl,hrow⟩:=H3.out.fit j hjy;rw [hyl] at ev;simp only [Value.slice.injEq,true_and] at ev;obtain ⟨rfl,rfl⟩:=ev;have exy:=H2.out j (Nat.le_refl _);have hm:xss.getD j []∈xss:=by simp [List.getD,hlt]
   have hrl:=HR.out _ hm;have hoj:=Qkq xss (j+1);have hos:=Qft xss j hlt;have hsum:=HS.out
   obtain ⟨a',c',e',_,oi,_⟩:∃a' c',wr.cell? ⟨p,j,none⟩=some (.slice a' (yss.getD j []).length c')/\(yss.getD j []).length<=c'/\OwI (yss.getD j []) wr lo hi (.slice a' (yss.getD j []).length c')/\True:=by
    obtain ⟨hh,h | ⟨p',cap',vs,e,hcap,hlo,hhi,ho,hvl,hjj,hd⟩⟩:=H3.out
    ·cases h.1
    ·rw [<- hyl] at e;simp only [Value.slice.injEq,Option.some.injEq,Addr.mk.injEq,true_and,and_true] at e;obtain ⟨rfl,rfl⟩:=e;obtain ⟨a2,c2,e2,hc2,o2,hb2⟩:=hjj j hjy;refine ⟨a2,c2,?_,hc2,o2,trivial⟩;rw [World.ownsRow.cellAt ho j (by omega)];exact e2
   have HOI:=Qaa oi;have HCE:=Qaa e';have H3':Hid (OwS yss wr lo hi (.slice (some ⟨p,0,none⟩) yss.length cap0)):=by show OwS yss wr lo hi _;rw [hyl];exact H3.out
   have HMK:Hid (∀w',wr.grownBy w' (Value.slice a' (yss.getD j []).length c').ownBlock->Own w' lo (.slice a' (yss.getD j []).length c') (marks (k+Qa4 xss j) (yss.getD j []).length)->OwS (yss.set j (marks (k+Qa4 xss j) (yss.getD j []).length)) w' lo hi (.slice (some ⟨p,0,none⟩) yss.length cap0)/\Chg wr w' lo hi):=fun w' g o=>OwS.mark H3'.out hjy HCE.out (by simp [Qbl]) g o
   have HN1:Hid (∀q,q<j+1->(yss.set j (marks (k+Qa4 xss j) (yss.getD j []).length)).getD q []=marks (k+Qa4 xss q) (xss.getD q []).length):=fun q hq=>by
    rw [Qfu yss j q _ hjy]
    by_cases hqj:q=j
    ·subst hqj;rw [if_pos rfl,exy]
    ·rw [if_neg hqj];exact H1.out q (by omega)
   have HN2:Hid (∀q,j+1<=q->(yss.set j (marks (k+Qa4 xss j) (yss.getD j []).length)).getD q []=xss.getD q []):=fun q hq=>by
    rw [Qfu yss j q _ hjy,if_neg (by omega)];exact H2.out q (by omega)
   have HN3:Hid ((yss.set j (marks (k+Qa4 xss j) (yss.getD j []).length)).length=xss.length):=by show _ = _;rw [List.length_set];exact hyl
   have HN4:Hid (k+(Qa4 xss (j+1):Int)=k+(Qa4 xss j:Int)+((yss.getD j []).length:Int)):=by show _ = _;rw [hos,exy];omega
   have HYL:=Qaa hyl;have hyr:(yss.getD j []).length<=1048576:=by rw [exy];exact hrl
   have hkb:0<=k+(Qa4 xss j:Int)/\k+(Qa4 xss j:Int)<=1073741824:=by omega
   have c1:=e';clear hyl exy hm hoj hos hsum hc hrow hcl e' oi H1 H2 H3 HL H3' HCE;generalize hys:yss.set j (marks (k+Qa4 xss j) (yss.getD j []).length)=zss at *;generalize hnn:(Qa4 xss (j+1))=nxt at *;generalize (Qa4 xss j:Nat)=off at *;clear hys;generalize yss.getD j []=ys at *;have cm:=fun W (h:OwI ys W lo hi (.slice a' ys.length c'))=>Qc9 ys _ (k+off) lo W h.1 (by omega) (by omega) (by omega)
   go_wp2_with fail;refine (cm _ HOI.out).mono ?_
   rintro e w2 ⟨rfl,g2,o2⟩;obtain ⟨n1,n2⟩:=HMK.out w2 g2 o2;have N1:Hid (OwS zss w2 lo hi (.slice (some ⟨p,0,none⟩) xss.length cap0)):=by show OwS zss w2 lo hi _;rw [<- HYL.out];exact n1
   have N2:=Qaa (Chg.trans HC.out n2);clear n1 n2 g2 o2 cm HMK HOI;go_wp2_with fail;refine ⟨⟨j+1,zss,by omega,by go_num,?_,HN3,HN1,HN2,N1,N2⟩,by simp [intOf];omega⟩;rw [hnn,HN4.out]
  ·have d1:decide ((j:Int)<(xss.length:Int))=false:=by simp;omega
   obtain rfl:j=xss.length:=by omega
   have HF:Hid (OwM k xss wr lo hi (.slice a0 xss.length cap0)):=⟨yss,HL.out,H1.out,H3.out⟩;clear H1 H2 H3 HL;go_wp2_with fail;go_ret;exact ⟨rfl,HC.out,HF.out⟩
def Qv0 (w:World) (v:Value) (xsss:List (List (List Int))):Prop:=
 (∃a cap,v=.slice a 0 cap/\xsss=[])∨∃b o cap,∃us:Nat->Value,v=.slice (some ⟨b,o,none⟩) xsss.length cap/\b<w.heap.size/\0<xsss.length/\∀j,j<xsss.length->w.cell? ⟨b,o+j,none⟩=some (us j)/\Qci w (us j) (xsss.getD j [])
theorem Qv0.old {w w':World} {v:Value} {xsss:List (List (List Int))} (h:Qv0 w v xsss) (g:Old w w'):Qv0 w' v xsss:=by
 rcases h with h1 | ⟨b,o,cap,us,e,hb,h0,hc⟩
 ·exact Or.inl h1
 ·exact Or.inr ⟨b,o,cap,us,e,Nat.lt_of_lt_of_le hb g.size,h0,fun j hj=>⟨(g.cell (p:=⟨b,o+j,none⟩) hb).trans (hc j hj).1,(hc j hj).2.old g⟩⟩
theorem Qv0.slice {w:World} {v:Value} {xsss:List (List (List Int))} (h:Qv0 w v xsss):∃a cap,v=.slice a xsss.length cap:=by
 rcases h with ⟨a,cap,e,e2⟩ | ⟨b,o,cap,us,e,_⟩
 ·exact ⟨a,cap,by rw [e,e2];rfl⟩
 ·exact ⟨_,cap,e⟩
def Qcj:List (List (List Int))->Nat->Nat
 | [],_=>0
 | _ :: _,0=>0
 | r :: rs,j+1=>Qa4 r r.length+Qcj rs j
theorem Qfw (xsss:List (List (List Int))):Qcj xsss 0=0:=by cases xsss <;> rfl
theorem Qh6:∀(xsss:List (List (List Int))) (j:Nat),j<xsss.length->Qcj xsss (j+1)=Qcj xsss j+Qa4 (xsss.getD j []) (xsss.getD j []).length
 | [],j,h=>by simp at h
 | r :: rs,0,h=>by
   show Qa4 r r.length+Qcj rs 0=0+_
   rw [Qfw];simp
 | r :: rs,j+1,h=>by
   have:=Qh6 rs j (by simpa using h)
   show Qa4 r r.length+Qcj rs (j+1)=Qa4 r r.length+Qcj rs j+_
   rw [this];simp [List.getD];omega
theorem Qoe:∀(xsss:List (List (List Int))) (j:Nat),Qcj xsss j<=Qcj xsss xsss.length
 | [],j=>by simp [Qcj]
 | r :: rs,0=>by simp [Qcj]
 | r :: rs,j+1=>by
   have:=Qoe rs j
   show Qa4 r r.length+Qcj rs j<=Qa4 r r.length+Qcj rs rs.length
   omega
theorem Qjy {left:Int} {xss:List (List Int)} (h0:0<=left) (h:Qa7 left xss<0):Qa7 left xss = -1:=by
 unfold Qa7 at h ⊢;split
 ·rfl
 ·rename_i h2
  rw [if_neg h2] at h
  have key:∀(l:List (List Int)) (z:Int),0<=z->Qd6 z l<0->Qd6 z l = -1:=fun l=>by
   induction l with
   | nil=>intro z hz h;unfold Qd6 at h;omega
   | cons r rs ih=>
     intro z hz h;unfold Qd6 at h ⊢
     by_cases hq:Qdk z r.length<0
     ·rw [if_pos hq]
     ·rw [if_neg hq] at h ⊢;exact ih _ (by omega) h
  exact key _ _ (by omega) h
abbrev TSS (xss:List (List Int)):Qb0:=TS 22 1 xss.length (fun k=>TI (xss.getD k []))
theorem Qcd (xss:List (List Int)):GoodT (TSS xss):=Qe2 _ _ _ (fun _=>Qcg _)
abbrev TTT (xsss:List (List (List Int))):Qb0:=TS 25 1 xsss.length (fun j=>TSS (xsss.getD j []))
theorem Qdb (xsss:List (List (List Int))):GoodT (TTT xsss):=Qe2 _ _ _ (fun _=>Qcd _)
theorem Qd0 {vs:List Value} {j:Nat} (hj:j<vs.length):Qbg 1 vs j=[vs[j]]:=by
 have h2:=Qbm (n:=1) (m:=vs.length) (vs:=vs) (by omega) j hj;have h3:=Qdl 1 vs j 0 (by omega);rw [Nat.mul_one,Nat.add_zero,List.getElem?_eq_getElem hj] at h3
 match hcs:Qbg 1 vs j,h2 with
 | [x],_=>
   rw [hcs] at h3;simp at h3;rw [h3]
theorem OwS.tss {xss:List (List Int)} {W:World} {lo hi:Nat} {v:Value} (h:OwS xss W lo hi v):∃B,TSS xss W B [v]/\∀b,B b->lo<=b/\b<hi:=by
 obtain ⟨hh,h | ⟨p,cap,vs,rfl,hcap,hlo,hhi,ho,hvl,hj,hd⟩⟩:=h
 ·obtain ⟨rfl,rfl⟩:=h;exact ⟨fun _=>False,.inl ⟨rfl,rfl,fun b hb=>hb⟩,fun b hb=>hb.elim⟩
 ·refine ⟨fun b=>b=p∨∃j,j<xss.length∧(vs.getD j (.slice none 0 0)).ownBlock=some b,.inr ⟨p,cap,vs,fun j b=>(vs.getD j (.slice none 0 0)).ownBlock=some b,rfl,⟨⟨ho.1,?_⟩,fun j hjl=>?_,fun j hjl=>?_,fun i j hi' hj' hij b h1 h2=>?_⟩,fun b=>Iff.rfl⟩,fun b hb=>?_⟩
  ·rcases ho.2 with hn | ⟨p',cap',cur,e',hb',rest⟩
   ·exact .inl hn
   ·exact .inr ⟨p',cap',cur,e',Nat.zero_le _,rest⟩
  ·obtain ⟨a,c,e,hc,o,hb⟩:=hj j hjl;have e2:vs.getD j (.slice none 0 0)=.slice a (xss.getD j []).length c:=by simp [List.getD,e]
   have e3:vs[j]'(by omega)=.slice a (xss.getD j []).length c:=by
    have:=List.getElem?_eq_getElem (l:=vs) (i:=j) (by omega)
    rw [e] at this;exact (Option.some.inj this).symm
   rw [Qd0 (by omega),e3];refine ⟨a,c,rfl,Own.low o.1 (Nat.zero_le _),hc,fun b=>?_⟩
   show (vs.getD j (.slice none 0 0)).ownBlock=some b↔_
   rw [e2]
  ·obtain ⟨a,c,e,hc,o,hb⟩:=hj j hjl;have e2:vs.getD j (.slice none 0 0)=.slice a (xss.getD j []).length c:=by simp [List.getD,e]
   show ¬(vs.getD j (.slice none 0 0)).ownBlock=some p
   rw [e2];exact fun hx=>hb p hx rfl
  ·have g1:vs[i]? = some (vs.getD i (.slice none 0 0)):=by simp [List.getD,show i<vs.length by omega]
   have g2:vs[j]? = some (vs.getD j (.slice none 0 0)):=by simp [List.getD,show j<vs.length by omega]
   rcases Nat.lt_or_ge i j with h3 | h3
   ·exact hd i j _ _ b h3 g1 g2 h1 h2
   ·exact hd j i _ _ b (by omega) g2 g1 h2 h1
  ·rcases hb with rfl | ⟨j,hjl,hb⟩
   ·exact ⟨hlo,hhi⟩
   ·obtain ⟨a,c,e,hc,o,hb2⟩:=hj j hjl;have e2:vs.getD j (.slice none 0 0)=.slice a (xss.getD j []).length c:=by simp [List.getD,e]
    rw [e2] at hb;exact ⟨(o.1.lt b hb).1,o.2.2 b hb⟩
theorem TSS.owS {xss:List (List Int)} {W:World} {B:Nat->Prop} {v:Value} {lo hi:Nat} (h:TSS xss W B [v]) (hb:∀b,B b->lo<=b/\b<hi) (hh:hi<=W.heap.size):OwS xss W lo hi v:=by
 rcases h with ⟨h0,e,_⟩ | ⟨p,cap,vs,Bs,e,hc,hbb⟩
 ·simp at e;exact ⟨hh,.inl ⟨e,List.length_eq_zero_iff.1 h0⟩⟩
 simp at e;subst e;have hp:=hb p ((hbb p).2 (.inl rfl));have hvl:vs.length=xss.length:=by have:=hc.row.1;omega
 have hcap:xss.length<=cap:=by
  rcases hc.row.2 with ⟨hn,_⟩ | ⟨p',cap',cur,e',_,_,h3,_⟩
  ·cases hn
  ·simp only [Value.slice.injEq] at e';omega
 have hcell:∀j,j<xss.length->∃x,vs[j]? = some x/\TI (xss.getD j []) W (Bs j) [x]:=fun j hj=>by
  have h1:=hc.el j hj;rw [Qd0 (by omega)] at h1;exact ⟨_,List.getElem?_eq_getElem (by omega),h1⟩
 refine ⟨hh,.inr ⟨p,cap,vs,rfl,hcap,hp.1,hp.2,⟨hc.row.1,?_⟩,hvl,fun j hj=>?_,fun i j x y b hij hx hy hbx hby=>?_⟩⟩
 ·rcases hc.row.2 with ⟨hn,_⟩ | ⟨p',cap',cur,e',_,rest⟩
  ·cases hn
  ·simp only [Value.slice.injEq,Option.some.injEq,Addr.mk.injEq,true_and,and_true] at e';obtain ⟨rfl,rfl⟩:=e';exact .inr ⟨p,cap,cur,rfl,hp.1,rest⟩
 ·obtain ⟨x,e,hE⟩:=hcell j hj;obtain ⟨a,c,rfl⟩:=hE.slice;have hbl:=hE.blocks;have ho:=hE.own (lo:=lo) (fun b hb'=>(hb b ((hbb b).2 (.inr ⟨j,hj,hb'⟩))).1);refine ⟨a,c,e,?_,⟨ho,hh,fun b hb'=>(hb b ((hbb b).2 (.inr ⟨j,hj,(hbl b).2 hb'⟩))).2⟩,fun b hb' e2=>?_⟩
  ·obtain ⟨a2,c2,e2,_,f2,_⟩:=hE;simp at e2;rw [e2.2];exact f2
  ·subst e2;exact hc.np j hj ((hbl b).2 hb')
 ·have hi':i<xss.length:=by have:=(List.getElem?_eq_some_iff.1 hx).1;omega
  have hj':j<xss.length:=by have:=(List.getElem?_eq_some_iff.1 hy).1;omega
  obtain ⟨x2,e,hE⟩:=hcell i hi';obtain ⟨y2,e2,hE2⟩:=hcell j hj';rw [e] at hx;rw [e2] at hy;obtain rfl:=Option.some.inj hx;obtain rfl:=Option.some.inj hy;exact hc.dis i j hi' hj' (by omega) b ((hE.blocks b).2 hbx) ((hE2.blocks b).2 hby)
theorem TSS.whole {xss:List (List Int)} {W:World} {B:Nat->Prop} {v:Value} (h:TSS xss W B [v]):OwS xss W 0 W.heap.size v:=
 TSS.owS h (fun b hb=>⟨Nat.zero_le _,(Qcd xss).lt h b hb⟩) (Nat.le_refl _)
theorem TSS.slice {xss:List (List Int)} {W:World} {B:Nat->Prop} {v:Value} (h:TSS xss W B [v]):∃a c,v=.slice a xss.length c:=TS.slice h
theorem TTT.rowT {xsss:List (List (List Int))} {W:World} {B:Nat->Prop} {v:Value} (h:TTT xsss W B [v]):Qv0 W v xsss:=by
 rcases h with ⟨h0,e,_⟩ | ⟨p,cap,vs,Bs,e,hc,hbb⟩
 ·simp at e;subst e;exact .inl ⟨none,0,rfl,List.length_eq_zero_iff.1 h0⟩
 simp at e;subst e;have hvl:vs.length=xsss.length:=by have:=hc.row.1;omega
 rcases Nat.eq_zero_or_pos xsss.length with h0 | h0
 ·obtain rfl:=List.length_eq_zero_iff.1 h0;exact .inl ⟨_,_,rfl,rfl⟩
 refine .inr ⟨p,0,cap,fun j=>vs.getD j (.slice none 0 0),rfl,Qa1 hc.row,h0,fun j hj=>?_⟩;have h1:=hc.el j hj;rw [Qd0 (by omega)] at h1;have e2:vs.getD j (.slice none 0 0)=vs[j]'(by omega):=by simp [List.getD,show j<vs.length by omega]
 show W.cell? ⟨p,0+j,none⟩=some (vs.getD j (.slice none 0 0))/\Qci W (vs.getD j (.slice none 0 0)) _
 rw [e2];refine ⟨?_,(TSS.whole h1).rowS⟩;rw [Nat.zero_add,World.ownsRow.cellAt hc.row j (by omega)];exact List.getElem?_eq_getElem _
theorem Tryz.infoIntSS:(Tryz.prog.info? 25).map (fun i=>(i.zero,i.size,i.bytes))=some (some (.slice none 0 0),1,24):=by kernel_rfl
theorem Qq9 {m k:Nat} {vs:List Value} (h:vs.length=m*1) (hk:k<m) (a:Value):Qbg 1 (vs.set (k*1+0) a) k=[a]:=by
 have hl:=Qbm (n:=1) h k hk;rw [Qb8 1 _ k 0 k a (by omega),if_pos rfl]
 match Qbg 1 vs k,hl with
 | [_],_=>rfl
theorem TSc.storeT {T:TypeId} {m k:Nat} {Es:Nat->Qb0} {W:World} {p cap:Nat} {vs:List Value} {Bs:Nat->Nat->Prop} {B:Nat->Prop} (g:∀j,GoodT (Es j)) (h:TSc T 1 m k Es W p cap vs Bs) (hk:k<m) (a:Value)
 (he:∀W':World,(∀b,b≠p->W'.heap[b]? = W.heap[b]?)->Es k W' B [a]) (hp:¬B p) (hd:∀j,j<k->∀b,Bs j b->B b->False) :
 ∃vs',TSc T 1 m (k+1) Es (W.setCell ⟨p,k,none⟩ a) p cap vs' (fun q=>if q=k then B else Bs q):=by
 have h1:=h.fill g 0 (by omega) a;rw [Nat.mul_one,Nat.add_zero] at h1;refine ⟨_,h1.more (B:=B) ?_ hp hd⟩;have:=Qq9 h.row.1 hk a;rw [Nat.mul_one,Nat.add_zero] at this;rw [this];exact he _ (fun b hb=>heap_setCell_other _ _ _ _ hb)
theorem Qmj (xsss:List (List (List Int))) (v u:Value) (w:World) (hv:Qv0 w v xsss) (hu:Qv0 w u xsss) (hl:xsss.length<=1048576) (hr:∀r∈xsss,r.length<=1048576/\∀q∈r,q.length<=1048576) :
 Calls Tryz.prog 44 #[v,u] w fun e w'=>e=.returned (.bool true)/\Old w w':=by
 obtain ⟨a0,cap0,ev⟩:=hv.slice;obtain ⟨a1,cap1,eu⟩:=hu.slice;subst ev eu;have HR:=Qaa hr;have HV:=Qaa hv;have HU:=Qaa hu;have dn:((xsss.length:Int) != (xsss.length:Int))=false:=by simp
 clear hv hu hr;go_enter Tryz.func44,Tryz.ntmps44;go_wp2_with fail
 go_loopw [5] (fun i W=>∃k:Nat,k<=xsss.length/\i=.int .i64 k/\Hid (Old w W)) (fun i _=>xsss.length - (intOf i).toNat)
 case atStart=>exact ⟨0,by omega,rfl,Old.refl _⟩
 case round=>
  obtain ⟨k,hk,rfl,HG⟩:=hrel
  by_cases hlt:k<xsss.length
  ·have d1:decide ((k:Int)<(xsss.length:Int))=true:=by simp;omega
   rcases HV.out with ⟨a,cap,e,e2⟩ | ⟨b,o,cap,us,e,hb2,h3,hc⟩
   ·subst e2;simp at hlt
   rcases HU.out with ⟨a',cap',e',e2'⟩ | ⟨b',o',cap',us',e',hb2',h3',hc'⟩
   ·subst e2';simp at hlt
   simp only [Value.slice.injEq,true_and] at e e';obtain ⟨rfl,rfl⟩:=e;obtain ⟨rfl,rfl⟩:=e';obtain ⟨c0,r0⟩:=hc k hlt;obtain ⟨c0',r0'⟩:=hc' k hlt;have hm:xsss.getD k []∈xsss:=by simp [List.getD,hlt]
   have hrl:=HR.out _ hm;obtain ⟨x1,y1,e1⟩:=r0.slice;obtain ⟨x2,y2,e3⟩:=r0'.slice;rw [e1] at c0 r0;rw [e3] at c0' r0';have q1:=(HG.out.cell (p:=⟨b,o+k,none⟩) hb2).trans c0;have q2:=(HG.out.cell (p:=⟨b',o'+k,none⟩) hb2').trans c0';have R1:=Qaa (r0.old HG.out);have R2:=Qaa (r0'.old HG.out);have hbr:=Nat.lt_of_lt_of_le hb2 HG.out.size;have hbr':=Nat.lt_of_lt_of_le hb2' HG.out.size;generalize xsss.getD k []=xs at *;have HAS:Hid (∀W':World,Old wr W'->(W'.cell? ⟨b,o+k,none⟩=some (.slice x1 xs.length y1)/\W'.cell? ⟨b',o'+k,none⟩=some (.slice x2 xs.length y2))):=fun W' g=>⟨(g.cell (p:=⟨b,o+k,none⟩) hbr).trans q1,(g.cell (p:=⟨b',o'+k,none⟩) hbr').trans q2⟩
   clear hc hc' c0 c0' r0 r0' e1 e3 hm;go_wp2_with fail
   go_region_held3 (fun W'=>W'.cell? ⟨b,o+k,none⟩=some (.slice x1 xs.length y1)/\W'.cell? ⟨b',o'+k,none⟩=some (.slice x2 xs.length y2)) (first | with_reducible exact HAS.out _ GE.out | with_reducible exact HAS.out _ (Below.drew (Old.refl wr)) | with_reducible exact HAS.out _ (Old.refl wr)) (first
    | (go_at_call 45;refine (Qe5 xs _ _ _ (R1.out.old (Below.drew (Old.refl wr))) (R2.out.old (Below.drew (Old.refl wr))) hrl.1 hrl.2).mono ?_;rintro e w2 ⟨rfl,ge⟩;have GE:=Qaa (Old.trans (Below.drew (Old.refl wr)) ge);clear ge)
    | fail)
   have HG2:=Qaa (Old.trans HG.out GE.out);go_wp2_with fail;exact ⟨⟨k+1,by omega,by go_num,HG2⟩,by simp [intOf];omega⟩
  ·go_wp2_with fail;go_ret;exact ⟨rfl,HG.out⟩
theorem Qh7 {A:Prop} (h:A):Hid A:=h
def XPr (xss yss:List (List Int)) (W:World) (lo hi:Nat) (g:Array Value):Prop:=∃a c a' c' B,g=#[.slice a xss.length c,.slice a' yss.length c']/\lo<=B/\B<=hi/\OwS xss W lo B (.slice a xss.length c)/\OwS yss W B hi (.slice a' yss.length c')
theorem Qzo (xss yss:List (List Int)):Far (XPr xss yss):=fun W W' lo hi v h hf hs=>by
 obtain ⟨a,c,a',c',B,e,h1,h2,o,o'⟩:=h;exact ⟨a,c,a',c',B,e,h1,h2,Qdz xss W W' lo B _ o (fun k q1 q2=>hf k q1 (by omega)) (by omega),Qdz yss W W' B hi _ o' (fun k q1 q2=>hf k (by omega) q2) hs⟩
theorem Qst {xss yss:List (List Int)} (W:World) (lo hi:Nat) (g:Array Value) (h:XPr xss yss W lo hi g):∃a c a' c',g=#[.slice a xss.length c,.slice a' yss.length c']:=by
 obtain ⟨a,c,a',c',B,e,h1,h2,o,o'⟩:=h;exact ⟨a,c,a',c',e⟩
def Qet (left:Int) (xss yss:List (List Int)):Int:=if Qa7 left xss<0 then -1 else Qa7 (Qa7 left xss) yss
theorem Qsu {xss yss:List (List Int)} {left:Int} (h0:0<=left) (h:¬Qet left xss yss<0):¬Qa7 left xss<0/\0<=Qa7 left xss/\Qet left xss yss=Qa7 (Qa7 left xss) yss/\¬Qa7 (Qa7 left xss) yss<0:=by
 unfold Qet at h ⊢
 by_cases hx:Qa7 left xss<0
 ·rw [if_pos hx] at h;omega
 ·rw [if_neg hx] at h ⊢;exact ⟨hx,by omega,rfl,h⟩
theorem Q12 (xss yss:List (List Int)) (v v':Value) (left:Int) (w:World) (hv:Qci w v xss) (hv':Qci w v' yss) (hl:xss.length<=9223372036854775807) (hr:∀r∈xss,r.length<=9223372036854775807) (hl':yss.length<=9223372036854775807) (hr':∀r∈yss,r.length<=9223372036854775807) (h0:0<=left) (h1:left<=1048576) :
 Calls Tryz.prog 5 #[.agg #[v,v'],.int .i64 left] w fun e w'=>e=.returned (.int .i64 (Qet left xss yss))/\Old w w':=by
 have c1:=Qh7 (fun W (h:Old w W)=>Qh3 xss v left W (hv.old h) hl hr h0 h1);have c2:=Qh7 (fun W (h:Old w W) (z:Int) (hz0:0<=z) (hz1:z<=1048576)=>Qh3 yss v' z W (hv'.old h) hl' hr' hz0 hz1);obtain ⟨a0,cap0,ev⟩:=hv.slice;obtain ⟨a1,cap1,ev'⟩:=hv'.slice;subst ev ev';have HA:Hid (Old w (w.alloc (.cells #[.slice a0 xss.length cap0,.slice a1 yss.length cap1] 27))):=(Old.refl w).alloc _;have HB:Hid (Bk (w.alloc (.cells #[.slice a0 xss.length cap0,.slice a1 yss.length cap1] 27)) w.heap.size #[.slice a0 xss.length cap0,.slice a1 yss.length cap1] 27):=Bk.new' w _ _ rfl;clear hv hr hv' hr' hl hl'
 by_cases hz:Qa7 left xss<0
 ·have e1:=Qjy h0 hz;rw [show Qet left xss yss = -1 by unfold Qet;rw [if_pos hz]];rw [e1] at c1;clear hz e1 c2;go_enter Tryz.func5,Tryz.ntmps5;go_wp2_with fail;refine (c1.out _ HA.out).mono ?_
  rintro e w1 ⟨rfl,g1⟩;have HG:=Qaa (Old.trans HA.out g1);clear g1;go_wp2_with fail;go_ret;exact ⟨rfl,HG.out⟩
 ·have d:=decide_eq_false hz;have ok:=Qh2 h0 hz;rw [show Qet left xss yss=Qa7 (Qa7 left xss) yss by unfold Qet;rw [if_neg hz]];have hzb:0≤Qa7 left xss∧Qa7 left xss≤1048576:=⟨ok.1,by omega⟩;clear hz ok;generalize Qa7 left xss=z at *;have c3:=Qh7 (fun W (h:Old w W)=>c2.out W h z hzb.1 hzb.2);clear c2
  by_cases hy:Qa7 z yss<0
  ·have e1:=Qjy hzb.1 hy;rw [e1] at c3 ⊢;clear hy e1;go_enter Tryz.func5,Tryz.ntmps5;go_wp2_with fail;refine (c1.out _ HA.out).mono ?_
   rintro e w1 ⟨rfl,g1⟩;have HG:=Qaa (Old.trans HA.out g1);have HB1:=Qh7 (HB.out.old g1);have x1:=HB1.out.c (i:=1) rfl;clear g1;go_wp2_with fail;refine (c3.out _ HG.out).mono ?_
   rintro e w2 ⟨rfl,g2⟩;have HG2:=Qaa (Old.trans HG.out g2);clear g2 x1;go_wp2_with fail;go_ret;exact ⟨rfl,HG2.out⟩
  ·have d2:=decide_eq_false hy;generalize Qa7 z yss=z2 at *;go_enter Tryz.func5,Tryz.ntmps5;go_wp2_with fail;refine (c1.out _ HA.out).mono ?_
   rintro e w1 ⟨rfl,g1⟩;have HG:=Qaa (Old.trans HA.out g1);have HB1:=Qh7 (HB.out.old g1);have x1:=HB1.out.c (i:=1) rfl;clear g1;go_wp2_with fail;refine (c3.out _ HG.out).mono ?_
   rintro e w2 ⟨rfl,g2⟩;have HG2:=Qaa (Old.trans HG.out g2);clear g2 x1;go_wp2_with fail;go_ret;exact ⟨rfl,HG2.out⟩
theorem Q13 (xss yss:List (List Int)) (v v':Value) (w:World) (h:Qci w v xss) (h':Qci w v' yss) (hl:xss.length<=1048576) (hr:∀r∈xss,r.length<=1048576) (hl':yss.length<=1048576) (hr':∀r∈yss,r.length<=1048576) :
 Calls Tryz.prog 8 #[.agg #[v,v']] w fun e w'=>∃g,e=.returned (.agg g)/\Old w w'/\XPr xss yss w' w.heap.size w'.heap.size g:=by
 have c1:=Qh7 (fun W (q:Old w W)=>Qh4 xss v W (h.old q) hl hr);have c2:=Qh7 (fun W (q:Old w W)=>Qh4 yss v' W (h'.old q) hl' hr');obtain ⟨a0,cap0,ev⟩:=h.slice;obtain ⟨a1,cap1,ev'⟩:=h'.slice;subst ev ev';clear h hr h' hr' hl hl';obtain ⟨B1,hB1⟩:∃B:World,((w.alloc (.cells #[.slice a0 xss.length cap0,.slice a1 yss.length cap1] 27)).alloc (.cells #[.slice none 0 0,.slice none 0 0] 37)).alloc (.cells #[.slice none 0 0,.slice none 0 0] 37)=B:=⟨_,rfl⟩
 have O1:Hid (Old w B1):=by rw [<- hB1];exact (((Old.refl w).alloc _).alloc _).alloc _
 have P1:Hid (Bk B1 w.heap.size #[.slice a0 xss.length cap0,.slice a1 yss.length cap1] 27):=by rw [<- hB1];exact ((Bk.new' w _ _ rfl).alloc _).alloc _
 have Q1:Hid (Bk B1 (w.heap.size+1) #[.slice none 0 0,.slice none 0 0] 37):=by rw [<- hB1];exact (Bk.new' _ _ _ (by simp)).alloc _
 have R1:Hid (Bk B1 (w.heap.size+1+1) #[.slice none 0 0,.slice none 0 0] 37):=by rw [<- hB1];exact Bk.new' _ _ _ (by simp)
 have S1:Hid (B1.heap.size=w.heap.size+1+1+1):=by rw [<- hB1];show _ = _;simp
 obtain ⟨kp,hkp⟩:∃kp,w.heap.size=kp:=⟨_,rfl⟩
 have HKP:=Qh7 hkp;rw [hkp] at P1 Q1 R1 S1;have x0:=P1.out.c (i:=0) rfl;go_enter Tryz.func8,Tryz.ntmps8;go_wp2_with fail;refine (c1.out _ O1.out).mono ?_
 rintro e w1 ⟨v1,rfl,g1,o1,b1,d1,rfl⟩;have G1:=Qh7 (Old.trans O1.out g1);have P2:=Qh7 (P1.out.old g1);have Q2:=Qh7 (Q1.out.old g1);have R2:=Qh7 (R1.out.old g1)
 have O2:Hid (OwS xss w1 (kp+1+1+1) w1.heap.size (.slice b1 xss.length d1)):=by
  have:=o1;rw [S1.out] at this;exact this
 have z0:=R2.out.c (i:=0) rfl;have f0:w1.frozen? ⟨kp+1+1,0,none⟩=false:=by simp [World.frozen?,show w1.heap[kp+1+1]? = _ from R2.out]
 clear g1 o1 x0 hB1 hkp;obtain ⟨B2,hB2⟩:∃B:World,w1.setCell ⟨kp+1+1,0,none⟩ (.slice b1 xss.length d1)=B:=⟨_,rfl⟩
 have hS:B2.heap.size=w1.heap.size:=by rw [<- hB2];simp
 have O3:Hid (Old w B2):=by rw [<- hB2];exact G1.out.own (p:=⟨kp+1+1,0,none⟩) (by have:=HKP.out;show w.heap.size<=kp+1+1;omega) _
 have P3:Hid (Bk B2 kp #[.slice a0 xss.length cap0,.slice a1 yss.length cap1] 27):=by rw [<- hB2];exact (heap_setCell_other w1 ⟨kp+1+1,0,none⟩ kp _ (by show kp≠kp+1+1;omega)).trans P2.out
 have Q3:Hid (Bk B2 (kp+1) #[.slice none 0 0,.slice none 0 0] 37):=by rw [<- hB2];exact (heap_setCell_other w1 ⟨kp+1+1,0,none⟩ (kp+1) _ (by show kp+1≠kp+1+1;omega)).trans Q2.out
 have R3:Hid (Bk B2 (kp+1+1) #[.slice b1 xss.length d1,.slice none 0 0] 37):=by rw [<- hB2];exact heap_setCell_same w1 (kp+1+1) 0 _ _ _ R2.out
 have O4:Hid (OwS xss B2 (kp+1+1+1) w1.heap.size (.slice b1 xss.length d1)):=by rw [<- hB2];exact O2.out.put (Or.inl (by omega))
 have L1:Hid (kp+1+1+1<=w1.heap.size):=by have h3:=R2.out.lt;show _<=_;omega
 clear O2 P2 Q2 R2 G1 O1 P1 Q1 R1 S1;have x1:=P3.out.c (i:=1) rfl;go_wp2_with fail;refine (c2.out _ O3.out).mono ?_
 rintro e w2 ⟨v2,rfl,g2,o2,b2,d2,rfl⟩;have G2:=Qh7 (Old.trans O3.out g2);have Q4:=Qh7 (Q3.out.old g2);have R4:=Qh7 (R3.out.old g2);have O5:=Qaa ((Qdz xss).old O4.out g2 (by omega));have O6:Hid (OwS yss w2 w1.heap.size w2.heap.size (.slice b2 yss.length d2)):=by rw [<- hS];exact o2
 have L2:Hid (w1.heap.size<=w2.heap.size):=by rw [<- hS];exact g2.size
 clear g2 o2 x1 O4 O3 P3 Q3 R3 hB2 hS;obtain ⟨km,hkm⟩:∃k,w1.heap.size=k:=⟨_,rfl⟩
 rw [hkm] at O5 O6 L1 L2;have z0:=R4.out.c (i:=0) rfl;have z1:=R4.out.c (i:=1) rfl;have f1:w2.frozen? ⟨kp+1+1,1,none⟩=false:=by simp [World.frozen?,show w2.heap[kp+1+1]? = _ from R4.out]
 have z2:=Q4.out.c (i:=0) rfl;have z3:=Q4.out.c (i:=1) rfl;have f2:w2.frozen? ⟨kp+1,0,none⟩=false:=by simp [World.frozen?,show w2.heap[kp+1]? = _ from Q4.out]
 have f3:w2.frozen? ⟨kp+1,1,none⟩=false:=by simp [World.frozen?,show w2.heap[kp+1]? = _ from Q4.out]
 go_wp2_with fail;have hkp':=HKP.out;have l1:=L1.out;have l2:=L2.out;have Q5:Bk (w2.setCell ⟨kp+1+1,1,none⟩ (.slice b2 yss.length d2)) (kp+1) #[.slice none 0 0,.slice none 0 0] 37:=(heap_setCell_other w2 ⟨kp+1+1,1,none⟩ (kp+1) _ (by show kp+1≠kp+1+1;omega)).trans Q4.out;have Q6:Bk (((w2.setCell ⟨kp+1+1,1,none⟩ (.slice b2 yss.length d2)).setCell ⟨kp+1,0,none⟩ (.slice b1 xss.length d1)).setCell ⟨kp+1,1,none⟩ (.slice b2 yss.length d2)) (kp+1) #[.slice b1 xss.length d1,.slice b2 yss.length d2] 37:=heap_setCell_same _ (kp+1) 1 _ _ _ (heap_setCell_same _ (kp+1) 0 _ _ _ Q5);have q0:=Q6.c (i:=0) rfl;have q1:=Q6.c (i:=1) rfl;refine bodyPost_ret (v:=.agg #[.slice b1 xss.length d1,.slice b2 yss.length d2]) (by simp [results,Tryz.results8,go_sem,q0,q1]) rfl ?_
 refine ⟨_,rfl,((G2.out.own (p:=⟨kp+1+1,1,none⟩) (by show w.heap.size<=kp+1+1;omega) _).own (p:=⟨kp+1,0,none⟩) (by show w.heap.size<=kp+1;omega) _).own (p:=⟨kp+1,1,none⟩) (by show w.heap.size<=kp+1;omega) _,b1,d1,b2,d2,km,rfl,by omega,by simp;omega,?_,?_⟩
 ·exact (((O5.out.put (k:=kp+1+1) (j:=1) (x:=.slice b2 yss.length d2) (by omega)).put (k:=kp+1) (j:=0) (x:=.slice b1 xss.length d1) (by omega)).put (k:=kp+1) (j:=1) (x:=.slice b2 yss.length d2) (by omega)).low (by omega)
 ·exact (((O6.out.put (k:=kp+1+1) (j:=1) (x:=.slice b2 yss.length d2) (by omega)).put (k:=kp+1) (j:=0) (x:=.slice b1 xss.length d1) (by omega)).put (k:=kp+1) (j:=1) (x:=.slice b2 yss.length d2) (by omega)).high (by simp) (Nat.le_refl _)
theorem XPr.rows {xss yss:List (List Int)} {W:World} {lo hi:Nat} {g:Array Value} (h:XPr xss yss W lo hi g):∃a c a' c',g=#[.slice a xss.length c,.slice a' yss.length c']/\Qci W (.slice a xss.length c) xss/\Qci W (.slice a' yss.length c') yss:=by
 obtain ⟨a,c,a',c',B,e,h1,h2,o,o'⟩:=h;exact ⟨a,c,a',c',e,o.rowS,o'.rowS⟩
theorem Qof (xss yss:List (List Int)) (v0 v1 v2 v3:Value) (w:World) (r0:Qci w v0 xss) (r1:Qci w v1 yss) (r2:Qci w v2 xss) (r3:Qci w v3 yss) (hl:xss.length<=1048576) (hr:∀r∈xss,r.length<=1048576) (hl':yss.length<=1048576) (hr':∀r∈yss,r.length<=1048576) :
 Calls Tryz.prog 13 #[.agg #[v0,v1],.agg #[v2,v3]] w fun e w'=>e=.returned (.bool true)/\Old w w':=by
 have K1:=Qh7 (fun W (q:Old w W)=>Qe5 xss _ _ W (r0.old q) (r2.old q) hl hr);have K2:=Qh7 (fun W (q:Old w W)=>Qe5 yss _ _ W (r1.old q) (r3.old q) hl' hr');obtain ⟨a0,c0,rfl⟩:=r0.slice;obtain ⟨a1,c1,rfl⟩:=r1.slice;obtain ⟨a2,c2,rfl⟩:=r2.slice;obtain ⟨a3,c3,rfl⟩:=r3.slice;clear r0 r1 r2 r3 hl hr hl' hr';obtain ⟨B1,hB1⟩:∃B:World,(w.alloc (.cells #[.slice a0 xss.length c0,.slice a1 yss.length c1] 37)).alloc (.cells #[.slice a2 xss.length c2,.slice a3 yss.length c3] 37)=B:=⟨_,rfl⟩
 have O1:Hid (Old w B1):=by rw [<- hB1];exact ((Old.refl w).alloc _).alloc _
 have P1:Hid (Bk B1 w.heap.size #[.slice a0 xss.length c0,.slice a1 yss.length c1] 37):=by rw [<- hB1];exact (Bk.new' w _ _ rfl).alloc _
 have Q1:Hid (Bk B1 (w.heap.size+1) #[.slice a2 xss.length c2,.slice a3 yss.length c3] 37):=by rw [<- hB1];exact Bk.new' _ _ _ (by simp)
 have x0:=P1.out.c (i:=0) rfl;have y0:=Q1.out.c (i:=0) rfl;go_enter Tryz.func13,Tryz.ntmps13;go_wp2_with fail;refine (K1.out _ O1.out).mono ?_
 rintro e w1 ⟨rfl,g1⟩;have HG:=Qaa (Old.trans O1.out g1);have P2:=Qh7 (P1.out.old g1);have Q2:=Qh7 (Q1.out.old g1);have x1:=P2.out.c (i:=1) rfl;have y1:=Q2.out.c (i:=1) rfl;clear g1 x0 y0 hB1 O1 P1 Q1 K1;go_wp2_with fail;refine (K2.out _ HG.out).mono ?_
 rintro e w2 ⟨rfl,g2⟩;have HG2:=Qaa (Old.trans HG.out g2);clear g2 x1 y1;go_wp2_with fail;go_ret;exact ⟨rfl,HG2.out⟩
theorem Q14 (xss yss:List (List Int)) (w:World) (lo hi:Nat) (g:Array Value) (lo' hi':Nat) (g':Array Value) (h:XPr xss yss w lo hi g) (h':XPr xss yss w lo' hi' g') (hl:xss.length<=1048576) (hr:∀r∈xss,r.length<=1048576) (hl':yss.length<=1048576) (hr':∀r∈yss,r.length<=1048576) :
 Calls Tryz.prog 13 #[.agg g,.agg g'] w fun e w'=>e=.returned (.bool true)/\Old w w':=by
 obtain ⟨a0,c0,a1,c1,rfl,r0,r1⟩:=h.rows;obtain ⟨a2,c2,a3,c3,rfl,r2,r3⟩:=h'.rows;exact Qof xss yss _ _ _ _ w r0 r1 r2 r3 hl hr hl' hr'
def XPm (k:Int) (xss yss:List (List Int)) (W:World) (lo hi:Nat) (g:Array Value):Prop:=∃a c a' c' B,g=#[.slice a xss.length c,.slice a' yss.length c']/\lo<=B/\B<=hi/\OwM k xss W lo B (.slice a xss.length c)/\OwM (k+Qa4 xss xss.length) yss W B hi (.slice a' yss.length c')
theorem OwM.hh {k:Int} {xss:List (List Int)} {W:World} {lo hi:Nat} {v:Value} (h:OwM k xss W lo hi v):hi<=W.heap.size:=by
 obtain ⟨_,_,_,q⟩:=h;exact q.1
theorem Qv1 (xss yss:List (List Int)) (k:Int) (w:World) (lo hi:Nat) (g:Array Value) (h:XPr xss yss w lo hi g) (hl:xss.length<=1048576) (hr:∀r∈xss,r.length<=1048576) (hl':yss.length<=1048576) (hr':∀r∈yss,r.length<=1048576) (hk:0<=k) (hs:k+(Qa4 xss xss.length:Int)+(Qa4 yss yss.length:Int)<=1073741824) :
 Calls Tryz.prog 16 #[.agg g,.int .i64 k] w fun e w'=>e=.returned (.int .i64 (k+Qa4 xss xss.length+Qa4 yss yss.length))/\Chg w w' lo hi/\XPm k xss yss w' lo hi g:=by
 obtain ⟨a0,c0,a1,c1,B,rfl,hlo,hhi,o,o'⟩:=h;obtain ⟨B1,hB1⟩:∃B:World,w.alloc (.cells #[.slice a0 xss.length c0,.slice a1 yss.length c1] 37)=B:=⟨_,rfl⟩
 have O1:Old w B1:=by rw [<- hB1];exact (Old.refl w).alloc _
 have HA:=Qaa (O1.toChg lo hi);have P1:Hid (Bk B1 w.heap.size #[.slice a0 xss.length c0,.slice a1 yss.length c1] 37):=by rw [<- hB1];exact Bk.new' w _ _ rfl
 have HX:=Qaa ((Qdz xss).old o O1 o.1);have HY:=Qaa ((Qdz yss).old o' O1 o'.1);have hhw:=o'.1;have HR:=Qh7 hr;have HR':=Qh7 hr';have hs1:k+(Qa4 xss xss.length:Int)<=1073741824:=by omega
 have HS:=Qh7 hs;clear o o' hr hr' O1 hs;have x0:=P1.out.c (i:=0) rfl;go_enter Tryz.func16,Tryz.ntmps16;go_wp2_with fail;refine (Qfv xss _ k lo B _ HX.out hl HR.out hk hs1).mono ?_
 rintro e w1 ⟨rfl,g1,o1⟩;have HG:=Qaa (Chg.trans HA.out (g1.wide (Nat.le_refl _) hhi));have HM:=Qaa o1;have HY1:=Qaa ((Qdz yss).chg HY.out g1 HY.out.1 (Or.inr (Nat.le_refl _)));have P2:Hid (Bk w1 w.heap.size #[.slice a0 xss.length c0,.slice a1 yss.length c1] 37):=(g1.block _ P1.out.lt (Or.inr (by omega))).trans P1.out;clear g1 o1 x0 HX HY hB1 P1 HA;have x1:=P2.out.c (i:=1) rfl;obtain ⟨m,hm⟩:∃m:Int,k+(Qa4 xss xss.length:Int)=m:=⟨_,rfl⟩
 have HMM:=Qh7 hm;have hm0:0<=m:=by omega
 rw [hm] at HS ⊢;clear hm;go_wp2_with fail;refine (Qfv yss _ m B hi _ HY1.out hl' HR'.out hm0 HS.out).mono ?_
 rintro e w2 ⟨rfl,g2,o2⟩;have HG2:=Qaa (Chg.trans HG.out (g2.wide hlo (Nat.le_refl _)));have HM2:=Qaa ((Qss k xss).chg HM.out g2 HM.out.hh (Or.inl (Nat.le_refl _)));have HN2:=Qaa o2;clear g2 o2 x1 HY1 HM;go_wp2_with fail;go_ret;exact ⟨by rw [HMM.out];rfl,HG2.out,a0,c0,a1,c1,B,rfl,hlo,hhi,HM2.out,by rw [HMM.out];exact HN2.out⟩
def XC (xsss:List (List (List Int))) (W:World) (lo hi:Nat) (g:Array Value):Prop:=∃a c,g=#[.slice a xsss.length c]/\Ows (TTT xsss) W lo hi [.slice a xsss.length c]
theorem Qxs (xsss:List (List (List Int))):Far (XC xsss):=fun W W' lo hi v h hf hs=>by
 obtain ⟨a,c,e,o⟩:=h;exact ⟨a,c,e,Qkh (Qdb xsss) W W' lo hi _ o hf hs⟩
theorem Qkr {xsss:List (List (List Int))} (W:World) (lo hi:Nat) (g:Array Value) (h:XC xsss W lo hi g):∃a c,g=#[.slice a xsss.length c]:=by
 obtain ⟨a,c,e,o⟩:=h;exact ⟨a,c,e⟩
theorem Ows.rowT {xsss:List (List (List Int))} {W:World} {lo hi:Nat} {v:Value} (h:Ows (TTT xsss) W lo hi [v]):Qv0 W v xsss:=by
 obtain ⟨_,B,hT,_⟩:=h;exact TTT.rowT hT
theorem Ows.putT {xsss:List (List (List Int))} {W:World} {lo hi k j:Nat} {v x:Value} (h:Ows (TTT xsss) W lo hi [v]) (hk:k<lo∨hi<=k):Ows (TTT xsss) (W.setCell ⟨k,j,none⟩ x) lo hi [v]:=
 Qkh (Qdb xsss) W _ lo hi _ h (fun b h1 h2=>heap_setCell_other _ _ _ _ (by show b≠k;omega)) (by simp)
theorem Q3k (xsss:List (List (List Int))) (w:World) (lo hi:Nat) (g:Array Value) (lo' hi':Nat) (g':Array Value) (h:XC xsss w lo hi g) (h':XC xsss w lo' hi' g') (hl:xsss.length<=1048576) (hr:∀r∈xsss,r.length<=1048576/\∀q∈r,q.length<=1048576) :
 Calls Tryz.prog 11 #[.agg g,.agg g'] w fun e w'=>e=.returned (.bool true)/\Old w w':=by
 obtain ⟨a0,cap0,rfl,o⟩:=h;obtain ⟨a1,cap1,rfl,o'⟩:=h';have HR:=Qaa o.rowT;have HK:=Qaa o'.rowT;have HRR:=Qaa hr;clear o o' hr;go_enter Tryz.func11,Tryz.ntmps11;go_wp2_with fail;refine (Qmj xsss _ _ _ (HR.out.old (((Old.refl w).alloc _).alloc _)) (HK.out.old (((Old.refl w).alloc _).alloc _)) hl HRR.out).mono ?_
 rintro e w1 ⟨rfl,g1⟩;have HG:=Qaa (Old.trans (((Old.refl w).alloc _).alloc _) g1);clear g1;go_wp2_with fail;go_ret;exact ⟨rfl,HG.out⟩
theorem Qks (xss:List (List Int)) (v:Value) (k:Int) (lo hi:Nat) (w:World) (hv:OwM k xss w lo hi v) (hl:xss.length<=1048576) (hr:∀r∈xss,r.length<=1048576) (hk:0<=k) (hs:k+(Qa4 xss xss.length:Int)<=1073741824) :
 Calls Tryz.prog 80 #[v,.int .i64 k] w fun e w'=>e=.returned (.int .i64 (k+Qa4 xss xss.length))/\Old w w':=by
 obtain ⟨a0,cap0,ev⟩:=hv.slice;subst ev;obtain ⟨yss,hyl,hym,hyo⟩:=hv;have HR:=Qaa hr;have HY:=Qaa hyo.rowS;have HL:=Qaa hyl;have HM:=Qaa hym;have HS:=Qaa hs;clear hyl hym hyo hr hs;go_enter Tryz.func80,Tryz.ntmps80;go_wp2_with fail
 go_loopw [5,1] (fun i l W=>∃j:Nat,j<=xss.length/\i=.int .i64 j/\l=.int .i64 (k+Qa4 xss j)/\Hid (Old w W)) (fun i _ _=>xss.length - (intOf i).toNat)
 case atStart=>exact ⟨0,by omega,rfl,by rw [Qee];simp,Old.refl _⟩
 case round=>
  obtain ⟨j,hj,rfl,rfl,HG⟩:=hrel
  by_cases hlt:j<xss.length
  ·rcases HY.out with ⟨a,cap,e,e2⟩ | ⟨b,o,cap,us,e,hb2,h3,hc⟩
   ·have:=HL.out;subst e2;simp at this;omega
   have hyl:=HL.out;rw [<- hyl] at e;simp only [Value.slice.injEq,true_and] at e;obtain ⟨rfl,rfl⟩:=e;obtain ⟨c0,r0⟩:=hc j (by omega);have exy:=HM.out j hlt;rw [exy] at r0;have hm:xss.getD j []∈xss:=by simp [List.getD,hlt]
   have hrl:=HR.out _ hm;have hoj:=Qkq xss (j+1);have hos:=Qft xss j hlt;have hsum:=HS.out;obtain ⟨x1,y1,e1⟩:=r0.slice;rw [e1] at c0 r0;have q1:=(HG.out.cell (p:=⟨b,o+j,none⟩) hb2).trans c0;have R1:=Qaa (r0.old HG.out);have HN4:Hid (k+(Qa4 xss (j+1):Int)=k+(Qa4 xss j:Int)+((xss.getD j []).length:Int)):=by show _ = _;rw [hos];omega
   have hkb:0<=k+(Qa4 xss j:Int)/\k+(Qa4 xss j:Int)+((xss.getD j []).length:Int)<=1073741824:=by omega
   clear hc c0 r0 e1 hm exy hyl h3 hoj hos hsum;generalize hnn:(Qa4 xss (j+1))=nxt at *;generalize (Qa4 xss j:Nat)=off at *;generalize (xss.getD j []).length=n at *;rw [Qbl] at *;have cm:=fun W h=>Ql3 n (.slice x1 n y1) (k+off) W h (by omega) (by omega) (by omega)
   have d2:decide (k+(off:Int)+(n:Int)<0)=false:=by simp;omega
   go_wp2_with fail;refine (cm _ R1.out).mono ?_
   rintro e w2 ⟨rfl,g2⟩;have N2:=Qaa (Old.trans HG.out g2);clear g2 cm;go_wp2_with fail;refine ⟨⟨j+1,by omega,by go_num,?_,N2⟩,by simp [intOf];omega⟩;rw [hnn,HN4.out]
  ·have d1:decide ((j:Int)<(xss.length:Int))=false:=by simp;omega
   obtain rfl:j=xss.length:=by omega
   go_wp2_with fail;go_ret;exact ⟨rfl,HG.out⟩
theorem Qsv:∀(xss:List (List Int)) (m:Nat),(∀r∈xss,r.length<=m)->Qa4 xss xss.length<=xss.length*m
 | [],m,h=>by simp [Qa4]
 | r :: rs,m,h=>by
   have h1:=Qsv rs m (fun r hr=>h r (List.mem_cons_of_mem _ hr));have h2:=h r (List.mem_cons_self ..)
   show r.length+Qa4 rs rs.length<=(rs.length+1)*m
   rw [Nat.add_mul];omega
def Qi1:Int->List (List Int)->List (List Int)
 | _,[]=>[]
 | k,r :: rs=>marks k r.length :: Qi1 (k+r.length) rs
theorem Qei:∀(xss:List (List Int)) (k:Int),(Qi1 k xss).length=xss.length
 | [],k=>rfl
 | r :: rs,k=>by
   show (Qi1 (k+r.length) rs).length+1=rs.length+1
   rw [Qei rs]
theorem Qkt:∀(xss:List (List Int)) (k:Int) (j:Nat),j<xss.length->(Qi1 k xss).getD j []=marks (k+Qa4 xss j) (xss.getD j []).length
 | [],k,j,h=>by simp at h
 | r :: rs,k,0,h=>by
   show marks k r.length=marks (k+((Qa4 (r :: rs) 0:Nat):Int)) _
   rw [Qee];simp
 | r :: rs,k,j+1,h=>by
   have:=Qkt rs (k+r.length) j (by simpa using h)
   show (Qi1 (k+r.length) rs).getD j []=marks (k+((r.length+Qa4 rs j:Nat):Int)) (rs.getD j []).length
   rw [this]
   congr 1
   omega
def mkT:Int->List (List (List Int))->List (List (List Int))
 | _,[]=>[]
 | k,r :: rs=>Qi1 k r :: mkT (k+Qa4 r r.length) rs
theorem Qe6:∀(xsss:List (List (List Int))) (k:Int),(mkT k xsss).length=xsss.length
 | [],k=>rfl
 | r :: rs,k=>by
   show (mkT (k+Qa4 r r.length) rs).length+1=rs.length+1
   rw [Qe6 rs]
theorem Qog:∀(xsss:List (List (List Int))) (k:Int) (j:Nat),j<xsss.length->(mkT k xsss).getD j []=Qi1 (k+Qcj xsss j) (xsss.getD j [])
 | [],k,j,h=>by simp at h
 | r :: rs,k,0,h=>by
   show Qi1 k r=Qi1 (k+((Qcj (r :: rs) 0:Nat):Int)) _
   rw [Qfw];simp
 | r :: rs,k,j+1,h=>by
   have:=Qog rs (k+Qa4 r r.length) j (by simpa using h)
   show (mkT (k+Qa4 r r.length) rs).getD j []=Qi1 (k+((Qa4 r r.length+Qcj rs j:Nat):Int)) (rs.getD j [])
   rw [this]
   congr 1
   omega
structure ChB (w w':World) (B:Nat->Prop):Prop where
 os:w'.os=w.os
 tape:w'.tape=w.tape
 output:w'.output=w.output
 size:w.heap.size<=w'.heap.size
 block:∀b,b<w.heap.size->¬B b->w'.heap[b]? = w.heap[b]?
theorem ChB.refl (w:World) (B:Nat->Prop):ChB w w B:=⟨rfl,rfl,rfl,Nat.le_refl _,fun _ _ _=>rfl⟩
theorem ChB.trans {a b c:World} {B:Nat->Prop} (h:ChB a b B) (k:ChB b c B):ChB a c B:=
 ⟨k.os.trans h.os,k.tape.trans h.tape,k.output.trans h.output,Nat.le_trans h.size k.size,fun i hi ho=>(k.block i (Nat.lt_of_lt_of_le hi h.size) ho).trans (h.block i hi ho)⟩
theorem ChB.sub {w w':World} {B C:Nat->Prop} (h:ChB w w' B) (hs:∀b,B b->C b):ChB w w' C:=
 ⟨h.os,h.tape,h.output,h.size,fun b hb hn=>h.block b hb (fun hx=>hn (hs b hx))⟩
theorem ChB.chg {w w':World} {B:Nat->Prop} {lo hi:Nat} (h:ChB w w' B) (hb:∀b,B b->lo<=b/\b<hi):Chg w w' lo hi:=
 ⟨h.os,h.tape,h.output,h.size,fun b hl ho=>h.block b hl (fun hx=>by have:=hb b hx;omega)⟩
theorem ChB.by_ {w w':World} {B:Nat->Prop} {ob:Option Nat} (g:w.grownBy w' ob) (hb:∀b,ob=some b->B b):ChB w w' B:=
 ⟨g.os,g.tape,g.output,g.size,fun b hl ho=>g.block b hl (fun h=>ho (hb b h.symm))⟩
theorem Qoh (xss:List (List Int)) (v:Value) (k:Int) (B:Nat->Prop) (w:World) (hv:TSS xss w B [v]) (hl:xss.length<=1048576) (hr:∀r∈xss,r.length<=1048576) (hk:0<=k) (hs:k+(Qa4 xss xss.length:Int)<=1073741824) :
 Calls Tryz.prog 46 #[v,.int .i64 k] w fun e w'=>e=.returned (.int .i64 (k+Qa4 xss xss.length))/\ChB w w' B/\TSS (Qi1 k xss) w' B [v]:=by
 rcases Nat.eq_zero_or_pos xss.length with h0 | h0
 ·obtain rfl:=List.length_eq_zero_iff.1 h0;have HF:Hid (TSS (Qi1 k []) w B [v]):=hv;obtain ⟨a,c,rfl⟩:=TSS.slice hv;clear hv h0;go_enter Tryz.func46,Tryz.ntmps46;go_wp2_with fail
  go_loopw [5,1] (fun i l W=>i=.int .i64 0/\l=.int .i64 k/\W=w) (fun _ _ _=>0)
  case atStart=>exact ⟨rfl,rfl,rfl⟩
  case round=>
   obtain ⟨rfl,rfl,hW⟩:=hrel;obtain rfl:w=wr:=hW.symm;go_wp2_with fail;go_ret;exact ⟨by simp [Qa4],ChB.refl w B,HF.out⟩
 rcases hv with ⟨h1,_,_⟩ | ⟨p,cap,vs,Bs,e,hc,hb⟩
 ·omega
 simp at e;subst e;have HR:=Qaa hr;have HS:=Qaa hs;have HBB:=Qaa (fun j b hj h=>(hb b).2 (.inr ⟨j,hj,h⟩));have HI:Hid (TSc 22 1 xss.length xss.length (fun q=>if q<0 then TI (marks (k+Qa4 xss q) (xss.getD q []).length) else TI (xss.getD q [])) w p cap vs Bs):=hc.ext (fun j _=>by simp)
 have HF:Hid (∀w',TSc 22 1 xss.length xss.length (fun q=>if q<xss.length then TI (marks (k+Qa4 xss q) (xss.getD q []).length) else TI (xss.getD q [])) w' p cap vs Bs->TSS (Qi1 k xss) w' B [.slice (some ⟨p,0,none⟩) xss.length cap]):=fun w' h=>by
  refine .inr ⟨p,cap,vs,Bs,by rw [Qei],?_,fun b=>by rw [Qei];exact hb b⟩;rw [Qei];exact h.ext (fun j hj=>by simp only [hj,if_true];rw [Qkt xss k j hj])
 have HGD:Hid (∀n j,GoodT (if j<n then TI (marks (k+Qa4 xss j) (xss.getD j []).length) else TI (xss.getD j []))):=fun n j=>by
  split
  ·exact Qcg _
  ·exact Qcg _
 have HC0:=Qaa (ChB.refl w B);clear hc hb hr hs;go_enter Tryz.func46,Tryz.ntmps46;go_wp2_with fail
 go_loopw [5,1] (fun i l W=>∃j:Nat,j<=xss.length/\i=.int .i64 j/\l=.int .i64 (k+Qa4 xss j)/\Hid (TSc 22 1 xss.length xss.length (fun q=>if q<j then TI (marks (k+Qa4 xss q) (xss.getD q []).length) else TI (xss.getD q [])) W p cap vs Bs)/\Hid (ChB w W B)) (fun i _ _=>xss.length - (intOf i).toNat)
 case atStart=>exact ⟨0,by omega,rfl,by rw [Qee];simp,HI,HC0⟩
 case round=>
  obtain ⟨j,hj,rfl,rfl,H1,HC⟩:=hrel;clear HI HC0
  by_cases hlt:j<xss.length
  ·have d1:decide ((j:Int)<(xss.length:Int))=true:=by simp;omega
   have hvl:vs.length=xss.length:=by have:=H1.out.row.1;omega
   have hel:=H1.out.el j hlt;simp only [Nat.lt_irrefl,if_false] at hel;rw [Qd0 (by omega)] at hel;obtain ⟨a',c',ex⟩:=hel.slice
   have hfit:(xss.getD j []).length<=c':=by
    obtain ⟨a3,c3,e3,_,f3,_⟩:=hel;simp at e3;rw [ex] at e3;simp at e3;rw [e3.2];exact f3
   rw [ex] at hel;have hbl:=hel.blocks
   have q1:wr.cell? ⟨p,j,none⟩=some (.slice a' (xss.getD j []).length c'):=by
    rw [World.ownsRow.cellAt H1.out.row j (by omega),<- ex];exact List.getElem?_eq_getElem _
   have hm:xss.getD j []∈xss:=by simp [List.getD,hlt]
   have hrl:=HR.out _ hm;have hoj:=Qkq xss (j+1);have hos:=Qft xss j hlt;have hsum:=HS.out;have hkb:0<=k+(Qa4 xss j:Int)/\k+(Qa4 xss j:Int)<=1073741824:=by omega
   have HN4:Hid (k+(Qa4 xss (j+1):Int)=k+(Qa4 xss j:Int)+((xss.getD j []).length:Int)):=by show _ = _;rw [hos];omega
   have HX:Hid (∀w2,wr.grownBy w2 (Value.slice a' (xss.getD j []).length c').ownBlock->Own w2 0 (.slice a' (xss.getD j []).length c') (marks (k+Qa4 xss j) (xss.getD j []).length)->ChB w w2 B/\TSc 22 1 xss.length xss.length (fun q=>if q<j+1 then TI (marks (k+Qa4 xss q) (xss.getD q []).length) else TI (xss.getD q [])) w2 p cap vs Bs):=fun w2 gr o=>by
    refine ⟨HC.out.trans (ChB.by_ gr (fun b hb=>HBB.out j b hlt ((hbl b).2 hb))),(H1.out.sub (HGD.out j) j hlt (E':=TI (marks (k+Qa4 xss j) (xss.getD j []).length)) (fun b h1 h2=>gr.block b h1 (fun e=>h2 ((hbl b).2 e.symm))) ?_).ext (fun q hq=>?_)⟩
    ·rw [Qd0 (by omega),ex];refine ⟨a',c',by rw [Qbl],?_,?_,?_⟩
     ·rw [Qbl];exact o
     ·rw [Qbl];exact hfit
     ·rw [Qbl];exact hbl
    ·by_cases h1:q=j
     ·subst h1;simp
     ·by_cases h2:q<j
      ·have h3:q<j+1:=by omega
       simp [h1,h2,h3]
      ·have h3:¬q<j+1:=by omega
       simp [h1,h2,h3]
   have HOI:=Qaa (hel.own (fun b _=>Nat.zero_le _));clear hel ex hbl hfit H1 hos hoj hsum hm hvl;generalize hnn:(Qa4 xss (j+1))=nxt at *;generalize (Qa4 xss j:Nat)=off at *;generalize xss.getD j []=xs at *;have cm:=fun W (h:Own W 0 (.slice a' xs.length c') xs)=>Qc9 xs _ (k+off) 0 W h (by omega) (by omega) (by omega)
   go_wp2_with fail;refine (cm _ HOI.out).mono ?_
   rintro e w2 ⟨rfl,g2,o2⟩;obtain ⟨n1,n2⟩:=HX.out w2 g2 o2;have N1:=Qaa n1;have N2:=Qaa n2;clear n1 n2 g2 o2 cm HX HOI;go_wp2_with fail;refine ⟨⟨j+1,by omega,by go_num,?_,N2,N1⟩,by simp [intOf];omega⟩;rw [hnn,HN4.out]
  ·have d1:decide ((j:Int)<(xss.length:Int))=false:=by simp;omega
   obtain rfl:j=xss.length:=by omega
   have HE:=Qaa (HF.out wr H1.out);clear H1 HF;go_wp2_with fail;go_ret;exact ⟨rfl,HC.out,HE.out⟩
theorem Qmk (xsss:List (List (List Int))) (v:Value) (k:Int) (B:Nat->Prop) (w:World) (hv:TTT xsss w B [v]) (hl:xsss.length<=1048576) (hr:∀r∈xsss,r.length<=1048576/\∀q∈r,q.length<=1048576) (hk:0<=k) (hs:k+(Qcj xsss xsss.length:Int)<=1073741824) :
 Calls Tryz.prog 47 #[v,.int .i64 k] w fun e w'=>e=.returned (.int .i64 (k+Qcj xsss xsss.length))/\ChB w w' B/\TTT (mkT k xsss) w' B [v]:=by
 rcases Nat.eq_zero_or_pos xsss.length with h0 | h0
 ·obtain rfl:=List.length_eq_zero_iff.1 h0;have HF:Hid (TTT (mkT k []) w B [v]):=hv;obtain ⟨a,c,rfl⟩:=(TTT.rowT hv).slice;clear hv h0;go_enter Tryz.func47,Tryz.ntmps47;go_wp2_with fail
  go_loopw [5,1] (fun i l W=>i=.int .i64 0/\l=.int .i64 k/\W=w) (fun _ _ _=>0)
  case atStart=>exact ⟨rfl,rfl,rfl⟩
  case round=>
   obtain ⟨rfl,rfl,hW⟩:=hrel;obtain rfl:w=wr:=hW.symm;go_wp2_with fail;go_ret;exact ⟨by simp [Qcj],ChB.refl w B,HF.out⟩
 rcases hv with ⟨h1,_,_⟩ | ⟨p,cap,vs,Bs,e,hc,hb⟩
 ·omega
 simp at e;subst e;have HR:=Qaa hr;have HS:=Qaa hs;have HBB:=Qaa (fun j b hj h=>(hb b).2 (.inr ⟨j,hj,h⟩));have HI:Hid (TSc 25 1 xsss.length xsss.length (fun q=>if q<0 then TSS (Qi1 (k+Qcj xsss q) (xsss.getD q [])) else TSS (xsss.getD q [])) w p cap vs Bs):=hc.ext (fun j _=>by simp)
 have HF:Hid (∀w',TSc 25 1 xsss.length xsss.length (fun q=>if q<xsss.length then TSS (Qi1 (k+Qcj xsss q) (xsss.getD q [])) else TSS (xsss.getD q [])) w' p cap vs Bs->TTT (mkT k xsss) w' B [.slice (some ⟨p,0,none⟩) xsss.length cap]):=fun w' h=>by
  refine .inr ⟨p,cap,vs,Bs,by rw [Qe6],?_,fun b=>by rw [Qe6];exact hb b⟩;rw [Qe6];exact h.ext (fun j hj=>by simp only [hj,if_true];rw [Qog xsss k j hj])
 have HGD:Hid (∀n j,GoodT (if j<n then TSS (Qi1 (k+Qcj xsss j) (xsss.getD j [])) else TSS (xsss.getD j []))):=fun n j=>by
  split
  ·exact Qcd _
  ·exact Qcd _
 have HC0:=Qaa (ChB.refl w B);clear hc hb hr hs;go_enter Tryz.func47,Tryz.ntmps47;go_wp2_with fail
 go_loopw [5,1] (fun i l W=>∃j:Nat,j<=xsss.length/\i=.int .i64 j/\l=.int .i64 (k+Qcj xsss j)/\Hid (TSc 25 1 xsss.length xsss.length (fun q=>if q<j then TSS (Qi1 (k+Qcj xsss q) (xsss.getD q [])) else TSS (xsss.getD q [])) W p cap vs Bs)/\Hid (ChB w W B)) (fun i _ _=>xsss.length - (intOf i).toNat)
 case atStart=>exact ⟨0,by omega,rfl,by rw [Qfw];simp,HI,HC0⟩
 case round=>
  obtain ⟨j,hj,rfl,rfl,H1,HC⟩:=hrel;clear HI HC0
  by_cases hlt:j<xsss.length
  ·have d1:decide ((j:Int)<(xsss.length:Int))=true:=by simp;omega
   have hvl:vs.length=xsss.length:=by have:=H1.out.row.1;omega
   have hel:=H1.out.el j hlt;simp only [Nat.lt_irrefl,if_false] at hel;rw [Qd0 (by omega)] at hel;obtain ⟨a',c',ex⟩:=TSS.slice hel;rw [ex] at hel
   have q1:wr.cell? ⟨p,j,none⟩=some (.slice a' (xsss.getD j []).length c'):=by
    rw [World.ownsRow.cellAt H1.out.row j (by omega),<- ex];exact List.getElem?_eq_getElem _
   have hm:xsss.getD j []∈xsss:=by simp [List.getD,hlt]
   have hrl:=HR.out _ hm;have hoj:=Qoe xsss (j+1);have hos:=Qh6 xsss j hlt;have hsum:=HS.out;have hkb:0<=k+(Qcj xsss j:Int)/\k+(Qcj xsss j:Int)+(Qa4 (xsss.getD j []) (xsss.getD j []).length:Int)<=1073741824:=by omega
   have HN4:Hid (k+(Qcj xsss (j+1):Int)=k+(Qcj xsss j:Int)+(Qa4 (xsss.getD j []) (xsss.getD j []).length:Int)):=by show _ = _;rw [hos];omega
   have HX:Hid (∀w2,ChB wr w2 (Bs j)->TSS (Qi1 (k+Qcj xsss j) (xsss.getD j [])) w2 (Bs j) [.slice a' (xsss.getD j []).length c']->ChB w w2 B/\TSc 25 1 xsss.length xsss.length (fun q=>if q<j+1 then TSS (Qi1 (k+Qcj xsss q) (xsss.getD q [])) else TSS (xsss.getD q [])) w2 p cap vs Bs):=fun w2 gr o=>by
    refine ⟨HC.out.trans (gr.sub (fun b hb=>HBB.out j b hlt hb)),(H1.out.sub (HGD.out j) j hlt (E':=TSS (Qi1 (k+Qcj xsss j) (xsss.getD j []))) (fun b h1 h2=>gr.block b h1 h2) ?_).ext (fun q hq=>?_)⟩
    ·rw [Qd0 (by omega),ex];exact o
    ·by_cases h1:q=j
     ·subst h1;simp
     ·by_cases h2:q<j
      ·have h3:q<j+1:=by omega
       simp [h1,h2,h3]
      ·have h3:¬q<j+1:=by omega
       simp [h1,h2,h3]
   have HOI:=Qaa hel;clear hel ex H1 hos hoj hsum hm hvl;generalize hnn:(Qcj xsss (j+1))=nxt at *;generalize (Qcj xsss j:Nat)=off at *;generalize xsss.getD j []=xss at *;have cm:=fun W (h:TSS xss W (Bs j) [.slice a' xss.length c'])=>Qoh xss _ (k+off) (Bs j) W h hrl.1 hrl.2 (by omega) (by omega)
   generalize Qa4 xss xss.length=ol at *;go_wp2_with fail;refine (cm _ HOI.out).mono ?_
   rintro e w2 ⟨rfl,g2,o2⟩;obtain ⟨n1,n2⟩:=HX.out w2 g2 o2;have N1:=Qaa n1;have N2:=Qaa n2;clear n1 n2 g2 o2 cm HX HOI;go_wp2_with fail;refine ⟨⟨j+1,by omega,by go_num,?_,N2,N1⟩,by simp [intOf];omega⟩;rw [hnn,HN4.out]
  ·have d1:decide ((j:Int)<(xsss.length:Int))=false:=by simp;omega
   obtain rfl:j=xsss.length:=by omega
   have HE:=Qaa (HF.out wr H1.out);clear H1 HF;go_wp2_with fail;go_ret;exact ⟨rfl,HC.out,HE.out⟩
theorem Qjk (xsss:List (List (List Int))) (v:Value) (k:Int) (B:Nat->Prop) (w:World) (hv:TTT (mkT k xsss) w B [v]) (hl:xsss.length<=1048576) (hr:∀r∈xsss,r.length<=1048576/\∀q∈r,q.length<=1048576) (hk:0<=k) (hs:k+(Qcj xsss xsss.length:Int)<=1073741824) :
 Calls Tryz.prog 48 #[v,.int .i64 k] w fun e w'=>e=.returned (.int .i64 (k+Qcj xsss xsss.length))/\Old w w':=by
 obtain ⟨a0,cap0,ev⟩:=(TTT.rowT hv).slice;rw [Qe6] at ev;subst ev;have HR:=Qaa hr;have HS:=Qaa hs
 have HY:Hid (0<xsss.length->∃p,a0=some ⟨p,0,none⟩/\p<w.heap.size/\∀j,j<xsss.length->∃a c,w.cell? ⟨p,j,none⟩=some (.slice a (xsss.getD j []).length c)/\OwM (k+Qcj xsss j) (xsss.getD j []) w 0 w.heap.size (.slice a (xsss.getD j []).length c)):=fun h0=>by
  rcases hv with ⟨h1,_,_⟩ | ⟨p,cap,vs,Bs,e,hc,hb⟩
  ·rw [Qe6] at h1;omega
  ·simp only [List.cons.injEq,Value.slice.injEq,and_true] at e;obtain ⟨rfl,_,rfl⟩:=e;rw [Qe6] at hc;have hvl:vs.length=xsss.length:=by have:=hc.row.1;omega
   refine ⟨p,rfl,Qa1 hc.row,fun j hj=>?_⟩;have hel:=hc.el j hj;rw [Qd0 (by omega)] at hel
   have hel2:TSS (Qi1 (k+Qcj xsss j) (xsss.getD j [])) w (Bs j) [vs[j]'(by omega)]:=by
    rw [<- Qog xsss k j hj];exact hel
   obtain ⟨a,c,ex⟩:=TSS.slice hel2;rw [Qei] at ex;refine ⟨a,c,?_,Qi1 (k+Qcj xsss j) (xsss.getD j []),Qei _ _,fun q hq=>Qkt _ _ q hq,?_⟩
   ·rw [World.ownsRow.cellAt hc.row j (by omega),<- ex];exact List.getElem?_eq_getElem _
   ·rw [<- ex];exact TSS.whole hel2
 clear hv hr hs;go_enter Tryz.func48,Tryz.ntmps48;go_wp2_with fail
 go_loopw [5,1] (fun i l W=>∃j:Nat,j<=xsss.length/\i=.int .i64 j/\l=.int .i64 (k+Qcj xsss j)/\Hid (Old w W)) (fun i _ _=>xsss.length - (intOf i).toNat)
 case atStart=>exact ⟨0,by omega,rfl,by rw [Qfw];simp,Old.refl _⟩
 case round=>
  obtain ⟨j,hj,rfl,rfl,HG⟩:=hrel
  by_cases hlt:j<xsss.length
  ·obtain ⟨p,rfl,hp,hall⟩:=HY.out (by omega);obtain ⟨a,c,c0,om⟩:=hall j hlt;have q1:=(HG.out.cell (p:=⟨p,j,none⟩) hp).trans c0;have hm:xsss.getD j []∈xsss:=by simp [List.getD,hlt]
   have hrl:=HR.out _ hm;have hoj:=Qoe xsss (j+1);have hos:=Qh6 xsss j hlt;have hsum:=HS.out;have HN4:Hid (k+(Qcj xsss (j+1):Int)=k+(Qcj xsss j:Int)+(Qa4 (xsss.getD j []) (xsss.getD j []).length:Int)):=by show _ = _;rw [hos];omega
   have hkb:0<=k+(Qcj xsss j:Int)/\k+(Qcj xsss j:Int)+(Qa4 (xsss.getD j []) (xsss.getD j []).length:Int)<=1073741824:=by omega
   have HOM:=Qaa ((Qss _ _).old om HG.out (by obtain ⟨_,_,_,q⟩:=om;exact q.1));clear c0 om hm hoj hos hsum hall;generalize hnn:(Qcj xsss (j+1))=nxt at *;generalize (Qcj xsss j:Nat)=off at *;generalize xsss.getD j []=xss at *;have cm:=fun W h=>Qks xss (.slice a xss.length c) (k+off) 0 w.heap.size W h hrl.1 hrl.2 (by omega) (by omega)
   have d2:decide (k+(off:Int)+((Qa4 xss xss.length:Nat):Int)<0)=false:=by simp;omega
   generalize Qa4 xss xss.length=ol at *;go_wp2_with fail;refine (cm _ HOM.out).mono ?_
   rintro e w2 ⟨rfl,g2⟩;have N2:=Qaa (Old.trans HG.out g2);clear g2 cm;go_wp2_with fail;refine ⟨⟨j+1,by omega,by go_num,?_,N2⟩,by simp [intOf];omega⟩;rw [hnn,HN4.out]
  ·have d1:decide ((j:Int)<(xsss.length:Int))=false:=by simp;omega
   obtain rfl:j=xsss.length:=by omega
   go_wp2_with fail;go_ret;exact ⟨rfl,HG.out⟩
def XCm (k:Int) (xsss:List (List (List Int))) (W:World) (lo hi:Nat) (g:Array Value):Prop:=∃a c,g=#[.slice a xsss.length c]/\Ows (TTT (mkT k xsss)) W lo hi [.slice a xsss.length c]
theorem Qzp (k:Int) (xsss:List (List (List Int))):Far (XCm k xsss):=fun W W' lo hi v h hf hs=>by
 obtain ⟨a,c,e,o⟩:=h;exact ⟨a,c,e,Qkh (Qdb _) W W' lo hi _ o hf hs⟩
theorem Qsw {k:Int} {xsss:List (List (List Int))} (W:World) (lo hi:Nat) (g:Array Value) (h:XCm k xsss W lo hi g):∃a c,g=#[.slice a xsss.length c]:=by
 obtain ⟨a,c,e,o⟩:=h;exact ⟨a,c,e⟩
theorem Qzq (xsss:List (List (List Int))) (k:Int) (w:World) (lo hi:Nat) (g:Array Value) (h:XC xsss w lo hi g) (hl:xsss.length<=1048576) (hr:∀r∈xsss,r.length<=1048576/\∀q∈r,q.length<=1048576) (hk:0<=k) (hs:k+(Qcj xsss xsss.length:Int)<=1073741824) :
 Calls Tryz.prog 18 #[.agg g,.int .i64 k] w fun e w'=>e=.returned (.int .i64 (k+Qcj xsss xsss.length))/\Chg w w' lo hi/\XCm k xsss w' lo hi g:=by
 obtain ⟨a0,cap0,rfl,hh,B,hT,hB⟩:=h;have HO:Hid (TTT xsss (w.alloc (.cells #[.slice a0 xsss.length cap0] 32)) B [.slice a0 xsss.length cap0]):=(Qdb xsss).far hT (fun b hb=>((Old.refl w).alloc _).block b ((Qdb xsss).lt hT b hb));have HA:Hid (Chg w (w.alloc (.cells #[.slice a0 xsss.length cap0] 32)) lo hi):=((Old.refl w).alloc _).toChg lo hi;have HR:=Qaa hr;have HS:=Qaa hs;have HB:=Qaa hB;clear hT hr hs hB;go_enter Tryz.func18,Tryz.ntmps18;go_wp2_with fail;refine (Qmk xsss _ k B _ HO.out hl HR.out hk HS.out).mono ?_
 rintro e w1 ⟨rfl,g1,o1⟩;have HG:=Qaa (Chg.trans HA.out (g1.chg HB.out));have HM:Hid (XCm k xsss w1 lo hi #[.slice a0 xsss.length cap0]):=⟨a0,cap0,rfl,Nat.le_trans hh HG.out.size,B,o1,HB.out⟩;clear g1 o1;go_wp2_with fail;go_ret;exact ⟨rfl,HG.out,HM.out⟩
theorem Qzr (xsss:List (List (List Int))) (k:Int) (w:World) (lo hi:Nat) (g:Array Value) (h:XCm k xsss w lo hi g) (hl:xsss.length<=1048576) (hr:∀r∈xsss,r.length<=1048576/\∀q∈r,q.length<=1048576) (hk:0<=k) (hs:k+(Qcj xsss xsss.length:Int)<=1073741824) :
 Calls Tryz.prog 19 #[.agg g,.int .i64 k] w fun e w'=>e=.returned (.int .i64 (k+Qcj xsss xsss.length))/\Old w w':=by
 obtain ⟨a0,cap0,rfl,hh,B,hT,hB⟩:=h;have HO:Hid (TTT (mkT k xsss) (w.alloc (.cells #[.slice a0 xsss.length cap0] 32)) B [.slice a0 xsss.length cap0]):=(Qdb _).far hT (fun b hb=>((Old.refl w).alloc _).block b ((Qdb _).lt hT b hb));have HA:Hid (Old w (w.alloc (.cells #[.slice a0 xsss.length cap0] 32))):=(Old.refl w).alloc _;have HR:=Qaa hr;have HS:=Qaa hs;have d2:decide (k+((Qcj xsss xsss.length:Nat):Int)<0)=false:=by simp;omega
 clear hT hr hs hB;go_enter Tryz.func19,Tryz.ntmps19;go_wp2_with fail;refine (Qjk xsss _ k B _ HO.out hl HR.out hk HS.out).mono ?_
 rintro e w1 ⟨rfl,g1⟩;have HG:=Qaa (Old.trans HA.out g1);clear g1;go_wp2_with fail;go_ret;exact ⟨rfl,HG.out⟩
theorem Qsx:∀(xsss:List (List (List Int))) (m n:Nat),(∀r∈xsss,r.length<=m/\∀q∈r,q.length<=n)->Qcj xsss xsss.length<=xsss.length*(m*n)
 | [],m,n,h=>by simp [Qcj]
 | r :: rs,m,n,h=>by
   have h1:=Qsx rs m n (fun r hr=>h r (List.mem_cons_of_mem _ hr));have h2:=h r (List.mem_cons_self ..);have h3:=Qsv r n h2.2;have h4:=Nat.mul_le_mul_right n h2.1
   show Qa4 r r.length+Qcj rs rs.length<=(rs.length+1)*(m*n)
   rw [Nat.add_mul];omega
end Go.Proofs.YtdaepfjocofkjaaGreatDoor
namespace Go.Proofs.YtdaepfjocofkjaaGreatDoor
open Go.ChangeShapes Go.WideShapes Go.ChangeAt Go.RowKit
open M1
def rwA (N:Int) (ps:List Int) (xss:List (List Int)) (k:Nat):Bool:=decide (∀i,i<ps.length->k<=i->Qbe (ps.getD i 0) N (xss.getD i [])=true)
theorem Qsy {N:Int} {ps:List Int} {xss:List (List Int)} {k:Nat} (h:ps.length<=k):rwA N ps xss k=true:=decide_eq_true (fun i h1 h2=>by omega)
theorem Qxt {N:Int} {ps:List Int} {xss:List (List Int)} {k:Nat} (h:k<ps.length) (hk:Qbe (ps.getD k 0) N (xss.getD k [])=false):rwA N ps xss k=false:=
 decide_eq_false (fun f=>by rw [f k h (Nat.le_refl _)] at hk;cases hk)
theorem Qsz {N:Int} {ps:List Int} {xss:List (List Int)} {k:Nat} (hk:Qbe (ps.getD k 0) N (xss.getD k [])=true):rwA N ps xss k=rwA N ps xss (k+1):=by
 unfold rwA;apply decide_eq_decide.2;constructor
 ·exact fun f i h1 h2=>f i h1 (by omega)
 ·intro f i h1 h2;rcases Nat.eq_or_lt_of_le h2 with e | e
  ·subst e;exact hk
  ·exact f i h1 e
def rwB (N:Int) (ps:List Int) (xss:List (List Int)):Bool:=decide (xss.length=ps.length)&&rwA N ps xss 0
theorem Qh8 (N:Int) (ps:List Int) (xss:List (List Int)) (v u:Value) (w:World) (hv:Row w v ps) (hu:Qci w u xss) (hl:xss.length<=1048576) (hr:∀r∈xss,r.length<=1048576) (hs:spB N ps=true) :
 Calls Tryz.prog 51 #[.agg #[.int .i64 N,v],u] w fun e w'=>e=.returned (.bool (rwB N ps xss))/\Old w w':=by
 obtain ⟨hz,hbb,hring⟩:=Qc3 hs;have hlen:=(Qcs hbb).1;have HPM:=Qaa ((Qcs hbb).2);have HR:=Qaa hr;obtain ⟨a0,cap0,ev⟩:=hv.slice;obtain ⟨a1,cap1,eu⟩:=hu.slice;subst ev eu;have HV:=Qaa hv;have HU:=Qaa hu;clear hv hu hr hring hbb hz hs
 by_cases hn:xss.length=ps.length
 ·have HB:Hid (rwA N ps xss 0=rwB N ps xss):=by show _ = _;unfold rwB;rw [decide_eq_true hn];rfl
  have dn:((xss.length:Int) != (ps.length:Int))=false:=by simp;omega
  generalize rwB N ps xss=B at *;rcases HV.out with ⟨a,cap,e,e2⟩ | ⟨b,o,cap,e,hb,h1,hc⟩
  ·subst e2;simp at hlen
  simp only [Value.slice.injEq,true_and] at e;obtain ⟨rfl,rfl⟩:=e;rcases HU.out with ⟨a,cap,e,e2⟩ | ⟨b',o',cap,us,e,hb',h1',hc'⟩
  ·subst e2;simp at hn;omega
  simp only [Value.slice.injEq,true_and] at e;obtain ⟨rfl,rfl⟩:=e;have HC:=Qaa hc;have HC':=Qaa hc';have HNN:=Qaa hn;clear hc hc' hn;have HN:Hid (Old w (w.alloc (.cells #[.int .i64 N,.slice (some ⟨b,o,none⟩) ps.length cap0] 60))):=(Old.refl w).alloc _;go_enter Tryz.func51,Tryz.ntmps51;go_wp2_with fail
  go_loopw [16] (fun i W=>∃k:Nat,k<=ps.length/\i=.int .i64 k/\Hid (rwA N ps xss k=B)/\Hid (Old (w.alloc (.cells #[.int .i64 N,.slice (some ⟨b,o,none⟩) ps.length cap0] 60)) W)) (fun i _=>ps.length - (intOf i).toNat)
  case atStart=>exact ⟨0,by omega,rfl,HB,Old.refl _⟩
  case round=>
   obtain ⟨k,hk,rfl,H1,HG⟩:=hrel;clear HB;have HGw:=Qaa (Old.trans HN.out HG.out);have hsw:w.heap.size<wr.heap.size:=by have:=HG.out.size;simp at this;omega
   by_cases hlt:k<ps.length
   ·have hx:=HNN.out;have hkx:k<xss.length:=by omega
    have c1:=(HGw.out.cell (p:=⟨b,o+k,none⟩) hb).trans (HC.out k hlt);obtain ⟨c2,r2⟩:=HC'.out k hkx;obtain ⟨x1,y1,e1⟩:=r2.slice;rw [e1] at c2 r2;have hp:=Qq5 (HPM.out k hlt);have hm:xss.getD k []∈xss:=by simp [List.getD,hkx]
    have hrl:=HR.out _ hm;have c3:=(HGw.out.cell (p:=⟨b',o'+k,none⟩) hb').trans c2;have R3:=Qaa (r2.old HGw.out);have s0:wr.cell? ⟨w.heap.size,0,none⟩=some (.int .i64 N):=(HG.out.cell (p:=⟨w.heap.size,0,none⟩) (by simp)).trans (Qae _ _ _ _ _ rfl)
    have HY:=Qaa (fun h=>by have:=H1.out;rw [Qsz h] at this;exact this);have HNo:=Qaa (fun h=>by have:=H1.out;rw [Qxt hlt h] at this;exact this);generalize xss.getD k []=xs at *;generalize ps.getD k 0=p at *;have cp:=fun W (h:Row W (.slice x1 xs.length y1) xs)=>Qme p N 0 xs _ W h (by omega) hp
    obtain ⟨q,hq⟩:∃q,Qbe p N xs=q:=⟨_,rfl⟩
    rw [hq] at cp HY HNo;have hbr':=Nat.lt_of_lt_of_le hb' HGw.out.size;have HAS:Hid (∀W':World,Old wr W'->(W'.cell? ⟨w.heap.size,0,none⟩=some (.int .i64 N)/\W'.cell? ⟨b',o'+k,none⟩=some (.slice x1 xs.length y1))):=fun W' g=>⟨(g.cell (p:=⟨w.heap.size,0,none⟩) hsw).trans s0,(g.cell (p:=⟨b',o'+k,none⟩) hbr').trans c3⟩
    clear H1 c2 r2 e1 hm hq hx
    cases q
    ·have H3:=Qaa (HNo.out rfl);clear HY HNo;go_wp2_with fail
     go_region_held3 (fun W'=>W'.cell? ⟨w.heap.size,0,none⟩=some (.int .i64 N)/\W'.cell? ⟨b',o'+k,none⟩=some (.slice x1 xs.length y1)) (first | with_reducible exact HAS.out _ GE.out | with_reducible exact HAS.out _ (Below.drew (Old.refl wr)) | with_reducible exact HAS.out _ (Old.refl wr)) (first
      | (go_at_call 83;refine (cp _ (R3.out.old (Below.drew (Old.refl wr)))).mono ?_;rintro e w2 ⟨rfl,ge⟩;have GE:=Qaa (Old.trans (Below.drew (Old.refl wr)) ge);clear ge)
      | fail)
     have HG2:=Qaa (Old.trans HGw.out GE.out);go_wp2_with fail;go_ret;exact ⟨Qbt H3.out,HG2.out⟩
    ·have H3:=Qaa (HY.out rfl);clear HY HNo;go_wp2_with fail
     go_region_held3 (fun W'=>W'.cell? ⟨w.heap.size,0,none⟩=some (.int .i64 N)/\W'.cell? ⟨b',o'+k,none⟩=some (.slice x1 xs.length y1)) (first | with_reducible exact HAS.out _ GE.out | with_reducible exact HAS.out _ (Below.drew (Old.refl wr)) | with_reducible exact HAS.out _ (Old.refl wr)) (first
      | (go_at_call 83;refine (cp _ (R3.out.old (Below.drew (Old.refl wr)))).mono ?_;rintro e w2 ⟨rfl,ge⟩;have GE:=Qaa (Old.trans (Below.drew (Old.refl wr)) ge);clear ge)
      | fail)
     have HG2:=Qaa (Old.trans HG.out GE.out);go_wp2_with fail;exact ⟨⟨k+1,by omega,by go_num,H3,HG2⟩,by simp [intOf];omega⟩
   ·have H2:Hid (true=B):=by have:=H1.out;rw [Qsy (by omega)] at this;exact this
    clear H1;go_wp2_with fail;go_ret;exact ⟨Qbt H2.out,HGw.out⟩
 ·have HB:Hid (false=rwB N ps xss):=by show _ = _;unfold rwB;rw [decide_eq_false hn];rfl
  have dn:((xss.length:Int) != (ps.length:Int))=true:=by simp;omega
  generalize rwB N ps xss=B at *;clear hn;go_enter Tryz.func51,Tryz.ntmps51;go_wp2_with fail;go_ret;exact ⟨Qbt HB.out,(Old.refl w).alloc _⟩
theorem Qs0 (yss:List (List Int)) (r:List Int) (j:Nat) (h:j<yss.length):(yss++[r]).getD j []=yss.getD j []:=by
 simp [List.getD,List.getElem?_append_left h]
theorem Qs1 (yss:List (List Int)) (r:List Int):(yss++[r]).getD yss.length []=r:=by
 simp [List.getD]
theorem OwS.app {yss:List (List Int)} {wr W:World} {lo:Nat} {x:Value} {r:List Int} {a:Option Addr} {c:Nat} (h:OwS yss wr lo wr.heap.size x) (hlo:lo<=wr.heap.size) (g:Old wr W) (o:Own W wr.heap.size (.slice a r.length c) r) (hc:r.length<=c) :
 ∃vs,W.ownsRow lo 22 1 x yss.length vs/\(∀v' w',w'.ownsRow lo 22 1 v' (yss.length+1) (vs++[.slice a r.length c])->W.grownBy w' x.ownBlock->(v'.ownBlock=x.ownBlock∨v'.ownBlock=some W.heap.size)->OwS (yss++[r]) w' lo w'.heap.size v'):=by
 have key:∃vs:List Value,W.ownsRow lo 22 1 x yss.length vs/\vs.length=yss.length/\(∀p,x.ownBlock=some p->p<wr.heap.size)
  /\(∀j,j<yss.length->∃a c,vs[j]? = some (.slice a (yss.getD j []).length c)/\(yss.getD j []).length<=c/\Own wr lo (.slice a (yss.getD j []).length c) (yss.getD j [])/\(∀b,(Value.slice a (yss.getD j []).length c).ownBlock=some b->x.ownBlock≠some b))
  /\(∀(i j:Nat) (x y:Value) (b:Nat),i<j->vs[i]? = some x->vs[j]? = some y->x.ownBlock=some b->y.ownBlock=some b->False):=by
  obtain ⟨hh,⟨e,e2⟩ | ⟨p,cap,vs,e,hcap,hl,hhi,ho,hvl,hj,hd⟩⟩:=h
  ·subst e e2;refine ⟨[],⟨rfl,Or.inl ⟨rfl,rfl⟩⟩,rfl,(fun p hp=>by cases hp),(fun j hj=>by simp at hj),(fun i j x y b hij hx=>by simp at hx)⟩
  ·subst e;refine ⟨vs,?_,hvl,fun q hq=>?_,fun j hjl=>?_,hd⟩
   ·refine ⟨ho.1,?_⟩;rcases ho.2 with ⟨hn,_⟩ | ⟨p',cap',cur,e',hb',hgg,rest⟩
    ·cases hn
    ·refine .inr ⟨p',cap',cur,e',hb',?_,rest⟩;rw [g.block p' (Array.getElem?_eq_some_iff.1 hgg).1];exact hgg
   ·simp only [Value.ownBlock,Option.some.injEq] at hq;omega
   ·obtain ⟨a2,c2,e3,hc2,oj,hb2⟩:=hj j hjl;refine ⟨a2,c2,e3,hc2,oj.1,fun b hb hx=>hb2 b hb ?_⟩;simp only [Value.ownBlock,Option.some.injEq] at hx;exact hx.symm
 obtain ⟨vs,ho,hvl,hp,hj,hd⟩:=key;refine ⟨vs,ho,fun v' w' ho' gr hv'=>?_⟩;have hsz:=g.size
 have hrow:∀j,j<yss.length->∃a c,vs[j]? = some (.slice a (yss.getD j []).length c)/\(yss.getD j []).length<=c/\Own w' lo (.slice a (yss.getD j []).length c) (yss.getD j [])/\(∀b,(Value.slice a (yss.getD j []).length c).ownBlock=some b->b<wr.heap.size/\v'.ownBlock≠some b):=fun j hjl=>by
  obtain ⟨a2,c2,e3,hc2,oj,hb2⟩:=hj j hjl;refine ⟨a2,c2,e3,hc2,Own.by_ (oj.old g) gr (fun q y hx hy hxy=>?_),fun b hb=>⟨(oj.lt b hb).2,fun hx=>?_⟩⟩
  ·subst hxy;exact hb2 q hx hy
  ·rcases hv' with e | e
   ·exact hb2 b hb (e.symm.trans hx)
   ·rw [e] at hx;have:=(oj.lt b hb).2;simp only [Option.some.injEq] at hx;omega
 have hnew:=Own.low (Own.by_ o gr (fun q y hx hy hxy=>by
  subst hxy;have h1:=(o.lt q hx).1;have h2:=hp q hy;omega)) hlo
 have hnewb:∀b,(Value.slice a r.length c).ownBlock=some b->wr.heap.size<=b/\b<W.heap.size/\v'.ownBlock≠some b:=fun b hb=>by
  obtain ⟨h1,h2⟩:=o.lt b hb;refine ⟨h1,h2,fun hx=>?_⟩;rcases hv' with e | e
  ·have:=hp b (e.symm.trans hx);omega
  ·rw [e] at hx;simp only [Option.some.injEq] at hx;omega
 have ho2:=ho';rcases ho'.2 with ⟨_,h0⟩ | ⟨p',cap',cur,e',hb',hgg,hnc,rest⟩
 ·omega
 subst e';have hlt':=(Array.getElem?_eq_some_iff.1 hgg).1;refine ⟨Nat.le_refl _,Or.inr ⟨p',cap',vs++[.slice a r.length c],by simp,by simpa using hnc,hb',hlt',by simpa using ho2,by simp [hvl],fun j hjl=>?_,fun i j x y b hij hx hy hbx hby=>?_⟩⟩
 ·simp at hjl;rcases Nat.lt_or_ge j yss.length with h1 | h1
  ·rw [Qs0 yss r j h1];obtain ⟨a2,c2,e3,hc2,oj,hb2⟩:=hrow j h1;refine ⟨a2,c2,by rw [List.getElem?_append_left (by omega)];exact e3,hc2,⟨oj,Nat.le_refl _,fun b hb=>(oj.lt b hb).2⟩,fun b hb hx=>(hb2 b hb).2 ?_⟩;rw [hx];rfl
  ·obtain rfl:j=yss.length:=by omega
   rw [Qs1 yss r];refine ⟨a,c,by rw [<- hvl];simp,hc,⟨hnew,Nat.le_refl _,fun b hb=>(hnew.lt b hb).2⟩,fun b hb hx=>(hnewb b hb).2.2 ?_⟩;rw [hx];rfl
 ·have hjl:j<vs.length+1:=by
   have:=(List.getElem?_eq_some_iff.1 hy).1
   simpa using this
  rcases Nat.lt_or_ge j vs.length with h1 | h1
  ·rw [List.getElem?_append_left (by omega)] at hx hy;exact hd i j x y b hij hx hy hbx hby
  ·obtain rfl:j=vs.length:=by omega
   rw [List.getElem?_append_left (by omega)] at hx;simp at hy;subst hy;obtain ⟨a2,c2,e3,hc2,oj,hb2⟩:=hrow i (by omega);rw [e3] at hx;obtain rfl:=Option.some.inj hx;have h3:=(hb2 b hbx).1;have h4:=(hnewb b hby).1;omega
def Qco (f:Int->Int->Int->Int) (p:Int) (xs ys:List Int):List Int:=(List.range xs.length).map fun i=>f p (xs.getD i 0) (ys.getD i 0)
def Qb4 (f:Int->Int->Int->Int) (ps:List Int) (xss yss:List (List Int)):List (List Int):=(List.range ps.length).map fun k=>Qco f (ps.getD k 0) (xss.getD k []) (yss.getD k [])
theorem Qcp (f:Int->Int->Int->Int) (p:Int) (xs ys:List Int):(Qco f p xs ys).length=xs.length:=by simp [Qco]
theorem Qdn (f:Int->Int->Int->Int) (p:Int) (xs ys:List Int) (i:Nat) (h:i<xs.length):(Qco f p xs ys).getD i 0=f p (xs.getD i 0) (ys.getD i 0):=by simp [Qco,List.getD,h]
theorem Qb5 (f:Int->Int->Int->Int) (ps:List Int) (xss yss:List (List Int)):(Qb4 f ps xss yss).length=ps.length:=by simp [Qb4]
theorem Qdo (f:Int->Int->Int->Int) (ps:List Int) (xss yss:List (List Int)) (k:Nat) (h:k<ps.length):(Qb4 f ps xss yss).getD k []=Qco f (ps.getD k 0) (xss.getD k []) (yss.getD k []):=by simp [Qb4,List.getD,h]
theorem Qej (xs:List (List Int)) (k:Nat) (h:k<xs.length):xs.take (k+1)=xs.take k++[xs.getD k []]:=by
 rw [List.take_add_one];simp [List.getD,h]
def Qd3 (p x y:Int):Int:=(x+y)%p
end Go.Proofs.YtdaepfjocofkjaaGreatDoor
namespace Go.Proofs.YtdaepfjocofkjaaGreatDoor
open Go.ChangeShapes Go.WideShapes Go.ChangeAt Go.RowKit
theorem Row.recap {W:World} {a:Option Addr} {n c c':Nat} {xs:List Int} (h:Row W (.slice a n c) xs) (h0:xs≠[]):Row W (.slice a n c') xs:=by
 rcases h with ⟨_,_,e,e'⟩ | ⟨b,o,cap,e,r⟩
 ·exact absurd e' h0
 ·simp only [Value.slice.injEq] at e;obtain ⟨rfl,rfl,rfl⟩:=e;exact Or.inr ⟨b,o,c',rfl,r⟩
abbrev PrV:=List (List Int)×List (List Int)
abbrev pk (kss:List PrV) (j:Nat):PrV:=kss.getD j ([],[])
end Go.Proofs.YtdaepfjocofkjaaGreatDoor
