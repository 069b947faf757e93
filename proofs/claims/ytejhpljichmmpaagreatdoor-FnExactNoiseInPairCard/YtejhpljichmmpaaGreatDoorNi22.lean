/- Proved: what its theorems say. -/
import Derived.Test.YtejhpljichmmpaaGreatDoorNi11
import Derived.Test.YtejhpljichmmpaaGreatDoorNi14
import Derived.Test.YtejhpljichmmpaaGreatDoorNi15
import Derived.Test.YtejhpljichmmpaaGreatDoorNi21
import Derived.Test.YtejhpljichmmpaaGreatDoorNi25
set_option linter.unusedVariables false
set_option linter.unusedSimpArgs false
set_option maxHeartbeats 8000000
set_option maxRecDepth 100000
namespace Go.Proofs.YtejhpljichmmpaaGreatDoor
open Go.ChangeShapes Go.WideShapes Go.ChangeAt Go.RowKit
open M2
theorem Qnc (n:Nat) (w:World) (hn:cnt n<=80) :
 Calls Tryz.prog 110 #[.bool false,.agg (szV n)] w fun e w'=>∃v,e=.returned (.agg #[.bool false,v])/\Old w w'/\Own w' w.heap.size v (toI (dig n)):=by
 by_cases h0:n=0
 ·subst h0;refine (Qi1 false w).mono ?_
  rintro e w1 ⟨rfl,g1⟩;refine ⟨_,rfl,g1,?_⟩;rw [Qa7];exact Qrz _ _
 ·exact Qfr false n w h0 hn
end Go.Proofs.YtejhpljichmmpaaGreatDoor
namespace Go.Proofs.YtejhpljichmmpaaGreatDoor
open Go.ChangeShapes Go.WideShapes Go.ChangeAt Go.RowKit
def smR (p:Int) (ss:List Int):List Int:=ss.map (fun x=>x%p)
theorem Qjz (p:Int) (ss:List Int):(smR p ss).length=ss.length:=by simp [smR]
theorem Qnd (p:Int) (ss:List Int) (k:Nat) (h:k<ss.length):(smR p ss).getD k 0=ss.getD k 0%p:=by simp [smR,List.getD,h]
def smS (ps ss:List Int):List (List Int):=ps.map (fun p=>smR p ss)
theorem Qj0 (ps ss:List Int):(smS ps ss).length=ps.length:=by simp [smS]
theorem Qne (ps ss:List Int) (k:Nat) (h:k<ps.length):(smS ps ss).getD k []=smR (ps.getD k 0) ss:=by simp [smS,List.getD,h]
theorem Qr8 (p:Int) (ss:List Int) (kb:Nat) (sa:Option Addr) (sc:Nat) (w:World) (bK:Bk w kb #[.slice sa ss.length sc] 22) (hv:Row w (.slice sa ss.length sc) ss) (hl:1<=ss.length/\ss.length<=1000) (hs:∀i,i<ss.length->-9223372036854775808<=ss.getD i 0/\ss.getD i 0<=9223372036854775807) (hp:1<=p/\p<=4294967296) :
 Calls Tryz.prog 116 #[.int .i64 p,.pointer (some ⟨kb,0,none⟩)] w fun e w'=>∃v',e=.returned v'/\Old w w'/\Own w' w.heap.size v' (smR p ss):=by
 obtain ⟨i0,hi,hz0,hz1,hz2⟩:=info_parts Tryz.infoInt;rcases hv with ⟨_,_,e,e'⟩ | ⟨b1,o1,cap1,e,hb1,h01,hc1⟩
 ·subst e';simp at hl
 simp only [Value.slice.injEq,true_and] at e;obtain ⟨rfl,e8⟩:=e;have HC1:Hid (∀j,j<ss.length->w.cell? ⟨b1,o1+j,none⟩=some (.int .i64 (ss.getD j 0))):=hc1;have HE:Hid (∀k,k<ss.length->(smR p ss).getD k 0=ss.getD k 0%p):=Qnd p ss;have HLZ:Hid ((smR p ss).length=ss.length):=Qjz p ss;have HS:Hid (∀i,i<ss.length->-9223372036854775808<=ss.getD i 0/\ss.getD i 0<=9223372036854775807):=hs;have HB:Hid (Bk w kb #[.slice (some ⟨b1,o1,none⟩) ss.length sc] 22):=bK;have z0:=bK.c (i:=0) rfl;generalize smR p ss=zs at *;clear hc1 hs bK e8 h01;go_enter Tryz.func116,Tryz.ntmps116;go_wp2_with (at_make;refine wpList_make_full _ rfl _ _ 22 rfl w.heap.size 3 i0 (.int .i64 0) 1 Tryz.underlying22 hi hz0 hz1 .i64 .i64 _ _ ss.length rfl rfl rfl rfl (by rw [hz2];omega) (by unfold maxLen;omega) (Nat.le_refl _) ?_;intro w1 hown hgrow;have z1:=(HB.out.old (Old.by_ (Old.refl _) hgrow (fun b hb=>by cases hb))).c (i:=0) rfl)
 have HO:Hid (Qbd w1 w.heap.size w.heap.size ss.length (List.replicate ss.length 0)):=by
  rw [Qbk] at hown;exact hown
 have HG:Hid (Old w w1):=Old.by_ (Old.refl _) hgrow (fun b hb=>by cases hb);clear hown hgrow z1 z0
 go_loopw [12,5,6] (fun i _ _ W=>∃k:Nat,k<=ss.length/\i=.int .i64 k/\Hid (Qbd W w.heap.size w.heap.size ss.length (Qbi zs k))/\Hid (Old w W)) (fun i _ _ _=>ss.length - (intOf i).toNat)
 case atStart=>exact ⟨0,by omega,rfl,(by show Qbd _ _ _ _ _;rw [Qcg,HLZ.out];exact HO.out),HG⟩
 case round=>
  obtain ⟨k,hk,rfl,HO1,HG1⟩:=hrel;clear HO HG
  by_cases hlt:k<ss.length
  ·have d1:decide ((k:Int)<(ss.length:Int))=true:=by simp;omega
   have i1:(k:Int)<(ss.length:Int):=by omega
   have c1:wr.cell? ⟨b1,o1+k,none⟩=some (.int .i64 (ss.getD k 0)):=(HG1.out.cell (p:=⟨b1,o1+k,none⟩) hb1).trans (HC1.out k hlt)
   have c3:=HO1.out.get (Qbg zs k (by have:=HLZ.out;omega) |>.trans HLZ.out) k hlt;have c4:=HO1.out.free k;have hx:=HS.out k hlt;have HX:Hid (zs.getD k 0=ss.getD k 0%p):=HE.out k hlt;generalize ss.getD k 0=x at *;generalize (Qbi zs k).getD k 0=oldv at *;have cr:=fun W=>Qbz x p W hx hp
   have HP:Hid (Qbd (wr.setCell ⟨w.heap.size,k,none⟩ (.int .i64 (x%p))) w.heap.size w.heap.size ss.length (Qbi zs (k+1))):=by
    have:=HO1.out.put k (x%p);rw [<- HX.out,Qco zs k (by have:=HLZ.out;omega)] at this;rw [<- HX.out];exact this
   have HN2:Hid (Old w (wr.setCell ⟨w.heap.size,k,none⟩ (.int .i64 (x%p)))):=HG1.out.own (p:=⟨w.heap.size,k,none⟩) (Nat.le_refl _) _;obtain ⟨q,hq⟩:∃q,x%p=q:=⟨_,rfl⟩
   rw [hq] at cr HP HN2;clear hq HX HO1 HG1;go_wp2_with fail;refine (cr _).mono ?_
   rintro e w2 ⟨rfl,hw⟩;obtain rfl:=hw.symm;clear hw;go_wp2_with fail;exact ⟨⟨k+1,by omega,by go_num,HP,HN2⟩,by simp [intOf];omega⟩
  ·have d1:decide ((k:Int)<(ss.length:Int))=false:=by simp;omega
   obtain rfl:k=ss.length:=by omega
   have HF:Hid (Own wr w.heap.size (.slice (some ⟨w.heap.size,0,none⟩) ss.length ss.length) zs):=by
    have:=HO1.out.own ((Qbg zs ss.length (by have:=HLZ.out;omega)).trans HLZ.out);rw [show Qbi zs ss.length=zs by rw [<- HLZ.out];exact Qcx zs] at this;exact this
   go_wp2_with fail;go_ret;exact ⟨_,rfl,HG1.out,HF.out⟩
theorem Qlp (N:Int) (ps:List Int) (Rf:Nat->Int) (gr kb:Nat) (w:World) (hr:Rgs w gr N ps Rf ps.length) (hm:1<=ps.length/\ps.length<=1000) (zss:List (List Int))
 (cj:∀k,k<ps.length->∀W,Old w W->Calls Tryz.prog 116 #[.int .i64 (ps.getD k 0),.pointer (some ⟨kb,0,none⟩)] W fun e w'=>∃v',e=.returned v'/\Old W w'/\Own w' W.heap.size v' (zss.getD k [])) :
 Calls Tryz.prog 115 #[.slice (some ⟨gr,0,none⟩) ps.length ps.length,.func (.func 116) #[] #[.pointer (some ⟨kb,0,none⟩)]] w fun e w'=>e=.returned (.slice (some ⟨w.heap.size,0,none⟩) ps.length ps.length)/\Old w w'/\Ows (TS 106 5 ps.length (elR N false ps Rf zss)) w' w.heap.size w'.heap.size [.slice (some ⟨w.heap.size,0,none⟩) ps.length ps.length]:=by
 obtain ⟨i0,hi,hz0,hz1,hz2⟩:=info_parts Tryz.infoRingRow;have HC:Hid (∀k,k<ps.length->w.cell? ⟨gr,k*3,none⟩=some (.int .i64 (ps.getD k 0))/\w.cell? ⟨gr,k*3+1,none⟩=some (.int .i64 N)/\w.cell? ⟨gr,k*3+2,none⟩=some (.int .i64 (Rf k))):=fun k hk=>hr.at k hk hk
 have hb:gr<w.heap.size:=hr.lt;have HCJ:Hid (∀k,k<ps.length->∀W,Old w W->Calls Tryz.prog 116 #[.int .i64 (ps.getD k 0),.pointer (some ⟨kb,0,none⟩)] W fun e w'=>∃v',e=.returned v'/\Old W w'/\Own w' W.heap.size v' (zss.getD k [])):=cj;have HEL:Hid (∀k,elR N false ps Rf zss k=TR (ps.getD k 0) N (Rf k) false (TI (zss.getD k []))):=fun k=>rfl
 have HGD:Hid (∀k,GoodT (elR N false ps Rf zss k)):=Qgl N false ps Rf zss;generalize elR N false ps Rf zss=Es at *;clear hr cj;go_enter Tryz.func115,Tryz.ntmps115;go_wp2_with (at_make;refine wpList_make_full _ rfl _ _ 99 rfl 0 106 i0 (.agg #[.int .i64 0,.int .i64 0,.int .i64 0,.bool false,.slice none 0 0]) 5 Tryz.underlying99 hi hz0 hz1 .i64 .i64 _ _ ps.length rfl rfl rfl rfl (by rw [hz2];omega) (by unfold maxLen;omega) (Nat.zero_le _) ?_;intro w1 hown hgrow);have HO:Hid (TSc 106 5 ps.length 0 Es w1 w.heap.size ps.length _ (fun _ _=>False)):=TSc.start hown;have HG:Hid (Old w w1):=Below.grown (Below.refl _ _) hgrow (Nat.le_refl _) (fun _ h=>by cases h);clear hown hgrow
 go_loopw [13,6,7] (fun i _ _ W=>∃(k:Nat) (vs:List Value) (Bs:Nat->Nat->Prop),k<=ps.length/\i=.int .i64 k/\Hid (TSc 106 5 ps.length k Es W w.heap.size ps.length vs Bs)/\Hid (∀j b,j<k->Bs j b->w.heap.size<b)/\Hid (Old w W)) (fun i _ _ _=>ps.length - (intOf i).toNat)
 case atStart=>exact ⟨0,_,_,by omega,rfl,HO,(fun j b hj=>by omega),HG⟩
 case round=>
  obtain ⟨k,vs,Bs,hk,rfl,H1,HB,HG1⟩:=hrel;clear HO HG
  by_cases hlt:k<ps.length
  ·have d1:decide ((k:Int)<(ps.length:Int))=true:=by simp;omega
   have ilt:(k:Int)<(ps.length:Int):=by omega
   obtain ⟨c0,c1,c2⟩:=HC.out k hlt;have cj:=HCJ.out k hlt;have q0:=(HG1.out.cell (p:=⟨gr,k*3,none⟩) hb).trans c0;have q1:=(HG1.out.cell (p:=⟨gr,k*3+1,none⟩) hb).trans c1;have q2:=(HG1.out.cell (p:=⟨gr,k*3+2,none⟩) hb).trans c2;have hsr:w.heap.size<wr.heap.size:=Qbc H1.out.row;have HEK:Hid (Es k=TR (ps.getD k 0) N (Rf k) false (TI (zss.getD k []))):=HEL.out k;clear c0 c1 c2;generalize ps.getD k 0=P at *;generalize Rf k=R at *;generalize zss.getD k []=zs at *
   have HAS5:Hid (∀W',Old (wr.alloc (.cells #[.int .i64 P,.int .i64 N,.int .i64 R] 104)) W'->(W'.cell? ⟨wr.heap.size,0,none⟩=some (.int .i64 P)/\W'.cell? ⟨wr.heap.size,1,none⟩=some (.int .i64 N)/\W'.cell? ⟨wr.heap.size,2,none⟩=some (.int .i64 R))):=fun W' q=>
    ⟨(q.cell (p:=⟨wr.heap.size,0,none⟩) (by simp)).trans (Qac _ _ _ _ _ rfl),(q.cell (p:=⟨wr.heap.size,1,none⟩) (by simp)).trans (Qac _ _ _ _ _ rfl),(q.cell (p:=⟨wr.heap.size,2,none⟩) (by simp)).trans (Qac _ _ _ _ _ rfl)⟩
   have HAS6:Hid (∀W' y0 y1 y2 y3 y4,Old (wr.alloc (.cells #[.int .i64 P,.int .i64 N,.int .i64 R] 104)) W'->((fun W'=>W'.cell? ⟨wr.heap.size,0,none⟩=some (.int .i64 P)/\W'.cell? ⟨wr.heap.size,1,none⟩=some (.int .i64 N)/\W'.cell? ⟨wr.heap.size,2,none⟩=some (.int .i64 R)) (((((W'.setCell ⟨w.heap.size,k*5,none⟩ y0).setCell ⟨w.heap.size,k*5+1,none⟩ y1).setCell ⟨w.heap.size,k*5+2,none⟩ y2).setCell ⟨w.heap.size,k*5+3,none⟩ y3).setCell ⟨w.heap.size,k*5+4,none⟩ y4))):=fun W' y0 y1 y2 y3 y4 q=>by
    obtain ⟨s0,s1,s2⟩:=HAS5.out W' q
    have key:∀(bb j:Nat) (z:Value),bb≠w.heap.size->W'.cell? ⟨bb,j,none⟩=some z->(((((W'.setCell ⟨w.heap.size,k*5,none⟩ y0).setCell ⟨w.heap.size,k*5+1,none⟩ y1).setCell ⟨w.heap.size,k*5+2,none⟩ y2).setCell ⟨w.heap.size,k*5+3,none⟩ y3).setCell ⟨w.heap.size,k*5+4,none⟩ y4).cell? ⟨bb,j,none⟩=some z:=fun bb j z hb hz=>by
     rw [Qbn _ _ _ _ hb,Qbn _ _ _ _ hb,Qbn _ _ _ _ hb,Qbn _ _ _ _ hb,Qbn _ _ _ _ hb];exact hz
    exact ⟨key _ _ _ (by omega) s0,key _ _ _ (by omega) s1,key _ _ _ (by omega) s2⟩
   have HGA:Hid (Old w (wr.alloc (.cells #[.int .i64 P,.int .i64 N,.int .i64 R] 104))):=HG1.out.alloc _
   have HX:Hid (∀w6 y n c Bz,Old (wr.alloc (.cells #[.int .i64 P,.int .i64 N,.int .i64 R] 104)) w6->TI zs w6 Bz [.slice y n c]->(∀b,Bz b->wr.heap.size+1<=b)->(∃vs',TSc 106 5 ps.length (k+1) Es (((((w6.setCell ⟨w.heap.size,k*5,none⟩ (.int .i64 P)).setCell ⟨w.heap.size,k*5+1,none⟩ (.int .i64 N)).setCell ⟨w.heap.size,k*5+2,none⟩ (.int .i64 R)).setCell ⟨w.heap.size,k*5+3,none⟩ (.bool false)).setCell ⟨w.heap.size,k*5+4,none⟩ (.slice y n c)) w.heap.size ps.length vs' (fun q=>if q=k then Bz else Bs q))/\(∀j b,j<k+1->(fun q=>if q=k then Bz else Bs q) j b->w.heap.size<b)/\Old w (((((w6.setCell ⟨w.heap.size,k*5,none⟩ (.int .i64 P)).setCell ⟨w.heap.size,k*5+1,none⟩ (.int .i64 N)).setCell ⟨w.heap.size,k*5+2,none⟩ (.int .i64 R)).setCell ⟨w.heap.size,k*5+3,none⟩ (.bool false)).setCell ⟨w.heap.size,k*5+4,none⟩ (.slice y n c))):=fun w6 y n c Bz g6 hTI hlo=>by
    have g7:=Old.trans ((Old.refl wr).alloc _) g6;refine ⟨(H1.out.old HGD.out g7).store5 HGD.out hlt _ _ _ _ _ (B:=Bz) (fun W' hW'=>?_) (fun hb=>by have:=hlo _ hb;omega) (fun j hj b h1 h2=>?_),fun j b hj hb=>?_,?_⟩
    ·rw [HEK.out];exact ⟨_,rfl,(Qdc zs).far hTI (fun b hb=>hW' b (by have:=hlo b hb;omega))⟩
    ·have h4:=H1.out.lt HGD.out j b hj h1;have:=hlo b h2;omega
    ·by_cases e:j=k
     ·simp only [e,if_true] at hb;have:=hlo b hb;omega
     ·simp only [e,if_false] at hb;exact HB.out j b (by omega) hb
    ·exact (((((Old.trans HG1.out g7).own (p:=⟨w.heap.size,k*5,none⟩) (Nat.le_refl _) _).own (p:=⟨w.heap.size,k*5+1,none⟩) (Nat.le_refl _) _).own (p:=⟨w.heap.size,k*5+2,none⟩) (Nat.le_refl _) _).own (p:=⟨w.heap.size,k*5+3,none⟩) (Nat.le_refl _) _).own (p:=⟨w.heap.size,k*5+4,none⟩) (Nat.le_refl _) _
   have HCE:Hid (∀w6,Old (wr.alloc (.cells #[.int .i64 P,.int .i64 N,.int .i64 R] 104)) w6->∀i,i<5->(∃z,w6.cell? ⟨w.heap.size,k*5+i,none⟩=some z)/\w6.frozen? ⟨w.heap.size,k*5+i,none⟩=false):=fun w6 g6 i hi5=>by
    have H2:=H1.out.old HGD.out (Old.trans ((Old.refl wr).alloc _) g6);have h5:=H2.cell k i hlt hi5;have h6:=Qbs H2.row.1 k hlt;exact ⟨⟨_,h5.trans (List.getElem?_eq_getElem (by omega))⟩,H2.frozen _⟩
   clear H1 HB HEK;go_wp2_with fail
   go_region_held3 (fun W'=>W'.cell? ⟨wr.heap.size,0,none⟩=some (.int .i64 P)/\W'.cell? ⟨wr.heap.size,1,none⟩=some (.int .i64 N)/\W'.cell? ⟨wr.heap.size,2,none⟩=some (.int .i64 R)) (first | with_reducible exact HAS5.out _ Q5.out | with_reducible exact HAS5.out _ (Below.drew (Old.refl _)) | with_reducible exact HAS6.out _ _ _ _ _ _ Q5.out | with_reducible exact HAS5.out _ (Old.refl _)) (first
    | (go_at_call 116;refine (cj _ (Below.drew HGA.out)).mono ?_;rintro e w5 ⟨v5,rfl,q5,o5⟩;obtain ⟨x5,c5,rfl⟩:=(Own.row o5).slice;have Q5:Hid (Old (wr.alloc (.cells #[.int .i64 P,.int .i64 N,.int .i64 R] 104)) w5):=Old.trans (Below.drew (Old.refl _)) q5;have O5:Hid (Own w5 (wr.heap.size+1) (.slice x5 zs.length c5) zs):=(by simp at o5;exact o5);clear q5 o5;obtain ⟨⟨z0,hz0⟩,hf0⟩:=HCE.out w5 Q5.out 0 (by omega);obtain ⟨⟨z1,hz1⟩,hf1⟩:=HCE.out w5 Q5.out 1 (by omega);obtain ⟨⟨z2,hz2⟩,hf2⟩:=HCE.out w5 Q5.out 2 (by omega);obtain ⟨⟨z3,hz3⟩,hf3⟩:=HCE.out w5 Q5.out 3 (by omega);obtain ⟨⟨z4,hz4⟩,hf4⟩:=HCE.out w5 Q5.out 4 (by omega);rw [Nat.add_zero] at hz0 hf0)
    | fail)
   all_goals
    obtain ⟨Bz,hTI,hlo⟩:=TI.of O5.out;obtain ⟨⟨vs',n1⟩,n2,n3⟩:=HX.out w5 x5 zs.length c5 Bz Q5.out hTI hlo;have N1:Hid (TSc 106 5 ps.length (k+1) Es (((((w5.setCell ⟨w.heap.size,k*5,none⟩ (.int .i64 P)).setCell ⟨w.heap.size,k*5+1,none⟩ (.int .i64 N)).setCell ⟨w.heap.size,k*5+2,none⟩ (.int .i64 R)).setCell ⟨w.heap.size,k*5+3,none⟩ (.bool false)).setCell ⟨w.heap.size,k*5+4,none⟩ (.slice x5 zs.length c5)) w.heap.size ps.length vs' (fun q=>if q=k then Bz else Bs q)):=n1;have N2:Hid (∀j b,j<k+1->(fun q=>if q=k then Bz else Bs q) j b->w.heap.size<b):=n2;have N3:Hid (Old w (((((w5.setCell ⟨w.heap.size,k*5,none⟩ (.int .i64 P)).setCell ⟨w.heap.size,k*5+1,none⟩ (.int .i64 N)).setCell ⟨w.heap.size,k*5+2,none⟩ (.int .i64 R)).setCell ⟨w.heap.size,k*5+3,none⟩ (.bool false)).setCell ⟨w.heap.size,k*5+4,none⟩ (.slice x5 zs.length c5))):=n3;clear n1 n2 n3 hTI hlo HX;go_wp2_with fail;exact ⟨⟨k+1,vs',_,by omega,by go_num,N1,N2,N3⟩,by simp [intOf];omega⟩
  ·have d1:decide ((k:Int)<(ps.length:Int))=false:=by simp;omega
   obtain rfl:k=ps.length:=by omega
   have HE:Hid (Ows (TS 106 5 ps.length Es) wr w.heap.size wr.heap.size [.slice (some ⟨w.heap.size,0,none⟩) ps.length ps.length]):=H1.out.done HGD.out (Nat.le_refl _) (fun j b hj hb=>Nat.le_of_lt (HB.out j b hj hb));go_wp2_with fail;go_ret;exact ⟨rfl,HG1.out,HE.out⟩
def SmA (N:Int) (ps ss:List Int) (Rf:Nat->Int) (w:World) (e:Ending) (w':World):Prop:=
 ∃g,w.heap.size<=g/\e=.returned (.slice (some ⟨g,0,none⟩) ps.length ps.length)/\Old w w'/\Ows (TS 106 5 ps.length (elR N false ps Rf (smS ps ss))) w' w.heap.size w'.heap.size [.slice (some ⟨g,0,none⟩) ps.length ps.length]
theorem Qik (N:Int) (ps ss:List Int) (Rf:Nat->Int) (gr:Nat) (v:Value) (w:World) (hr:Rgs w gr N ps Rf ps.length) (hm:1<=ps.length/\ps.length<=1000) (hv:Row w v ss) (hl:1<=ss.length/\ss.length<=1000) (hs:∀i,i<ss.length->-9223372036854775808<=ss.getD i 0/\ss.getD i 0<=9223372036854775807) (hp:∀k,k<ps.length->1<=ps.getD k 0/\ps.getD k 0<=4294967296) :
 Calls Tryz.prog 56 #[.slice (some ⟨gr,0,none⟩) ps.length ps.length,v] w (SmA N ps ss Rf w):=by
 obtain ⟨sa,sc,ev⟩:=hv.slice;subst ev;have BB:Bk (w.alloc (.cells #[.slice sa ss.length sc] 22)) w.heap.size #[.slice sa ss.length sc] 22:=Bk.new' w _ _ rfl
 have K:=Qlp N ps Rf gr w.heap.size (w.alloc (.cells #[.slice sa ss.length sc] 22)) (hr.old ((Old.refl w).alloc _)) hm (smS ps ss) (fun k hk W g=>by
  rw [Qne ps ss k hk];exact Qr8 (ps.getD k 0) ss w.heap.size sa sc W (BB.old g) (hv.old (Old.trans ((Old.refl w).alloc _) g)) hl hs (hp k hk))
 have HK:Hid (Calls Tryz.prog 115 #[.slice (some ⟨gr,0,none⟩) ps.length ps.length,.func (.func 116) #[] #[.pointer (some ⟨w.heap.size,0,none⟩)]] (w.alloc (.cells #[.slice sa ss.length sc] 22)) fun e w'=>e=.returned (.slice (some ⟨w.heap.size+1,0,none⟩) ps.length ps.length)/\Old (w.alloc (.cells #[.slice sa ss.length sc] 22)) w'/\Ows (TS 106 5 ps.length (elR N false ps Rf (smS ps ss))) w' (w.heap.size+1) w'.heap.size [.slice (some ⟨w.heap.size+1,0,none⟩) ps.length ps.length]):=by
  have h1:(w.alloc (.cells #[.slice sa ss.length sc] 22)).heap.size=w.heap.size+1:=by simp
  rw [h1] at K;exact K
 clear K hr hv hs hp BB;go_enter Tryz.func56,Tryz.ntmps56;go_wp2_with fail;refine HK.out.mono ?_
 rintro e w1 ⟨rfl,g1,o1⟩;have HG1:Hid (Old w w1):=Old.trans ((Old.refl w).alloc _) g1;have HO:Hid (Ows (TS 106 5 ps.length (elR N false ps Rf (smS ps ss))) w1 w.heap.size w1.heap.size [.slice (some ⟨w.heap.size+1,0,none⟩) ps.length ps.length]):=o1.low (by omega) (Nat.le_refl _) (Nat.le_refl _);clear g1 o1 HK;go_wp2_with fail;go_ret;exact ⟨w.heap.size+1,by omega,rfl,HG1.out,HO.out⟩
theorem RRs.same {W W':World} {g:Nat} {N:Int} {n:Bool} {ps:List Int} {Rf:Nat->Int} {us:Nat->Option Addr} {k:Nat} (h:RRs W g N n ps Rf us k) (e:W'.heap[g]? = W.heap[g]?):RRs W' g N n ps Rf us k:=by
 obtain ⟨ys,hl,ho,hy⟩:=h;refine ⟨ys,hl,⟨ho.1,?_⟩,hy⟩;rcases ho.2 with hn | ⟨p,cap,cur,e',hb,hgg,rest⟩
 ·exact .inl hn
 ·refine .inr ⟨p,cap,cur,e',hb,?_,rest⟩
  have:p=g:=by
   simp only [Value.slice.injEq,Option.some.injEq,Addr.mk.injEq] at e';exact e'.1.1.symm
  subst this;rw [e];exact hgg
def PhG (base:Nat) (N:Int) (ps:List Int) (Rf:Nat->Int) (uf:Nat->Nat->Option Addr) (j:Nat) (W:World) (g:Option Addr):Prop:=
 ∃gn,g=some ⟨gn,0,none⟩/\base+2<gn/\RRs W gn N false ps Rf (uf j) ps.length
end Go.Proofs.YtejhpljichmmpaaGreatDoor
namespace Go.Proofs.YtejhpljichmmpaaGreatDoor
open Go.ChangeShapes Go.WideShapes Go.ChangeAt Go.RowKit
open M2
theorem Qr9 {N T E:Int} {xs:List Int} (h:prB N T E xs=true):spB N xs=true:=by
 unfold prB at h;rw [Bool.and_eq_true] at h;exact h.1
end Go.Proofs.YtejhpljichmmpaaGreatDoor
namespace Go.Proofs.YtejhpljichmmpaaGreatDoor
open Go.ChangeShapes Go.WideShapes Go.ChangeAt Go.RowKit
theorem Qpv (p r p' r' N':Int) (n n':Bool) (Nn:Nat) (xs ys:List Int) (ua ub:Option Addr) (ca cb:Nat) (w:World) (hv:Row w (.slice ua Nn ca) xs) (hu:Row w (.slice ub Nn cb) ys) (hp:2<=p/\p<=268435456) (hN:2<=Nn/\Nn<=16) (la:xs.length=Nn) (lb:ys.length=Nn) (ha:∀i,i<Nn->(0<=xs.getD i 0/\xs.getD i 0<p)/\(0<=ys.getD i 0/\ys.getD i 0<p)) :
 Calls Tryz.prog 151 #[.agg #[.int .i64 p,.int .i64 Nn,.int .i64 r,.bool n,.slice ua Nn ca],.agg #[.int .i64 p',.int .i64 N',.int .i64 r',.bool n',.slice ub Nn cb]] w fun e w'=>∃g,e=.returned (.slice (some ⟨g,0,none⟩) Nn Nn)/\Old w w'/\Own w' w.heap.size (.slice (some ⟨g,0,none⟩) Nn Nn) (Qb3 Qej p xs ys):=by
 obtain ⟨i0,hi,hz0,hz1,hz2⟩:=info_parts Tryz.infoInt;rcases hv with ⟨_,_,e,e'⟩ | ⟨b1,o1,cap1,e,hb1,h01,hc1⟩
 ·subst e';simp at la;omega
 rcases hu with ⟨_,_,e_,e'⟩ | ⟨b2,o2,cap2,e_,hb2,h02,hc2⟩
 ·subst e';simp at lb;omega
 simp only [Value.slice.injEq] at e e_;obtain ⟨rfl,e7,e8⟩:=e;obtain ⟨rfl,e9,e10⟩:=e_;have HC1:Hid (∀j,j<Nn->w.cell? ⟨b1,o1+j,none⟩=some (.int .i64 (xs.getD j 0))):=fun j hj=>hc1 j (by omega)
 have HC2:Hid (∀j,j<Nn->w.cell? ⟨b2,o2+j,none⟩=some (.int .i64 (ys.getD j 0))):=fun j hj=>hc2 j (by omega)
 have HE:Hid (∀k,k<Nn->(Qb3 Qej p xs ys).getD k 0=Qej p (xs.getD k 0) (ys.getD k 0)):=fun k hk=>Qcq _ _ _ _ _ (by omega)
 have hlen:(Qb3 Qej p xs ys).length=Nn:=by rw [Qb9,la]
 have HA:Hid (∀i,i<Nn->(0<=xs.getD i 0/\xs.getD i 0<p)/\(0<=ys.getD i 0/\ys.getD i 0<p)):=ha;generalize Qb3 Qej p xs ys=zs at *;clear hc1 hc2 la lb ha e7 e8 e9 e10 h01 h02
 have HB:Hid (∀W',Old ((w.alloc (.cells #[.int .i64 p,.int .i64 Nn,.int .i64 r,.bool n,.slice (some ⟨b1,o1,none⟩) Nn ca] 106)).alloc (.cells #[.int .i64 p',.int .i64 N',.int .i64 r',.bool n',.slice (some ⟨b2,o2,none⟩) Nn cb] 106)) W'->(W'.cell? ⟨w.heap.size,0,none⟩=some (.int .i64 p)/\W'.cell? ⟨w.heap.size,1,none⟩=some (.int .i64 Nn)/\W'.cell? ⟨w.heap.size,4,none⟩=some (.slice (some ⟨b1,o1,none⟩) Nn ca)/\W'.cell? ⟨w.heap.size+1,4,none⟩=some (.slice (some ⟨b2,o2,none⟩) Nn cb))):=fun W' g=>
  ⟨(g.cell (p:=⟨w.heap.size,0,none⟩) (by simp;omega)).trans (by simp [Qac,Qba]),(g.cell (p:=⟨w.heap.size,1,none⟩) (by simp;omega)).trans (by simp [Qac,Qba]),(g.cell (p:=⟨w.heap.size,4,none⟩) (by simp;omega)).trans (by simp [Qac,Qba]),(g.cell (p:=⟨w.heap.size+1,4,none⟩) (by simp)).trans (by simp [Qac,Qba])⟩
 have HSZ:Hid (((w.alloc (.cells #[.int .i64 p,.int .i64 Nn,.int .i64 r,.bool n,.slice (some ⟨b1,o1,none⟩) Nn ca] 106)).alloc (.cells #[.int .i64 p',.int .i64 N',.int .i64 r',.bool n',.slice (some ⟨b2,o2,none⟩) Nn cb] 106)).heap.size=w.heap.size+1+1):=by show _ = _;simp
 have hpn:¬p=0:=by omega
 go_enter Tryz.func151,Tryz.ntmps151;go_wp2_with (at_make;refine wpList_make_full _ rfl _ _ 22 rfl (w.heap.size+1+1) 3 i0 (.int .i64 0) 1 Tryz.underlying22 hi hz0 hz1 .i64 .i64 _ _ Nn rfl rfl rfl rfl (by rw [hz2];omega) (by unfold maxLen;omega) (by simp) ?_;intro w1 hown hgrow;have z1:=(HB.out w1 (Old.by_ (Old.refl _) hgrow (fun b hb=>by cases hb))).2.1)
 have HO:Hid (Qbd w1 (w.heap.size+1+1) (w.heap.size+1+1) Nn (List.replicate Nn 0)):=by
  rw [Qbk,HSZ.out] at hown;exact hown
 have HG:Hid (Old ((w.alloc (.cells #[.int .i64 p,.int .i64 Nn,.int .i64 r,.bool n,.slice (some ⟨b1,o1,none⟩) Nn ca] 106)).alloc (.cells #[.int .i64 p',.int .i64 N',.int .i64 r',.bool n',.slice (some ⟨b2,o2,none⟩) Nn cb] 106)) w1):=Old.by_ (Old.refl _) hgrow (fun b hb=>by cases hb);clear hown hgrow z1
 go_loopw [14] (fun i W=>∃k:Nat,k<=Nn/\i=.int .i64 k/\Hid (Qbd W (w.heap.size+1+1) (w.heap.size+1+1) Nn (Qbi zs k))/\Hid (Old ((w.alloc (.cells #[.int .i64 p,.int .i64 Nn,.int .i64 r,.bool n,.slice (some ⟨b1,o1,none⟩) Nn ca] 106)).alloc (.cells #[.int .i64 p',.int .i64 N',.int .i64 r',.bool n',.slice (some ⟨b2,o2,none⟩) Nn cb] 106)) W)) (fun i _=>Nn - (intOf i).toNat)
 case atStart=>exact ⟨0,by omega,rfl,(by show Qbd _ _ _ _ _;rw [Qcg,hlen];exact HO.out),HG⟩
 case round=>
  obtain ⟨k,hk,rfl,HO1,HG2⟩:=hrel;clear HO HG;have HG1:Hid (Old w wr):=Old.trans (((Old.refl w).alloc _).alloc _) HG2.out
  by_cases hlt:k<Nn
  ·have d1:decide ((k:Int)<(Nn:Int))=true:=by simp;omega
   have i1:(k:Int)<(Nn:Int):=by omega
   have c1:wr.cell? ⟨b1,o1+k,none⟩=some (.int .i64 (xs.getD k 0)):=(HG1.out.cell (p:=⟨b1,o1+k,none⟩) hb1).trans (HC1.out k hlt)
   have c2:wr.cell? ⟨b2,o2+k,none⟩=some (.int .i64 (ys.getD k 0)):=(HG1.out.cell (p:=⟨b2,o2+k,none⟩) hb2).trans (HC2.out k hlt)
   obtain ⟨z0,z1,z4,z5⟩:=HB.out wr HG2.out;have c3:=HO1.out.get (Qbg zs k (by omega) |>.trans hlen) k hlt;have c4:=HO1.out.free k;have HX:Hid (zs.getD k 0=Qej p (xs.getD k 0) (ys.getD k 0)):=HE.out k hlt;obtain ⟨⟨bx1,bx2⟩,⟨by1,by2⟩⟩:=HA.out k hlt;generalize xs.getD k 0=x at *;generalize ys.getD k 0=y at *;generalize (Qbi zs k).getD k 0=oldv at *
   have HP:Hid (Qbd (wr.setCell ⟨w.heap.size+1+1,k,none⟩ (.int .i64 (Qej p x y))) (w.heap.size+1+1) (w.heap.size+1+1) Nn (Qbi zs (k+1))):=by
    have:=HO1.out.put k (Qej p x y);rw [<- HX.out,Qco zs k (by omega)] at this;rw [<- HX.out];exact this
   obtain ⟨q,hq⟩:∃q,Qej p x y=q:=⟨_,rfl⟩
   have e3:(IntKind.i64.wrap (x+y)).tmod p=q:=by
    rw [IntKind.wrap_i64];rw [show (x+y+9223372036854775808)%18446744073709551616 - 9223372036854775808=x+y by omega];rw [Int.tmod_eq_emod_of_nonneg (by omega)];exact hq
   have e4:(x+y).tmod p=q:=by
    rw [Int.tmod_eq_emod_of_nonneg (by omega)];exact hq
   have e5:(x+y)%p=q:=hq
   have hqb:0<=q/\q<268435456:=by
    have g1:=Int.emod_nonneg (x+y) (show p≠0 by omega);have g2:=Int.emod_lt_of_pos (x+y) (show 0<p by omega);omega
   rw [hq] at HP;clear hq HX;have HN2:Hid (Old ((w.alloc (.cells #[.int .i64 p,.int .i64 Nn,.int .i64 r,.bool n,.slice (some ⟨b1,o1,none⟩) Nn ca] 106)).alloc (.cells #[.int .i64 p',.int .i64 N',.int .i64 r',.bool n',.slice (some ⟨b2,o2,none⟩) Nn cb] 106)) (wr.setCell ⟨w.heap.size+1+1,k,none⟩ (.int .i64 q))):=HG2.out.own (by have:=HSZ.out;simp;try omega) _;go_wp2_with fail
   go_region
   go_wp2_with fail;exact ⟨⟨k+1,by omega,by go_num,HP.out,HN2.out.drewN 1⟩,by simp [intOf];omega⟩
  ·have d1:decide ((k:Int)<(Nn:Int))=false:=by simp;omega
   obtain rfl:k=Nn:=by omega
   have HF:Hid (Own wr (w.heap.size+1+1) (.slice (some ⟨w.heap.size+1+1,0,none⟩) k k) zs):=by
    have:=HO1.out.own ((Qbg zs k (by omega)).trans hlen);rw [show Qbi zs k=zs by rw [<- hlen];exact Qcx zs] at this;exact this
   go_wp2_with fail;go_ret;exact ⟨_,rfl,HG1.out,HF.out.low (by omega)⟩
theorem Qnf:(Tryz.prog.info? 3).map (·.size)=some 1:=by kernel_rfl
theorem Qhr (cur cs:List Value) (h:cur.length=cs.length):splice cur 0 cs=cs:=by
 simp [splice,h]
theorem Qoy {ops:Array Oper} {rest:List Oper} {a:Act} {w:World} {Q:Exit->Act->World->Prop} {ty:TypeId} {pos:String} {d:Option Tmp} {x y:Operand} {af:Array Edge}
 (g base N b o cap:Nat) (us xs:List Int) (hx:a.eval x=.slice (some ⟨g,0,none⟩) N N) (hy:a.eval y=.slice (some ⟨b,o,none⟩) N cap) (hO:Qbd w base g N us) (hu:us.length=N) (hl:xs.length=N)
 (hsrc:∀j,j<N->w.cell? ⟨b,o+j,none⟩=some (.int .i64 (xs.getD j 0)))
 (h:∀w',Qbd w' base g N xs->Below g w w'->wpList Tryz.prog ops Q rest (a.put d (goInt N)) w') :
 wpList Tryz.prog ops Q (⟨d,.call {callee:=.builtin .copy,args:=#[x,y],argTypes:=#[22,22]},ty,pos,af,none⟩ :: rest) a w:=by
 rcases hO.2 with ⟨e,_⟩ | ⟨g',cap',cur,e,hb,hg,h1,h2,h3,h4⟩
 ·cases e
 ·injection e with e1 e2 e3
  injection e1 with e4
  injection e4 with e5
  subst e5 e3;have hcl:cur.toList.length=(xs.map (Value.int .i64)).length:=by simp [h3,hl]
  refine wpList_copy_splice rfl x y 22 22 rfl 3 Tryz.underlying22 Qnf _ _ _ _ _ _ hx hy g 0 cur.toList 3 (by rw [Array.toArray_toList];exact hg) (xs.map (Value.int .i64)) (by simp [hl]) (fun _=>⟨rfl,_,rfl,?_⟩) (by rw [hcl];omega) (by simp [Value.oneCell']) g w (Below.refl _ _) (Nat.le_refl _) ?_
  ·intro j v hj
   have hjl:j<N:=by
    have:=(List.getElem?_eq_some_iff.1 hj).1
    simpa [hl] using this
   have e1:v=.int .i64 (xs.getD j 0):=by
    have hjx:j<xs.length:=by omega
    simp [List.getElem?_map,hjx] at hj;rw [<- hj];simp [List.getD,hjx]
   have e2:(⟨b,o,none⟩:Addr).add j=⟨b,o+j,none⟩:=by
    unfold Addr.add;split
    ·rename_i h;simp [h]
    ·rfl
   rw [e2,e1];exact hsrc j hjl
  ·intro w' hg' hb';rw [show (xs.map (Value.int .i64)).length=N by simp [hl]];refine h w' ⟨by simp [hl],Or.inr ⟨g,N,_,rfl,hb,hg'.out,Nat.le_refl _,h2,?_,?_⟩⟩ hb'
   ·rw [Qhr _ _ hcl];simp [hl]
   ·rw [Qhr _ _ hcl,List.toList_toArray,Nat.mul_one];exact List.take_of_length_le (by simp [hl])
end Go.Proofs.YtejhpljichmmpaaGreatDoor
namespace Go.Proofs.YtejhpljichmmpaaGreatDoor
open Go.ChangeShapes Go.WideShapes Go.ChangeAt Go.RowKit
open M1
def invS (P B:Nat) (ps xs:List Nat) (i:Nat):Nat->Nat
 | 0=>0
 | c+1=>(invS P B ps xs i c+xs.getD c 0*(B^(ps.getD c 0*i)%P))%P
theorem Qxx (P B:Nat) (ps xs:List Nat) (i:Nat) (hP:0<P):∀c,invS P B ps xs i c<P
 | 0=>hP
 | c+1=>Nat.mod_lt _ hP
def Qxy (P N R:Nat) (xs:List Nat):List Nat:=(List.range N).map (fun i=>invS P (invM R P) (Qs2 N) xs i N*invM (N%P) P%P)
theorem Qj1 (P N R:Nat) (xs:List Nat):(Qxy P N R xs).length=N:=by simp [Qxy]
theorem Qoz (P N R:Nat) (xs:List Nat) (k:Nat) (h:k<N):(Qxy P N R xs).getD k 0=invS P (invM R P) (Qs2 N) xs k N*invM (N%P) P%P:=by simp [Qxy,List.getD,h]
end Go.Proofs.YtejhpljichmmpaaGreatDoor
namespace Go.Proofs.YtejhpljichmmpaaGreatDoor
open Go.ChangeShapes Go.WideShapes Go.ChangeAt Go.RowKit
open M2
theorem Old.drw {a b:World} (h:Old a b):Old a b.drew:=Below.drew h
theorem Sz.drw {w:World} {g:Nat} {ls:List Nat} {c:Nat} (h:Sz w g ls c):Sz w.drew g ls c:=⟨h.blk,h.len⟩
theorem Sz.zero0 (w:World):Sz (w.alloc (.cells Tryz.zeroCells120 120)) w.heap.size (ext []) 0:=Sz.zero w _ rfl
theorem Sz.zero1 (w:World) (o:Obj):Sz ((w.alloc o).alloc (.cells Tryz.zeroCells120 120)) (w.heap.size+1) (ext []) 0:=Sz.zero _ _ (by simp)
theorem Qav {W:World} {g:Nat} {A:Array Value} (h:W.heap[g]? = some (.cells A 120 (0,0))) (hs:A.size=81):(loadCellsFrom ⟨g,0,none⟩ 0 81 #[]).run Tryz.prog W=.ok A W:=by
 have:=run_loadCells_list (P:=Tryz.prog) W ⟨g,0,none⟩ A.toList (fun j v hv=>by
  have hadd:(⟨g,0,none⟩:Addr).add j=⟨g,j,none⟩:=by unfold Addr.add;split <;> simp_all
  rw [hadd,cell_of_row W g j A _ _ h]
  simpa using hv)
 simpa [loadCells,hs] using this
theorem Qft {W:World} {g n:Nat} {ls:List Nat} {c:Nat} (hs:Sz W g ls c) (hl:(szV n).size=81):(storeCells ⟨g,0,none⟩ (szV n).toList 0).run Tryz.prog W=.ok () (W.setRow g (szV n)):=by
 have:=run_storeVar_row (P:=Tryz.prog) W g 120 120 (szA ls c) (szV n) hs.blk (by rw [hl];exact Qdv) (by rw [Qao hs.len,hl]) (Qm1 _ _)
 cases hq:Tryz.prog.info? 120 with
 | none=>have h2:=Qdv;rw [hq] at h2;cases h2
 | some i=>
   have h2:=Qdv;rw [hq] at h2;have h3:i.size=81:=by simpa using h2
   simpa [storeVar,Go.sizeOf,typeInfo,hq,Value.cells,hl,h3] using this
theorem Qsa {o:Oper} {a:Act} {K:Act->World->Prop} {Q:Exit->Act->World->Prop} {f:Unit->World->Result Next} {W:World} {g n:Nat} {ls:List Nat} {c:Nat} (hs:Sz W g ls c) (hl:(szV n).size=81)
 (h:Oper.upon Tryz.prog o a K Q (f () (W.setRow g (szV n)))):Oper.upon Tryz.prog o a K Q ((Sem.run Tryz.prog (storeCells ⟨g,0,none⟩ (szV n).toList 0) W).andThen f):=by
 rw [Qft hs hl];exact h
end Go.Proofs.YtejhpljichmmpaaGreatDoor
