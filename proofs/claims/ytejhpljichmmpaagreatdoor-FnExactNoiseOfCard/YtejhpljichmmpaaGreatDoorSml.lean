/- Proved: what its theorems say. -/
import Derived.Test.YtejhpljichmmpaaGreatDoorNo16
import Derived.Test.YtejhpljichmmpaaGreatDoorNo19
set_option linter.unusedVariables false
set_option linter.unusedSimpArgs false
set_option maxHeartbeats 8000000
set_option maxRecDepth 100000
namespace Go.Proofs.YtejhpljichmmpaaGreatDoor
open Go.ChangeShapes Go.WideShapes Go.ChangeAt Go.RowKit
def smR (p:Int) (ss:List Int):List Int:=ss.map (fun x=>x%p)
theorem Qkm (p:Int) (ss:List Int):(smR p ss).length=ss.length:=by simp [smR]
theorem Qoc (p:Int) (ss:List Int) (k:Nat) (h:k<ss.length):(smR p ss).getD k 0=ss.getD k 0%p:=by simp [smR,List.getD,h]
def smS (ps ss:List Int):List (List Int):=ps.map (fun p=>smR p ss)
theorem Qod (ps ss:List Int):(smS ps ss).length=ps.length:=by simp [smS]
theorem Qoe (ps ss:List Int) (k:Nat) (h:k<ps.length):(smS ps ss).getD k []=smR (ps.getD k 0) ss:=by simp [smS,List.getD,h]
theorem Qtr (p:Int) (ss:List Int) (kb:Nat) (sa:Option Addr) (sc:Nat) (w:World) (bK:Bk w kb #[.slice sa ss.length sc] 22) (hv:Row w (.slice sa ss.length sc) ss) (hl:1<=ss.length/\ss.length<=1000) (hs:∀i,i<ss.length->-9223372036854775808<=ss.getD i 0/\ss.getD i 0<=9223372036854775807) (hp:1<=p/\p<=4294967296) :
 Calls Tryz.prog 116 #[.int .i64 p,.pointer (some ⟨kb,0,none⟩)] w fun e w'=>∃v',e=.returned v'/\Old w w'/\Own w' w.heap.size v' (smR p ss):=by
 obtain ⟨i0,hi,hz0,hz1,hz2⟩:=info_parts Tryz.infoInt;rcases hv with ⟨_,_,e,e'⟩ | ⟨b1,o1,cap1,e,hb1,h01,hc1⟩
 ·subst e';simp at hl
 simp only [Value.slice.injEq,true_and] at e;obtain ⟨rfl,e8⟩:=e;have HC1:Hid (∀j,j<ss.length->w.cell? ⟨b1,o1+j,none⟩=some (.int .i64 (ss.getD j 0))):=hc1;have HE:Hid (∀k,k<ss.length->(smR p ss).getD k 0=ss.getD k 0%p):=Qoc p ss;have HLZ:Hid ((smR p ss).length=ss.length):=Qkm p ss;have HS:Hid (∀i,i<ss.length->-9223372036854775808<=ss.getD i 0/\ss.getD i 0<=9223372036854775807):=hs;have HB:Hid (Bk w kb #[.slice (some ⟨b1,o1,none⟩) ss.length sc] 22):=bK;have z0:=bK.c (i:=0) rfl;generalize smR p ss=zs at *;clear hc1 hs bK e8 h01;go_enter Tryz.func116,Tryz.ntmps116;go_wp2_with (at_make;refine wpList_make_full _ rfl _ _ 22 rfl w.heap.size 3 i0 (.int .i64 0) 1 Tryz.underlying22 hi hz0 hz1 .i64 .i64 _ _ ss.length rfl rfl rfl rfl (by rw [hz2];omega) (by unfold maxLen;omega) (Nat.le_refl _) ?_;intro w1 hown hgrow;have z1:=(HB.out.old (Old.by_ (Old.refl _) hgrow (fun b hb=>by cases hb))).c (i:=0) rfl)
 have HO:Hid (Qbb w1 w.heap.size w.heap.size ss.length (List.replicate ss.length 0)):=by
  rw [Qbq] at hown;exact hown
 have HG:Hid (Old w w1):=Old.by_ (Old.refl _) hgrow (fun b hb=>by cases hb);clear hown hgrow z1 z0
 go_loopw [12,5,6] (fun i _ _ W=>∃k:Nat,k<=ss.length/\i=.int .i64 k/\Hid (Qbb W w.heap.size w.heap.size ss.length (Qbp zs k))/\Hid (Old w W)) (fun i _ _ _=>ss.length - (intOf i).toNat)
 case atStart=>exact ⟨0,by omega,rfl,(by show Qbb _ _ _ _ _;rw [Qco,HLZ.out];exact HO.out),HG⟩
 case round=>
  obtain ⟨k,hk,rfl,HO1,HG1⟩:=hrel;clear HO HG
  by_cases hlt:k<ss.length
  ·have d1:decide ((k:Int)<(ss.length:Int))=true:=by simp;omega
   have i1:(k:Int)<(ss.length:Int):=by omega
   have c1:wr.cell? ⟨b1,o1+k,none⟩=some (.int .i64 (ss.getD k 0)):=(HG1.out.cell (p:=⟨b1,o1+k,none⟩) hb1).trans (HC1.out k hlt)
   have c3:=HO1.out.get (Qbj zs k (by have:=HLZ.out;omega) |>.trans HLZ.out) k hlt;have c4:=HO1.out.free k;have hx:=HS.out k hlt;have HX:Hid (zs.getD k 0=ss.getD k 0%p):=HE.out k hlt;generalize ss.getD k 0=x at *;generalize (Qbp zs k).getD k 0=oldv at *;have cr:=fun W=>Qcu x p W hx hp
   have HP:Hid (Qbb (wr.setCell ⟨w.heap.size,k,none⟩ (.int .i64 (x%p))) w.heap.size w.heap.size ss.length (Qbp zs (k+1))):=by
    have:=HO1.out.put k (x%p);rw [<- HX.out,Qc4 zs k (by have:=HLZ.out;omega)] at this;rw [<- HX.out];exact this
   have HN2:Hid (Old w (wr.setCell ⟨w.heap.size,k,none⟩ (.int .i64 (x%p)))):=HG1.out.own (p:=⟨w.heap.size,k,none⟩) (Nat.le_refl _) _;obtain ⟨q,hq⟩:∃q,x%p=q:=⟨_,rfl⟩
   rw [hq] at cr HP HN2;clear hq HX HO1 HG1;go_wp2_with fail;refine (cr _).mono ?_
   rintro e w2 ⟨rfl,hw⟩;obtain rfl:=hw.symm;clear hw;go_wp2_with fail;exact ⟨⟨k+1,by omega,by go_num,HP,HN2⟩,by simp [intOf];omega⟩
  ·have d1:decide ((k:Int)<(ss.length:Int))=false:=by simp;omega
   obtain rfl:k=ss.length:=by omega
   have HF:Hid (Own wr w.heap.size (.slice (some ⟨w.heap.size,0,none⟩) ss.length ss.length) zs):=by
    have:=HO1.out.own ((Qbj zs ss.length (by have:=HLZ.out;omega)).trans HLZ.out);rw [show Qbp zs ss.length=zs by rw [<- HLZ.out];exact Qc3 zs] at this;exact this
   go_wp2_with fail;go_ret;exact ⟨_,rfl,HG1.out,HF.out⟩
theorem Qmm (N:Int) (ps:List Int) (Rf:Nat->Int) (gr kb:Nat) (w:World) (hr:Rgs w gr N ps Rf ps.length) (hm:1<=ps.length/\ps.length<=1000) (zss:List (List Int))
 (cj:∀k,k<ps.length->∀W,Old w W->Calls Tryz.prog 116 #[.int .i64 (ps.getD k 0),.pointer (some ⟨kb,0,none⟩)] W fun e w'=>∃v',e=.returned v'/\Old W w'/\Own w' W.heap.size v' (zss.getD k [])) :
 Calls Tryz.prog 115 #[.slice (some ⟨gr,0,none⟩) ps.length ps.length,.func (.func 116) #[] #[.pointer (some ⟨kb,0,none⟩)]] w fun e w'=>e=.returned (.slice (some ⟨w.heap.size,0,none⟩) ps.length ps.length)/\Old w w'/\Ows (TS 106 5 ps.length (elR N false ps Rf zss)) w' w.heap.size w'.heap.size [.slice (some ⟨w.heap.size,0,none⟩) ps.length ps.length]:=by
 obtain ⟨i0,hi,hz0,hz1,hz2⟩:=info_parts Tryz.infoRingRow;have HC:Hid (∀k,k<ps.length->w.cell? ⟨gr,k*3,none⟩=some (.int .i64 (ps.getD k 0))/\w.cell? ⟨gr,k*3+1,none⟩=some (.int .i64 N)/\w.cell? ⟨gr,k*3+2,none⟩=some (.int .i64 (Rf k))):=fun k hk=>hr.at k hk hk
 have hb:gr<w.heap.size:=hr.lt;have HCJ:Hid (∀k,k<ps.length->∀W,Old w W->Calls Tryz.prog 116 #[.int .i64 (ps.getD k 0),.pointer (some ⟨kb,0,none⟩)] W fun e w'=>∃v',e=.returned v'/\Old W w'/\Own w' W.heap.size v' (zss.getD k [])):=cj;have HEL:Hid (∀k,elR N false ps Rf zss k=TR (ps.getD k 0) N (Rf k) false (TI (zss.getD k []))):=fun k=>rfl
 have HGD:Hid (∀k,GoodT (elR N false ps Rf zss k)):=Qfq N false ps Rf zss;generalize elR N false ps Rf zss=Es at *;clear hr cj;go_enter Tryz.func115,Tryz.ntmps115;go_wp2_with (at_make;refine wpList_make_full _ rfl _ _ 99 rfl 0 106 i0 (.agg #[.int .i64 0,.int .i64 0,.int .i64 0,.bool false,.slice none 0 0]) 5 Tryz.underlying99 hi hz0 hz1 .i64 .i64 _ _ ps.length rfl rfl rfl rfl (by rw [hz2];omega) (by unfold maxLen;omega) (Nat.zero_le _) ?_;intro w1 hown hgrow);have HO:Hid (TSc 106 5 ps.length 0 Es w1 w.heap.size ps.length _ (fun _ _=>False)):=TSc.start hown;have HG:Hid (Old w w1):=Below.grown (Below.refl _ _) hgrow (Nat.le_refl _) (fun _ h=>by cases h);clear hown hgrow
 go_loopw [13,6,7] (fun i _ _ W=>∃(k:Nat) (vs:List Value) (Bs:Nat->Nat->Prop),k<=ps.length/\i=.int .i64 k/\Hid (TSc 106 5 ps.length k Es W w.heap.size ps.length vs Bs)/\Hid (∀j b,j<k->Bs j b->w.heap.size<b)/\Hid (Old w W)) (fun i _ _ _=>ps.length - (intOf i).toNat)
 case atStart=>exact ⟨0,_,_,by omega,rfl,HO,(fun j b hj=>by omega),HG⟩
 case round=>
  obtain ⟨k,vs,Bs,hk,rfl,H1,HB,HG1⟩:=hrel;clear HO HG
  by_cases hlt:k<ps.length
  ·have d1:decide ((k:Int)<(ps.length:Int))=true:=by simp;omega
   have ilt:(k:Int)<(ps.length:Int):=by omega
   obtain ⟨c0,c1,c2⟩:=HC.out k hlt;have cj:=HCJ.out k hlt;have q0:=(HG1.out.cell (p:=⟨gr,k*3,none⟩) hb).trans c0;have q1:=(HG1.out.cell (p:=⟨gr,k*3+1,none⟩) hb).trans c1;have q2:=(HG1.out.cell (p:=⟨gr,k*3+2,none⟩) hb).trans c2;have hsr:w.heap.size<wr.heap.size:=Qa1 H1.out.row;have HEK:Hid (Es k=TR (ps.getD k 0) N (Rf k) false (TI (zss.getD k []))):=HEL.out k;clear c0 c1 c2;generalize ps.getD k 0=P at *;generalize Rf k=R at *;generalize zss.getD k []=zs at *
   have HAS5:Hid (∀W',Old (wr.alloc (.cells #[.int .i64 P,.int .i64 N,.int .i64 R] 104)) W'->(W'.cell? ⟨wr.heap.size,0,none⟩=some (.int .i64 P)/\W'.cell? ⟨wr.heap.size,1,none⟩=some (.int .i64 N)/\W'.cell? ⟨wr.heap.size,2,none⟩=some (.int .i64 R))):=fun W' q=>
    ⟨(q.cell (p:=⟨wr.heap.size,0,none⟩) (by simp)).trans (Qaa _ _ _ _ _ rfl),(q.cell (p:=⟨wr.heap.size,1,none⟩) (by simp)).trans (Qaa _ _ _ _ _ rfl),(q.cell (p:=⟨wr.heap.size,2,none⟩) (by simp)).trans (Qaa _ _ _ _ _ rfl)⟩
   have HAS6:Hid (∀W' y0 y1 y2 y3 y4,Old (wr.alloc (.cells #[.int .i64 P,.int .i64 N,.int .i64 R] 104)) W'->((fun W'=>W'.cell? ⟨wr.heap.size,0,none⟩=some (.int .i64 P)/\W'.cell? ⟨wr.heap.size,1,none⟩=some (.int .i64 N)/\W'.cell? ⟨wr.heap.size,2,none⟩=some (.int .i64 R)) (((((W'.setCell ⟨w.heap.size,k*5,none⟩ y0).setCell ⟨w.heap.size,k*5+1,none⟩ y1).setCell ⟨w.heap.size,k*5+2,none⟩ y2).setCell ⟨w.heap.size,k*5+3,none⟩ y3).setCell ⟨w.heap.size,k*5+4,none⟩ y4))):=fun W' y0 y1 y2 y3 y4 q=>by
    obtain ⟨s0,s1,s2⟩:=HAS5.out W' q
    have key:∀(bb j:Nat) (z:Value),bb≠w.heap.size->W'.cell? ⟨bb,j,none⟩=some z->(((((W'.setCell ⟨w.heap.size,k*5,none⟩ y0).setCell ⟨w.heap.size,k*5+1,none⟩ y1).setCell ⟨w.heap.size,k*5+2,none⟩ y2).setCell ⟨w.heap.size,k*5+3,none⟩ y3).setCell ⟨w.heap.size,k*5+4,none⟩ y4).cell? ⟨bb,j,none⟩=some z:=fun bb j z hb hz=>by
     rw [Qbu _ _ _ _ hb,Qbu _ _ _ _ hb,Qbu _ _ _ _ hb,Qbu _ _ _ _ hb,Qbu _ _ _ _ hb];exact hz
    exact ⟨key _ _ _ (by omega) s0,key _ _ _ (by omega) s1,key _ _ _ (by omega) s2⟩
   have HGA:Hid (Old w (wr.alloc (.cells #[.int .i64 P,.int .i64 N,.int .i64 R] 104))):=HG1.out.alloc _
   have HX:Hid (∀w6 y n c Bz,Old (wr.alloc (.cells #[.int .i64 P,.int .i64 N,.int .i64 R] 104)) w6->TI zs w6 Bz [.slice y n c]->(∀b,Bz b->wr.heap.size+1<=b)->(∃vs',TSc 106 5 ps.length (k+1) Es (((((w6.setCell ⟨w.heap.size,k*5,none⟩ (.int .i64 P)).setCell ⟨w.heap.size,k*5+1,none⟩ (.int .i64 N)).setCell ⟨w.heap.size,k*5+2,none⟩ (.int .i64 R)).setCell ⟨w.heap.size,k*5+3,none⟩ (.bool false)).setCell ⟨w.heap.size,k*5+4,none⟩ (.slice y n c)) w.heap.size ps.length vs' (fun q=>if q=k then Bz else Bs q))/\(∀j b,j<k+1->(fun q=>if q=k then Bz else Bs q) j b->w.heap.size<b)/\Old w (((((w6.setCell ⟨w.heap.size,k*5,none⟩ (.int .i64 P)).setCell ⟨w.heap.size,k*5+1,none⟩ (.int .i64 N)).setCell ⟨w.heap.size,k*5+2,none⟩ (.int .i64 R)).setCell ⟨w.heap.size,k*5+3,none⟩ (.bool false)).setCell ⟨w.heap.size,k*5+4,none⟩ (.slice y n c))):=fun w6 y n c Bz g6 hTI hlo=>by
    have g7:=Old.trans ((Old.refl wr).alloc _) g6;refine ⟨(H1.out.old HGD.out g7).store5 HGD.out hlt _ _ _ _ _ (B:=Bz) (fun W' hW'=>?_) (fun hb=>by have:=hlo _ hb;omega) (fun j hj b h1 h2=>?_),fun j b hj hb=>?_,?_⟩
    ·rw [HEK.out];exact ⟨_,rfl,(Qcp zs).far hTI (fun b hb=>hW' b (by have:=hlo b hb;omega))⟩
    ·have h4:=H1.out.lt HGD.out j b hj h1;have:=hlo b h2;omega
    ·by_cases e:j=k
     ·simp only [e,if_true] at hb;have:=hlo b hb;omega
     ·simp only [e,if_false] at hb;exact HB.out j b (by omega) hb
    ·exact (((((Old.trans HG1.out g7).own (p:=⟨w.heap.size,k*5,none⟩) (Nat.le_refl _) _).own (p:=⟨w.heap.size,k*5+1,none⟩) (Nat.le_refl _) _).own (p:=⟨w.heap.size,k*5+2,none⟩) (Nat.le_refl _) _).own (p:=⟨w.heap.size,k*5+3,none⟩) (Nat.le_refl _) _).own (p:=⟨w.heap.size,k*5+4,none⟩) (Nat.le_refl _) _
   have HCE:Hid (∀w6,Old (wr.alloc (.cells #[.int .i64 P,.int .i64 N,.int .i64 R] 104)) w6->∀i,i<5->(∃z,w6.cell? ⟨w.heap.size,k*5+i,none⟩=some z)/\w6.frozen? ⟨w.heap.size,k*5+i,none⟩=false):=fun w6 g6 i hi5=>by
    have H2:=H1.out.old HGD.out (Old.trans ((Old.refl wr).alloc _) g6);have h5:=H2.cell k i hlt hi5;have h6:=Qbc H2.row.1 k hlt;exact ⟨⟨_,h5.trans (List.getElem?_eq_getElem (by omega))⟩,H2.frozen _⟩
   clear H1 HB HEK;go_wp2_with fail
   go_region_held3 (fun W'=>W'.cell? ⟨wr.heap.size,0,none⟩=some (.int .i64 P)/\W'.cell? ⟨wr.heap.size,1,none⟩=some (.int .i64 N)/\W'.cell? ⟨wr.heap.size,2,none⟩=some (.int .i64 R)) (first | with_reducible exact HAS5.out _ Q5.out | with_reducible exact HAS5.out _ (Below.drew (Old.refl _)) | with_reducible exact HAS6.out _ _ _ _ _ _ Q5.out | with_reducible exact HAS5.out _ (Old.refl _)) (first
    | (go_at_call 116;refine (cj _ (Below.drew HGA.out)).mono ?_;rintro e w5 ⟨v5,rfl,q5,o5⟩;obtain ⟨x5,c5,rfl⟩:=(Own.row o5).slice;have Q5:Hid (Old (wr.alloc (.cells #[.int .i64 P,.int .i64 N,.int .i64 R] 104)) w5):=Old.trans (Below.drew (Old.refl _)) q5;have O5:Hid (Own w5 (wr.heap.size+1) (.slice x5 zs.length c5) zs):=(by simp at o5;exact o5);clear q5 o5;obtain ⟨⟨z0,hz0⟩,hf0⟩:=HCE.out w5 Q5.out 0 (by omega);obtain ⟨⟨z1,hz1⟩,hf1⟩:=HCE.out w5 Q5.out 1 (by omega);obtain ⟨⟨z2,hz2⟩,hf2⟩:=HCE.out w5 Q5.out 2 (by omega);obtain ⟨⟨z3,hz3⟩,hf3⟩:=HCE.out w5 Q5.out 3 (by omega);obtain ⟨⟨z4,hz4⟩,hf4⟩:=HCE.out w5 Q5.out 4 (by omega);rw [Nat.add_zero] at hz0 hf0)
    | fail)
   all_goals
    obtain ⟨Bz,hTI,hlo⟩:=TI.of O5.out;obtain ⟨⟨vs',n1⟩,n2,n3⟩:=HX.out w5 x5 zs.length c5 Bz Q5.out hTI hlo;have N1:Hid (TSc 106 5 ps.length (k+1) Es (((((w5.setCell ⟨w.heap.size,k*5,none⟩ (.int .i64 P)).setCell ⟨w.heap.size,k*5+1,none⟩ (.int .i64 N)).setCell ⟨w.heap.size,k*5+2,none⟩ (.int .i64 R)).setCell ⟨w.heap.size,k*5+3,none⟩ (.bool false)).setCell ⟨w.heap.size,k*5+4,none⟩ (.slice x5 zs.length c5)) w.heap.size ps.length vs' (fun q=>if q=k then Bz else Bs q)):=n1;have N2:Hid (∀j b,j<k+1->(fun q=>if q=k then Bz else Bs q) j b->w.heap.size<b):=n2;have N3:Hid (Old w (((((w5.setCell ⟨w.heap.size,k*5,none⟩ (.int .i64 P)).setCell ⟨w.heap.size,k*5+1,none⟩ (.int .i64 N)).setCell ⟨w.heap.size,k*5+2,none⟩ (.int .i64 R)).setCell ⟨w.heap.size,k*5+3,none⟩ (.bool false)).setCell ⟨w.heap.size,k*5+4,none⟩ (.slice x5 zs.length c5))):=n3;clear n1 n2 n3 hTI hlo HX;go_wp2_with fail;exact ⟨⟨k+1,vs',_,by omega,by go_num,N1,N2,N3⟩,by simp [intOf];omega⟩
  ·have d1:decide ((k:Int)<(ps.length:Int))=false:=by simp;omega
   obtain rfl:k=ps.length:=by omega
   have HE:Hid (Ows (TS 106 5 ps.length Es) wr w.heap.size wr.heap.size [.slice (some ⟨w.heap.size,0,none⟩) ps.length ps.length]):=H1.out.done HGD.out (Nat.le_refl _) (fun j b hj hb=>Nat.le_of_lt (HB.out j b hj hb));go_wp2_with fail;go_ret;exact ⟨rfl,HG1.out,HE.out⟩
def SmA (N:Int) (ps ss:List Int) (Rf:Nat->Int) (w:World) (e:Ending) (w':World):Prop:=
 ∃g,w.heap.size<=g/\e=.returned (.slice (some ⟨g,0,none⟩) ps.length ps.length)/\Old w w'/\Ows (TS 106 5 ps.length (elR N false ps Rf (smS ps ss))) w' w.heap.size w'.heap.size [.slice (some ⟨g,0,none⟩) ps.length ps.length]
theorem Qio (N:Int) (ps ss:List Int) (Rf:Nat->Int) (gr:Nat) (v:Value) (w:World) (hr:Rgs w gr N ps Rf ps.length) (hm:1<=ps.length/\ps.length<=1000) (hv:Row w v ss) (hl:1<=ss.length/\ss.length<=1000) (hs:∀i,i<ss.length->-9223372036854775808<=ss.getD i 0/\ss.getD i 0<=9223372036854775807) (hp:∀k,k<ps.length->1<=ps.getD k 0/\ps.getD k 0<=4294967296) :
 Calls Tryz.prog 56 #[.slice (some ⟨gr,0,none⟩) ps.length ps.length,v] w (SmA N ps ss Rf w):=by
 obtain ⟨sa,sc,ev⟩:=hv.slice;subst ev;have BB:Bk (w.alloc (.cells #[.slice sa ss.length sc] 22)) w.heap.size #[.slice sa ss.length sc] 22:=Bk.new' w _ _ rfl
 have K:=Qmm N ps Rf gr w.heap.size (w.alloc (.cells #[.slice sa ss.length sc] 22)) (hr.old ((Old.refl w).alloc _)) hm (smS ps ss) (fun k hk W g=>by
  rw [Qoe ps ss k hk];exact Qtr (ps.getD k 0) ss w.heap.size sa sc W (BB.old g) (hv.old (Old.trans ((Old.refl w).alloc _) g)) hl hs (hp k hk))
 have HK:Hid (Calls Tryz.prog 115 #[.slice (some ⟨gr,0,none⟩) ps.length ps.length,.func (.func 116) #[] #[.pointer (some ⟨w.heap.size,0,none⟩)]] (w.alloc (.cells #[.slice sa ss.length sc] 22)) fun e w'=>e=.returned (.slice (some ⟨w.heap.size+1,0,none⟩) ps.length ps.length)/\Old (w.alloc (.cells #[.slice sa ss.length sc] 22)) w'/\Ows (TS 106 5 ps.length (elR N false ps Rf (smS ps ss))) w' (w.heap.size+1) w'.heap.size [.slice (some ⟨w.heap.size+1,0,none⟩) ps.length ps.length]):=by
  have h1:(w.alloc (.cells #[.slice sa ss.length sc] 22)).heap.size=w.heap.size+1:=by simp
  rw [h1] at K;exact K
 clear K hr hv hs hp BB;go_enter Tryz.func56,Tryz.ntmps56;go_wp2_with fail;refine HK.out.mono ?_
 rintro e w1 ⟨rfl,g1,o1⟩;have HG1:Hid (Old w w1):=Old.trans ((Old.refl w).alloc _) g1;have HO:Hid (Ows (TS 106 5 ps.length (elR N false ps Rf (smS ps ss))) w1 w.heap.size w1.heap.size [.slice (some ⟨w.heap.size+1,0,none⟩) ps.length ps.length]):=o1.low (by omega) (Nat.le_refl _) (Nat.le_refl _);clear g1 o1 HK;go_wp2_with fail;go_ret;exact ⟨w.heap.size+1,by omega,rfl,HG1.out,HO.out⟩
end Go.Proofs.YtejhpljichmmpaaGreatDoor
