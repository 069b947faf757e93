/- Proved: what its theorems say. -/
import Derived.Test.YtjjohooeehjjcaaGreatDoorMu20
import Derived.Test.YtjjohooeehjjcaaGreatDoorMu29
import Derived.Test.YtjjohooeehjjcaaGreatDoorMu26
set_option linter.unusedVariables false
set_option linter.unusedSimpArgs false
set_option maxHeartbeats 8000000
set_option maxRecDepth 100000
namespace Go.Proofs.YtjjohooeehjjcaaGreatDoor
open Go.ChangeShapes Go.WideShapes Go.ChangeAt Go.RowKit
open M2
def lbZ (bs:List Bool) (xss:List (List Int)) (p:Int):List Int:=(List.range xss.length).map fun j=>sv (bs.getD j false) (nat (xss.getD j []))%p
theorem Qhn (bs:List Bool) (xss:List (List Int)) (p:Int):(lbZ bs xss p).length=xss.length:=by simp [lbZ]
theorem Qr4 (bs:List Bool) (xss:List (List Int)) (p:Int) (j:Nat) (h:j<xss.length):(lbZ bs xss p).getD j 0=sv (bs.getD j false) (nat (xss.getD j []))%p:=by simp [lbZ,List.getD,h]
def Qti (bs:List Bool) (xss:List (List Int)) (ps:List Int):List (List Int):=ps.map (lbZ bs xss)
theorem Qj6 (bs:List Bool) (xss:List (List Int)) (ps:List Int):(Qti bs xss ps).length=ps.length:=by simp [Qti]
theorem Qom (bs:List Bool) (xss:List (List Int)) (ps:List Int) (k:Nat) (h:k<ps.length):(Qti bs xss ps).getD k []=lbZ bs xss (ps.getD k 0):=by simp [Qti,List.getD,h]
def Q0l (bs:List Bool) (xss:List (List Int)) (k:Nat):Bool:=decide (∀i,i<xss.length->k<=i->Good (bs.getD i false) (xss.getD i []))
theorem Qpq (bs:List Bool) (xss:List (List Int)) (p:Int) (v:Value) (w:World) (hv:Qjw w v bs xss) (hl:xss.length≤1048576) (hr:∀r∈xss,r.length≤1048576) (hg:Q0l bs xss 0=true) (hp:2≤p∧p≤268435456) :
  Calls Tryz.prog 93 #[.int .i64 p,v] w fun e w'=>e=.returned (.slice (some ⟨w.heap.size,0,none⟩) xss.length xss.length)/\Old w w'/\Own w' w.heap.size (.slice (some ⟨w.heap.size,0,none⟩) xss.length xss.length) (lbZ bs xss p):=by
 obtain ⟨i0,hi,hz0,hz1,hz2⟩:=info_parts Tryz.infoInt;obtain ⟨a0,cap0,ev⟩:=hv.slice;subst ev
 have HM:Hid (∀k,k<xss.length->∀W u,Row W u (xss.getD k [])->Calls Tryz.prog 115 #[.agg #[.bool (bs.getD k false),u],.int .i64 p] W fun e w'=>e=.returned (.int .i64 ((lbZ bs xss p).getD k 0))/\Old W w'):=fun k hk W u hru=>by
  have hm:xss.getD k []∈xss:=by simp [List.getD,hk]
  have h1:=Qum (bs.getD k false) (xss.getD k []) p u W hru (hr _ hm)
  have e:Quh (bs.getD k false) (xss.getD k []) p=(lbZ bs xss p).getD k 0:=by
   unfold Quh;rw [if_pos ⟨of_decide_eq_true hg k hk (Nat.zero_le _),hp⟩,Qr4 bs xss p k hk]
  rw [e] at h1;exact h1
 have HV:Hid (Qjw w (.slice a0 xss.length cap0) bs xss):=hv;have hlen:(lbZ bs xss p).length=xss.length:=Qhn bs xss p;generalize lbZ bs xss p=zs at *;clear hv hr hg;go_enter Tryz.func93,Tryz.ntmps93;go_wp2_with (at_make;refine wpList_make_full _ rfl _ _ 22 rfl w.heap.size 3 i0 (.int .i64 0) 1 Tryz.underlying22 hi hz0 hz1 .i64 .i64 _ _ xss.length rfl rfl rfl rfl (by rw [hz2];omega) (by unfold maxLen;omega) (Nat.le_refl _) ?_;intro w3 hown hgrow)
 have HO:Hid (Qf1 w3 w.heap.size w.heap.size xss.length (List.replicate xss.length 0)):=by
  rw [Qdl] at hown;exact hown
 have HG3:Hid (Old w w3):=Old.by_ (Old.refl _) hgrow (fun b hb=>by cases hb);clear hown hgrow
 go_loopw [13,6,7] (fun i _ _ W=>∃k:Nat,k<=xss.length/\i=.int .i64 k/\Hid (Qf1 W w.heap.size w.heap.size xss.length (Qcn zs k))/\Hid (Old w W)) (fun i _ _ _=>xss.length - (intOf i).toNat)
 case atStart=>exact ⟨0,by omega,rfl,(by show Qf1 _ _ _ _ _;rw [Qek,hlen];exact HO.out),HG3⟩
 case round=>
  obtain ⟨k,hk,rfl,HO1,HG4⟩:=hrel;clear HO HG3
  by_cases hlt:k<xss.length
  ·have d1:decide ((k:Int)<(xss.length:Int))=true:=by simp;omega
   obtain ⟨_,⟨a,cap,e,e2⟩ | ⟨b,o,cap,us,e,hb2,h3,hc⟩⟩:=HV.out
   ·subst e2;simp at hlt
   simp only [Value.slice.injEq,true_and] at e;obtain ⟨rfl,rfl⟩:=e;obtain ⟨s0,c0,r0⟩:=hc k hlt;obtain ⟨x1,y1,e1⟩:=r0.slice;rw [e1] at c0 r0;have q0:wr.cell? ⟨b,o+k*2,none⟩=some (.bool (bs.getD k false)):=(HG4.out.cell (p:=⟨b,o+k*2,none⟩) hb2).trans s0
   have q1:wr.cell? ⟨b,o+k*2+1,none⟩=some (.slice x1 (xss.getD k []).length y1):=(HG4.out.cell (p:=⟨b,o+k*2+1,none⟩) hb2).trans c0
   have R1:Hid (Row wr (.slice x1 (xss.getD k []).length y1) (xss.getD k [])):=r0.old HG4.out;have cm:=HM.out k hlt
   have HPU:Hid (∀W,Qf1 W w.heap.size w.heap.size xss.length (Qcn zs k)->Qf1 (W.setCell ⟨w.heap.size,k,none⟩ (.int .i64 (zs.getD k 0))) w.heap.size w.heap.size xss.length (Qcn zs (k+1))):=fun W h=>by
    have:=h.put k (zs.getD k 0);rw [Qff zs k (by omega)] at this;exact this
   have i1:(k:Int)<(xss.length:Int):=by omega
   clear hc c0 s0 r0 e1;generalize bs.getD k false=s at *;generalize xss.getD k []=xs at *;generalize zs.getD k 0=y at *;go_wp2_with fail;refine (cm _ _ (R1.out.old ((Old.refl wr).alloc _))).mono ?_
   rintro e w4 ⟨rfl,g4⟩;have g5:Old wr w4:=Old.trans ((Old.refl wr).alloc _) g4;have HO4:Hid (Qf1 w4 w.heap.size w.heap.size xss.length (Qcn zs k)):=HO1.out.old g5;have HG6:Hid (Old w w4):=Old.trans HG4.out g5;have c3:=HO4.out.get (Qc4 zs k (by omega) |>.trans hlen) k hlt;have c4:=HO4.out.free k;generalize (Qcn zs k).getD k 0=oldv at *;clear g4 g5 q0 q1;go_wp2_with fail;exact ⟨⟨k+1,by omega,by go_num,HPU.out _ HO4.out,HG6.out.own (Nat.le_refl _) _⟩,by simp [intOf];omega⟩
  ·have d1:decide ((k:Int)<(xss.length:Int))=false:=by simp;omega
   obtain rfl:k=xss.length:=by omega
   have HF:Hid (Own wr w.heap.size (.slice (some ⟨w.heap.size,0,none⟩) xss.length xss.length) zs):=by
    have:=HO1.out.own ((Qc4 zs xss.length (by omega)).trans hlen);rw [show Qcn zs xss.length=zs by rw [<- hlen];exact Qfe zs] at this;exact this
   go_wp2_with fail;go_ret;exact ⟨rfl,HG4.out,HF.out⟩
theorem Qr5 (N:Int) (ps:List Int) (bs:List Bool) (xss:List (List Int)) (v u1:Value) (w:World) (hv:Row w v ps) (h1:Qjw w u1 bs xss) (hps:1≤ps.length∧ps.length≤6) (hx:1≤xss.length∧xss.length≤16)
  (hm:∀k,k<ps.length->∀j,j<xss.length->∀W u,Row W u (xss.getD j [])->Calls Tryz.prog 75 #[.agg #[.bool (bs.getD j false),u],.int .i64 (ps.getD k 0)] W fun e w'=>e=.returned (.int .i64 ((lbZ bs xss (ps.getD k 0)).getD j 0))/\Old W w') :
  Calls Tryz.prog 51 #[.agg #[.int .i64 N,v],u1] w fun e w'=>∃v',e=.returned v'/\Old w w'/\OwS (Qti bs xss ps) w' w.heap.size w'.heap.size v':=by
 obtain ⟨i0,hi,hz0,hz1,hz2⟩:=info_parts Tryz.infoInt;obtain ⟨j0,ji,jz0,jz1,jz2⟩:=info_parts Tryz.infoInts;obtain ⟨a0,cap0,ev⟩:=hv.slice;obtain ⟨a1,cap1,e1⟩:=h1.slice;subst ev e1;rcases hv with ⟨a,cap,e,e'⟩ | ⟨b,o,cap,e,hb,h0,hc⟩
 ·subst e';simp at hps
 obtain ⟨_,⟨a,cap,e,e'⟩ | ⟨b1,o1,cap,us1,e_1,hb1,h01,hc1⟩⟩:=h1
 ·subst e';simp at hx
 simp only [Value.slice.injEq,true_and] at e e_1;obtain ⟨rfl,rfl⟩:=e;obtain ⟨rfl,rfl⟩:=e_1;have HC:Hid (∀j,j<ps.length->w.cell? ⟨b,o+j,none⟩=some (.int .i64 (ps.getD j 0))):=hc;have HC1:Hid (∀j,j<xss.length->w.cell? ⟨b1,o1+j*2,none⟩=some (.bool (bs.getD j false))/\w.cell? ⟨b1,o1+j*2+1,none⟩=some (us1 j)/\Row w (us1 j) (xss.getD j [])):=hc1;have HMM:Hid (∀k,k<ps.length->∀j,j<xss.length->∀W u,Row W u (xss.getD j [])->Calls Tryz.prog 75 #[.agg #[.bool (bs.getD j false),u],.int .i64 (ps.getD k 0)] W fun e w'=>e=.returned (.int .i64 ((lbZ bs xss (ps.getD k 0)).getD j 0))/\Old W w'):=hm
 have HZ:Hid (∀k,k<ps.length->(Qti bs xss ps).take (k+1)=(Qti bs xss ps).take k++[lbZ bs xss (ps.getD k 0)]):=fun k hk=>by
  rw [Qpc _ _ (by rw [Qj6];exact hk),Qom _ _ _ _ hk]
 have HZL:Hid ((Qti bs xss ps).length=ps.length):=Qj6 _ _ _;generalize Qti bs xss ps=zss at *;clear hc hc1 hm;have HAO:Hid (Old w (w.alloc (.cells #[.int .i64 N,.slice (some ⟨b,o,none⟩) ps.length cap0] 45))):=(Old.refl w).alloc _;go_enter Tryz.func51,Tryz.ntmps51;go_wp2_with fail
 go_loopw [5,14] (fun x i W=>∃(k:Nat) (a:Option Addr) (cap:Nat),k<=ps.length/\i=.int .i64 k/\x=.slice a k cap/\Hid (OwS (zss.take k) W w.heap.size W.heap.size (.slice a k cap))/\Hid (Old w W)) (fun _ i _=>ps.length - (intOf i).toNat)
 case atStart=>exact ⟨0,none,0,by omega,rfl,rfl,⟨Nat.le_refl _,Or.inl ⟨rfl,by simp⟩⟩,HAO⟩
 case round=>
  obtain ⟨k,a,cap,hk,rfl,rfl,HO,HG⟩:=hrel;have hsr:=HG.out.size
  by_cases hlt:k<ps.length
  ·have d1:decide ((k:Int)<(ps.length:Int))=true:=by simp;omega
   have c0:wr.cell? ⟨b,o+k,none⟩=some (.int .i64 (ps.getD k 0)):=(HG.out.cell (p:=⟨b,o+k,none⟩) hb).trans (HC.out k hlt)
   have HMK:=HMM.out k hlt;have HT:Hid (∀i,i<xss.length->(lbZ bs xss (ps.getD k 0)).take (i+1)=(lbZ bs xss (ps.getD k 0)).take i++[(lbZ bs xss (ps.getD k 0)).getD i 0]):=fun i hi'=>Qfu _ _ (by rw [Qhn];exact hi')
   have HTL:Hid ((lbZ bs xss (ps.getD k 0)).length=xss.length):=Qhn _ _ _;have HZK:Hid (zss.take (k+1)=zss.take k++[lbZ bs xss (ps.getD k 0)]):=HZ.out k hlt;have hbr1:b1<wr.heap.size:=by omega
   generalize lbZ bs xss (ps.getD k 0)=zs at *;generalize ps.getD k 0=p at *;have HMJ:Hid (∀j,j<xss.length->∀W u,Row W u (xss.getD j [])->Calls Tryz.prog 75 #[.agg #[.bool (bs.getD j false),u],.int .i64 p] W fun e w'=>e=.returned (.int .i64 (zs.getD j 0))/\Old W w'):=HMK;clear HMK
   have HEMB:Hid (∀(W:World) (ra:Option Addr) (rc:Nat),Old wr W->Own W wr.heap.size (.slice ra zs.length rc) zs->zs.length<=rc->∃vs,W.ownsRow w.heap.size 22 1 (.slice a k cap) k vs/\(∀v' w',w'.ownsRow w.heap.size 22 1 v' (k+1) (vs++[.slice ra zs.length rc])->W.grownBy w' (Value.slice a k cap).ownBlock->(v'.ownBlock=(Value.slice a k cap).ownBlock∨v'.ownBlock=some W.heap.size)->OwS (zss.take (k+1)) w' w.heap.size w'.heap.size v')):=fun W ra rc g o hc=>by
    have hl:(zss.take k).length=k:=by rw [List.length_take];have:=HZL.out;omega
    have:=OwS.app HO.out hsr g o hc;rw [hl] at this;rw [HZK.out];exact this
   have HOB:Hid (∀p,(Value.slice a k cap).ownBlock=some p->w.heap.size<=p):=fun p hp=>by
    obtain ⟨hh,⟨e,e2⟩ | ⟨p',cap',vs,e,hcap,hl,hhi,_⟩⟩:=HO.out
    ·rw [e] at hp
     cases hp
    ·rw [e] at hp;simp only [Value.ownBlock,Option.some.injEq] at hp;omega
   rename World=>wq
   go_wp2_with fail
   go_loopw [8,20] (fun x i W=>∃(j:Nat) (a:Option Addr) (cap:Nat),j<=xss.length/\i=.int .i64 j/\x=.slice a j cap/\Hid (Own W wq.heap.size (.slice a j cap) (zs.take j))/\Hid (Old wq W)) (fun _ i _=>xss.length - (intOf i).toNat)
   case atStart=>exact ⟨0,none,0,by omega,rfl,rfl,(by exact Qmn _ _),Old.refl _⟩
   case round=>
    obtain ⟨j,ra,rc,hj,rfl,rfl,HO2,HG2⟩:=hrel;have hs2:=HG2.out.size
    by_cases hjl:j<xss.length
    ·have d2:decide ((j:Int)<(xss.length:Int))=true:=by simp;omega
     obtain ⟨s0,c1,r1⟩:=HC1.out j hjl;obtain ⟨x1,y1,f1⟩:=r1.slice;rw [f1] at c1 r1;have HGW:Hid (Old w wr):=Old.trans HG.out HG2.out;have k0:wr.cell? ⟨b1,o1+j*2,none⟩=some (.bool (bs.getD j false)):=(HGW.out.cell (p:=⟨b1,o1+j*2,none⟩) hb1).trans s0
     have k1:wr.cell? ⟨b1,o1+j*2+1,none⟩=some (.slice x1 (xss.getD j []).length y1):=(HGW.out.cell (p:=⟨b1,o1+j*2+1,none⟩) hb1).trans c1
     have R1:Hid (Row wr (.slice x1 (xss.getD j []).length y1) (xss.getD j [])):=r1.old HGW.out;have htk:(zs.take j).length=j:=by rw [List.length_take];have:=HTL.out;omega
     have HT2:Hid (zs.take (j+1)=zs.take j++[zs.getD j 0]):=HT.out j hjl;have cm:=HMJ.out j hjl;clear s0 c1 r1 f1;generalize bs.getD j false=s at *;generalize xss.getD j []=xs at *;generalize zs.getD j 0=q at *;go_wp2_with fail;refine (cm _ _ (R1.out.old ((Old.refl wr).alloc _))).mono ?_
     rintro e w4 ⟨rfl,g4⟩;have g5:Old wr w4:=Old.trans ((Old.refl wr).alloc _) g4;have HO4:Hid (Own w4 wq.heap.size (.slice ra j rc) (zs.take j)):=HO2.out.old g5;have HG4:Hid (Old wq w4):=Old.trans HG2.out g5;have hs4:=g5.size;clear g4 g5 k0 k1 cm R1 HO2;go_wp2_with (at_builtin;go_loud (refine wpList_append_own _ rfl _ _ 22 rfl wq.heap.size 3 i0 (.int .i64 0) 1 8 Tryz.underlying22 hi hz0 hz1 hz2 rfl (by decide) _ _ _ rfl (by have:=HO4.out.alloc (.cells #[.int .i64 q] 3);unfold Own at this;rw [htk] at this;exact this) ⟨w4.heap.size,0,none⟩ 1 1 [.int .i64 q] rfl rfl (one_cell _ _ _) (one_one _) (by unfold maxLen;omega) (by omega) (by simp;omega) ?_;intro v5 w5 o5 g5 x5;have O5:Hid (Own w5 wq.heap.size v5 (zs.take (j+1))):=(by have:=HT2.out;show Own _ _ _ _;rw [this];exact Own.snoc (by rw [htk];exact o5));have G5:Hid (Old wq w5):=Below.grown (HG4.out.alloc (.cells #[.int .i64 q] 3)) g5 (HG4.out.alloc (.cells #[.int .i64 q] 3)).size (fun j hj=>(HO4.out.lt j hj).1);clear o5 g5 x5));obtain ⟨a5,cap5,rfl⟩:=(Own.row O5.out).slice;have htk1:(zs.take (j+1)).length=j+1:=by rw [List.length_take];have:=HTL.out;omega
     rw [htk1] at O5 ⊢;exact ⟨⟨j+1,_,_,by omega,by go_num,rfl,O5,G5⟩,by simp [intOf];omega⟩
    ·have d2:decide ((j:Int)<(xss.length:Int))=false:=by simp;omega
     obtain rfl:j=xss.length:=by omega
     have hzl:=HTL.out;have own2:=HO2.out;rw [List.take_of_length_le (by omega)] at own2
     have hrc:xss.length<=rc:=by
      rcases own2.2 with ⟨e,hn⟩ | ⟨_,_,_,e,_,_,hn,_⟩
      ·simp only [Value.slice.injEq] at e;omega
      ·simp only [Value.slice.injEq,true_and] at e;omega
     rw [<- hzl] at own2 hrc;obtain ⟨vs,ov,hem⟩:=HEMB.out (wr.alloc (.cells #[.slice ra zs.length rc] 22)) ra rc (HG2.out.alloc _) (own2.alloc _) hrc;rw [hzl] at ov hem;have OV:Hid ((wr.alloc (.cells #[.slice ra xss.length rc] 22)).ownsRow w.heap.size 22 1 (.slice a k cap) k vs):=ov;have HEM:Hid (∀v' w',w'.ownsRow w.heap.size 22 1 v' (k+1) (vs++[.slice ra xss.length rc])->(wr.alloc (.cells #[.slice ra xss.length rc] 22)).grownBy w' (Value.slice a k cap).ownBlock->(v'.ownBlock=(Value.slice a k cap).ownBlock∨v'.ownBlock=some (wr.alloc (.cells #[.slice ra xss.length rc] 22)).heap.size)->OwS (zss.take (k+1)) w' w.heap.size w'.heap.size v'):=hem;have HWW:Hid (Old w (wr.alloc (.cells #[.slice ra xss.length rc] 22))):=(Old.trans HG.out HG2.out).alloc _;clear own2 ov hem hzl hrc HO2;go_wp2_with (at_builtin;(refine wpList_append_own_at _ rfl _ _ 49 rfl w.heap.size 22 j0 (.slice none 0 0) 1 24 Tryz.underlying49 ji jz0 jz1 jz2 rfl (by decide) _ _ _ rfl OV.out ⟨wr.heap.size,0,none⟩ 1 1 [.slice ra xss.length rc] rfl rfl (one_cell _ _ _) (Qza _ _ _) (by unfold maxLen;omega) (by omega) (by simp;omega) ?_;intro v5 w5 o5 g5 x5 l5;have O5:Hid (OwS (zss.take (k+1)) w5 w.heap.size w5.heap.size v5):=HEM.out v5 w5 o5 g5 l5;have G5:Hid (Old w w5):=Below.grown HWW.out g5 HWW.out.size (fun j hj=>HOB.out j hj);clear o5 g5 x5 l5));have hl1:(zss.take (k+1)).length=k+1:=by rw [List.length_take];have:=HZL.out;omega
     obtain ⟨a5,cap5,e5⟩:=O5.out.slice;subst e5;rw [hl1] at O5 ⊢;exact ⟨⟨k+1,_,_,by omega,by go_num,rfl,O5,G5⟩,by simp [intOf];omega⟩
  ·have d1:decide ((k:Int)<(ps.length:Int))=false:=by simp;omega
   obtain rfl:k=ps.length:=by omega
   have HF:Hid (OwS zss wr w.heap.size wr.heap.size (.slice a ps.length cap)):=by
    have:=HO.out;rw [List.take_of_length_le (by have:=HZL.out;omega)] at this;exact this
   go_wp2_with fail;go_ret;exact ⟨_,rfl,HG.out,HF.out⟩
theorem Tryz.infoL2W:(Tryz.prog.info? 53).map (fun i=>(i.zero,i.size,i.bytes))=some (some (.agg #[.bool false,.slice none 0 0]),2,32):=by kernel_rfl
theorem Qun (w:World) (x y:Value) (t:TypeId) {k:Nat} (hk:w.heap.size=k) (j:Nat) (u:Value) (h:[x,y][j]? = some u):(w.alloc (.cells #[x,y] t)).cell? ((⟨k,0,none⟩:Addr).add j)=some u:=by
 have hb:Bk (w.alloc (.cells #[x,y] t)) k #[x,y] t:=Bk.new' w _ _ hk
 match j with
 | 0=>
   simp at h;subst h;exact hb.c (i:=0) rfl
 | 1=>
   simp at h;subst h;exact hb.c (i:=1) rfl
 | j+2=>simp at h
end Go.Proofs.YtjjohooeehjjcaaGreatDoor
