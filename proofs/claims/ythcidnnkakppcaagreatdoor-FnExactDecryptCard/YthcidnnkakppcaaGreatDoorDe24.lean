/- Proved: what its theorems say. -/
import Derived.Test.YthcidnnkakppcaaGreatDoorDe21
set_option linter.unusedVariables false
set_option linter.unusedSimpArgs false
set_option maxHeartbeats 8000000
set_option maxRecDepth 100000
namespace Go.Proofs.YthcidnnkakppcaaGreatDoor
open Go.ChangeShapes Go.WideShapes Go.ChangeAt Go.RowKit
open M1
theorem Qui (a:Option Addr) (n c:Nat):∀u∈[Value.slice a n c],u.oneCell'=true:=by simp [Value.oneCell']
theorem Qru (N:Int) (ps:List Int) (xss yss:List (List Int)) (v u1 u2:Value) (w:World) (hv:Row w v ps) (h1:Qdq w u1 xss) (h2:Qdq w u2 yss) (hps:1≤ps.length∧ps.length≤6) (hx:xss.length=ps.length) (hy:yss.length=ps.length)
  (hr:∀k,k<ps.length->(xss.getD k []).length<=16/\(yss.getD k []).length=(xss.getD k []).length/\(2<=ps.getD k 0/\ps.getD k 0<=268435456)/\∀i,i<(xss.getD k []).length->(0<=(xss.getD k []).getD i 0/\(xss.getD k []).getD i 0<=268435456)/\(0<=(yss.getD k []).getD i 0/\(yss.getD k []).getD i 0<=268435456)) :
  Calls Tryz.prog 50 #[.agg #[.int .i64 N,v],u1,u2] w fun e w'=>∃v',e=.returned v'/\Old w w'/\OwS (Qcb Qdd ps xss yss) w' w.heap.size w'.heap.size v':=by
 obtain ⟨i0,hi,hz0,hz1,hz2⟩:=info_parts Tryz.infoInt;obtain ⟨j0,ji,jz0,jz1,jz2⟩:=info_parts Tryz.infoInts;have HR:=Qaa hr;obtain ⟨a0,cap0,ev⟩:=hv.slice;obtain ⟨a1,cap1,e1⟩:=h1.slice;obtain ⟨a2,cap2,e2⟩:=h2.slice;rw [hx] at e1;rw [hy] at e2;subst ev e1 e2;rcases hv with ⟨a,cap,e,e'⟩ | ⟨b,o,cap,e,hb,h0,hc⟩
 ·subst e';simp at hps
 rcases h1 with ⟨a,cap,e,e'⟩ | ⟨b1,o1,cap,us1,e_1,hb1,h01,hc1⟩
 ·subst e';simp at hx;omega
 rcases h2 with ⟨a,cap,e,e'⟩ | ⟨b2,o2,cap,us2,e_2,hb2,h02,hc2⟩
 ·subst e';simp at hy;omega
 simp only [Value.slice.injEq,true_and] at e e_1 e_2;obtain ⟨rfl,rfl⟩:=e;obtain ⟨rfl,hq1,rfl⟩:=e_1;obtain ⟨rfl,hq2,rfl⟩:=e_2;have HC:=Qaa hc;have HC1:Hid (∀j,j<ps.length->w.cell? ⟨b1,o1+j,none⟩=some (us1 j)/\Row w (us1 j) (xss.getD j [])):=fun j hj=>hc1 j (by omega)
 have HC2:Hid (∀j,j<ps.length->w.cell? ⟨b2,o2+j,none⟩=some (us2 j)/\Row w (us2 j) (yss.getD j [])):=fun j hj=>hc2 j (by omega)
 have HZ:Hid (∀k,k<ps.length->(Qcb Qdd ps xss yss).take (k+1)=(Qcb Qdd ps xss yss).take k++[Qef Qdd (ps.getD k 0) (xss.getD k []) (yss.getD k [])]):=fun k hk=>by
  rw [Qga _ _ (by rw [Qcp];exact hk),Qc6 _ _ _ _ _ hk]
 have HZL:Hid ((Qcb Qdd ps xss yss).length=ps.length):=Qcp _ _ _ _;generalize Qcb Qdd ps xss yss=zss at *;clear hc hc1 hc2 hr hx hy hq1 hq2;have HAO:Hid (Old w (w.alloc (.cells #[.int .i64 N,.slice (some ⟨b,o,none⟩) ps.length cap0] 52))):=(Old.refl w).alloc _;go_enter Tryz.func50,Tryz.ntmps50;go_wp2_with fail
 go_loopw [7,15] (fun x i W=>∃(k:Nat) (a:Option Addr) (cap:Nat),k<=ps.length/\i=.int .i64 k/\x=.slice a k cap/\Hid (OwS (zss.take k) W w.heap.size W.heap.size (.slice a k cap))/\Hid (Old w W)) (fun _ i _=>ps.length - (intOf i).toNat)
 case atStart=>exact ⟨0,none,0,by omega,rfl,rfl,⟨Nat.le_refl _,Or.inl ⟨rfl,by simp⟩⟩,HAO⟩
 case round=>
  obtain ⟨k,a,cap,hk,rfl,rfl,HO,HG⟩:=hrel;have hsr:=HG.out.size
  by_cases hlt:k<ps.length
  ·obtain ⟨r1,r2,r3,r4⟩:=HR.out k hlt;obtain ⟨p1,p2⟩:=HC1.out k hlt;obtain ⟨q1,q2⟩:=HC2.out k hlt;obtain ⟨x1,y1,f1⟩:=p2.slice;obtain ⟨x2,y2,f2⟩:=q2.slice;rw [f1] at p1 p2;rw [f2,r2] at q1;rw [f2,r2] at q2;have c0:=(HG.out.cell (p:=⟨b,o+k,none⟩) hb).trans (HC.out k hlt);have c1:=(HG.out.cell (p:=⟨b1,o1+k,none⟩) hb1).trans p1;have R1:=Qaa (p2.old HG.out);have c2:=(HG.out.cell (p:=⟨b2,o2+k,none⟩) hb2).trans q1;have R2:=Qaa (q2.old HG.out);have HZk:=HZ.out k hlt;have HB:=Qaa r4
   have HT:Hid (∀i,i<(xss.getD k []).length->(Qef Qdd (ps.getD k 0) (xss.getD k []) (yss.getD k [])).take (i+1)=(Qef Qdd (ps.getD k 0) (xss.getD k []) (yss.getD k [])).take i++[Qdd (ps.getD k 0) ((xss.getD k []).getD i 0) ((yss.getD k []).getD i 0)]):=fun i hi'=>by
    rw [Qeq _ _ (by rw [Qfq];exact hi'),Qhz _ _ _ _ _ hi']
   have HTL:Hid ((Qef Qdd (ps.getD k 0) (xss.getD k []) (yss.getD k [])).length=(xss.getD k []).length):=Qfq _ _ _ _;have HZK:=Qaa HZk;have hbr1:b1<wr.heap.size:=by omega
   have hbr2:b2<wr.heap.size:=by omega
   have HYL:=Qaa r2;clear HZk r4 r2 p1 p2 q1 q2 f1 f2;generalize Qef Qdd (ps.getD k 0) (xss.getD k []) (yss.getD k [])=zs at *;generalize xss.getD k []=xs at *;generalize yss.getD k []=ys at *;generalize ps.getD k 0=p at *
   have HEMB:Hid (∀(W:World) (ra:Option Addr) (rc:Nat),Old wr W->Own W wr.heap.size (.slice ra zs.length rc) zs->zs.length<=rc->∃vs,W.ownsRow w.heap.size 22 1 (.slice a k cap) k vs/\(∀v' w',w'.ownsRow w.heap.size 22 1 v' (k+1) (vs++[.slice ra zs.length rc])->W.grownBy w' (Value.slice a k cap).ownBlock->(v'.ownBlock=(Value.slice a k cap).ownBlock∨v'.ownBlock=some W.heap.size)->OwS (zss.take (k+1)) w' w.heap.size w'.heap.size v')):=fun W ra rc g o hc=>by
    have hl:(zss.take k).length=k:=by rw [List.length_take];have:=HZL.out;omega
    have:=OwS.app HO.out hsr g o hc;rw [hl] at this;rw [HZK.out];exact this
   have HOB:Hid (∀p,(Value.slice a k cap).ownBlock=some p->w.heap.size<=p):=fun p hp=>by
    obtain ⟨hh,⟨e,e2⟩ | ⟨p',cap',vs,e,hcap,hl,hhi,_⟩⟩:=HO.out
    ·rw [e] at hp
     cases hp
    ·rw [e] at hp;simp only [Value.ownBlock,Option.some.injEq] at hp;omega
   rename World=>wq
   go_wp2_with fail
   go_loopw [10,25] (fun x i W=>∃(j:Nat) (a:Option Addr) (cap:Nat),j<=xs.length/\i=.int .i64 j/\x=.slice a j cap/\Hid (Own W wq.heap.size (.slice a j cap) (zs.take j))/\Hid (Old wq W)) (fun _ i _=>xs.length - (intOf i).toNat)
   case atStart=>exact ⟨0,none,0,by omega,rfl,rfl,(by exact Qd1 _ _),Old.refl _⟩
   case round=>
    obtain ⟨j,ra,rc,hj,rfl,rfl,HO2,HG2⟩:=hrel;have hs2:=HG2.out.size
    by_cases hjl:j<xs.length
    ·have d2:decide ((j:Int)<(xs.length:Int))=true:=by simp;omega
     obtain ⟨⟨bx1,bx2⟩,⟨by1,by2⟩⟩:=HB.out j hjl;have HT1:=HT.out j hjl;have hyl:=HYL.out;rcases R1.out with ⟨_,_,e,e'⟩ | ⟨b3,o3,cap3,e,hb3,h03,hc3⟩
     ·subst e';simp at hjl
     rcases R2.out with ⟨_,_,e_,e'⟩ | ⟨b4,o4,cap4,e_,hb4,h04,hc4⟩
     ·subst e';simp at hyl;omega
     simp only [Value.slice.injEq,true_and] at e e_;obtain ⟨rfl,rfl⟩:=e;obtain ⟨rfl,hq3,rfl⟩:=e_;have k1:=(HG2.out.cell (p:=⟨b1,o1+k,none⟩) hbr1).trans c1;have k2:=(HG2.out.cell (p:=⟨b2,o2+k,none⟩) hbr2).trans c2;have k3:=(HG2.out.cell (p:=⟨b3,o3+j,none⟩) hb3).trans (hc3 j hjl);have k4:=(HG2.out.cell (p:=⟨b4,o4+j,none⟩) hb4).trans (hc4 j (by omega));have htk:(zs.take j).length=j:=by rw [List.length_take];have:=HTL.out;omega
     have HW1:=Qaa (fun d o=>HO2.out.old (((Old.refl wr).alloc o).drewN d));have HG5:=Qaa (fun d o=>(HG2.out.alloc o).drewN d);have HT2:=Qaa HT1;clear hc3 hc4 HT1 hyl hq3;have hp0:¬p=0:=by omega
     generalize xs.getD j 0=x at *;generalize ys.getD j 0=y at *;obtain ⟨q,hq⟩:∃q,Qdd p x y=q:=⟨_,rfl⟩
     have e3:(IntKind.i64.wrap (x+y)).tmod p=q:=by
      rw [IntKind.wrap_i64];rw [show (x+y+9223372036854775808)%18446744073709551616 - 9223372036854775808=x+y by omega];rw [Int.tmod_eq_emod_of_nonneg (by omega)];exact hq
     have e4:(x+y).tmod p=q:=by
      rw [Int.tmod_eq_emod_of_nonneg (by omega)];exact hq
     have hqb:0<=q/\q<268435456:=by
      have g1:=Int.emod_nonneg (x+y) (show p≠0 by omega);have g2:=Int.emod_lt_of_pos (x+y) (show 0<p by omega);unfold Qdd at hq;omega
     rw [hq] at HT2;clear hq;go_wp2_with fail
     go_region_law (refine step_append_lies _ rfl (.tmp 28) (.tmp 46) 22 rfl wq.heap.size 3 i0 (.int .i64 0) 1 8 Tryz.underlying22 hi hz0 hz1 hz2 rfl (by decide) (.slice ra j rc) j ((zs.take j).map (Value.int .i64)) (by simp [Act.eval,Act.put]) (by have:=HW1.out 1 (.cells #[.int .i64 q] 3);unfold Own at this;rw [htk] at this;exact this) ⟨wr.heap.size,0,none⟩ 1 1 [.int .i64 q] (by simp [Act.eval,Act.put]) rfl (one_cell _ _ _) (one_one _) (by omega) (by unfold maxLen;omega) (by omega) (by simp;omega) _ rfl ?_;intro g5 cap5 w5 o5 gr5 x5 lt5;have O5:Hid (Own w5 wq.heap.size (.slice (some ⟨g5,0,none⟩) (j+1) cap5) (zs.take (j+1))):=(by have:=HT2.out;show Own _ _ _ _;rw [this];exact Own.snoc (by rw [htk];exact o5));have G5:Hid (Old wq w5):=Below.grown (HG5.out 1 (.cells #[.int .i64 q] 3)) gr5 (HG5.out 1 (.cells #[.int .i64 q] 3)).size (fun j hj=>(HO2.out.lt j hj).1);clear o5 gr5 x5 lt5)
     all_goals
      go_wp2_with fail;exact ⟨⟨j+1,_,_,by omega,by go_num,rfl,O5,G5⟩,by simp [intOf];omega⟩
    ·have d2:decide ((j:Int)<(xs.length:Int))=false:=by simp;omega
     obtain rfl:j=xs.length:=by omega
     have hzl:=HTL.out;have own2:=HO2.out;rw [List.take_of_length_le (by omega)] at own2
     have hrc:xs.length<=rc:=by
      rcases own2.2 with ⟨e,hn⟩ | ⟨_,_,_,e,_,_,hn,_⟩
      ·simp only [Value.slice.injEq] at e;omega
      ·simp only [Value.slice.injEq,true_and] at e;omega
     rw [<- hzl] at own2 hrc;obtain ⟨vs,ov,hem⟩:=HEMB.out (wr.alloc (.cells #[.slice ra zs.length rc] 22)) ra rc (HG2.out.alloc _) (own2.alloc _) hrc;rw [hzl] at ov hem;have OV:=Qaa ov;have HEM:=Qaa hem;have HWW:Hid (Old w (wr.alloc (.cells #[.slice ra xs.length rc] 22))):=(Old.trans HG.out HG2.out).alloc _;clear own2 ov hem hzl hrc HO2;go_wp2_with (at_builtin;go_loud (refine wpList_append_own_at _ rfl _ _ 54 rfl w.heap.size 22 j0 (.slice none 0 0) 1 24 Tryz.underlying54 ji jz0 jz1 jz2 rfl (by decide) _ _ _ rfl OV.out ⟨wr.heap.size,0,none⟩ 1 1 [.slice ra xs.length rc] rfl rfl (one_cell _ _ _) (Qui _ _ _) (by unfold maxLen;omega) (by omega) (by simp;omega) ?_;intro v5 w5 o5 g5 x5 l5;have O5:=Qaa (HEM.out v5 w5 o5 g5 l5);have G5:Hid (Old w w5):=Below.grown HWW.out g5 HWW.out.size (fun j hj=>HOB.out j hj);clear o5 g5 x5 l5));have hl1:(zss.take (k+1)).length=k+1:=by rw [List.length_take];have:=HZL.out;omega
     obtain ⟨a5,cap5,e5⟩:=O5.out.slice;subst e5;rw [hl1] at O5 ⊢;exact ⟨⟨k+1,_,_,by omega,by go_num,rfl,O5,G5⟩,by simp [intOf];omega⟩
  ·have d1:decide ((k:Int)<(ps.length:Int))=false:=by simp;omega
   obtain rfl:k=ps.length:=by omega
   have HF:Hid (OwS zss wr w.heap.size wr.heap.size (.slice a ps.length cap)):=by
    have:=HO.out;rw [List.take_of_length_le (by have:=HZL.out;omega)] at this;exact this
   go_wp2_with fail;go_ret;exact ⟨_,rfl,HG.out,HF.out⟩
end Go.Proofs.YthcidnnkakppcaaGreatDoor
namespace Go.Proofs.YthcidnnkakppcaaGreatDoor
open Go.ChangeShapes Go.WideShapes Go.ChangeAt Go.RowKit
theorem Qwy {W:World} {base:Nat} {v:Value} {zs:List Int} (h:Own W base v zs) (h0:0<zs.length):∃g rc,v=.slice (some ⟨g,0,none⟩) zs.length rc/\zs.length<=rc:=by
 rcases h.2 with ⟨e,hn⟩ | ⟨_,_,_,e,_,_,hn,_⟩
 ·omega
 ·exact ⟨_,_,e,hn⟩
end Go.Proofs.YthcidnnkakppcaaGreatDoor
