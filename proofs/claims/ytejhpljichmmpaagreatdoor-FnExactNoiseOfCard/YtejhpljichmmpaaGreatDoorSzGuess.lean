/- Proved: what its theorems say. -/
import Derived.Test.YtejhpljichmmpaaGreatDoorSzAdd
set_option linter.unusedVariables false
set_option linter.unusedSimpArgs false
set_option maxHeartbeats 8000000
set_option maxRecDepth 100000
namespace Go.Proofs.YtejhpljichmmpaaGreatDoor
open Go.ChangeShapes Go.WideShapes Go.ChangeAt Go.RowKit
open M2
theorem Qp8 (L v p m cc:Nat) (w:World) (h:Long L v p m) (hc:cnt v=m+2) (hp:p+m+2<=79) :
 Calls Tryz.prog 214 #[.agg (szA (pad L) cc),.agg (szV v),.int .i64 (p:Int)] w fun e w'=>∃d:Nat,e=.returned (.int .i64 (d:Int))/\L/(v*LB^p)<=d/\d<=L/(v*LB^p)+1/\d<=268435457/\Old w w':=by
 have hlL:cnt L<=80:=Nat.le_trans (Qcm h.big) (by omega);have HLL:=Qae hlL (by omega);have HLV:=Qae (n:=v) (k:=80) (by omega) (by omega);have a80:=Qcr HLV (cnt v);have HL:Hid (Long L v p m):=h;rw [hc] at a80;have e1:=Qi1 HLV (cnt v) (j:=m+1) (by omega);have e2:=Qi1 HLV (cnt v) (j:=m) (by omega);have t0:=Qi1 HLL cc (j:=p+m+2) (by omega);have t1:=Qi1 HLL cc (j:=p+m+1) (by omega);have t2:=Qi1 HLL cc (j:=p+m) (by omega);rw [Qgg] at e1 e2 t0 t1 t2;have hf:v/LB^(m+1)%LB=v/LB^(m+1):=Nat.mod_eq_of_lt h.first;rw [hf] at e1;unfold szV;rw [hc] at *;have hseen:=h.seen;have b1:v/LB^(m+1)<268435456:=h.first;have b2:v/LB^m%LB<268435456:=Nat.mod_lt _ Qba;have b3:L/LB^(p+m+2)%LB<268435456:=Nat.mod_lt _ Qba;have b4:L/LB^(p+m+1)%LB<268435456:=Nat.mod_lt _ Qba;have b5:L/LB^(p+m)%LB<268435456:=Nat.mod_lt _ Qba;have b6:0<v/LB^(m+1):=h.f0;have HY0:Hid ((pad L).getD (p+m+2) 0=L/LB^(p+m+2)%LB):=Qgg _ _;have HY1:Hid ((pad L).getD (p+m+1) 0=L/LB^(p+m+1)%LB):=Qgg _ _;have HY2:Hid ((pad L).getD (p+m) 0=L/LB^(p+m)%LB):=Qgg _ _;have HS:=Gs.start h;have HD:Hid (∀d r,Gs L v p m d r->LB<=d->Gs L v p m (d - 1) (r+v/LB^(m+1))/\d - 1<=LB):=fun d r g hd=>g.big h hd
 have HC:Hid (∀d r,Gs L v p m d r->r*LB+L/LB^(p+m)%LB<d*(v/LB^m%LB)->Gs L v p m (d - 1) (r+v/LB^(m+1))/\d - 1<=LB):=fun d r g ht=>g.dec h ht
 have HEA:Hid (∀d r,Gs L v p m d r->d<LB->d*(v/LB^m%LB)<=r*LB+L/LB^(p+m)%LB->d<=L/(v*LB^p)+1):=fun d r g hd ht=>g.enda h hd ht
 have HEB:Hid (∀d r,Gs L v p m d r->d<=LB->LB<=r->d<=L/(v*LB^p)+1):=fun d r g hd hr=>g.endb h hd hr
 have HGE:Hid (∀d r,Gs L v p m d r->L/(v*LB^p)<=d/\d<=LB+1):=fun d r g=>⟨g.ge,g.le⟩
 generalize hG:Gs L v p m=G at *;generalize v/LB^(m+1)=f at *;generalize v/LB^m%LB=s at *;generalize L/LB^(p+m+2)%LB=x0 at *;generalize L/LB^(p+m+1)%LB=x1 at *;generalize L/LB^(p+m)%LB=x2 at *;generalize L/LB^(p+m+1)=S at *;generalize L/(v*LB^p)=q at *;clear hG h hf
 have hS:(x0:Int)*268435456+(x1:Int)=(S:Int):=by
  have:=congrArg (fun z:Nat=>(z:Int)) hseen;simp only [Int.natCast_add,Int.natCast_mul] at this;exact this
 have hSb:S<72057594037927936:=by have:LB=268435456:=rfl;rw [this] at hseen;omega
 clear hseen;have HX0:Hid ((pad L).getD (p+m+2) 0=x0):=HY0.out;have HX1:Hid ((pad L).getD (p+m+1) 0=x1):=HY1.out;have HX2:Hid ((pad L).getD (p+m) 0=x2):=HY2.out;clear HY0 HY1 HY2;generalize hT0:p+m+2=t at *;generalize hT1:p+m+1=tt1 at *;generalize hT2:p+m=tt2 at *;generalize hM2:m+2=c2 at *;generalize hM1:m+1=c1 at *;have i0:(c2:Int) - 1=(c1:Int):=by omega
 have i1:(c2:Int) - 2=(m:Int):=by omega
 have i2:(p:Int)+(c2:Int)=(t:Int):=by omega
 have i3:(t:Int) - 1=(tt1:Int):=by omega
 have i4:(t:Int) - 2=(tt2:Int):=by omega
 have k0:(c1:Int)<80:=by omega
 have k1:(m:Int)<80:=by omega
 have k2:(t:Int)<80:=by omega
 have k3:(tt1:Int)<80:=by omega
 have k4:(tt2:Int)<80:=by omega
 have kk:c2<80:=by omega
 clear hT0 hT1 hT2 hM2 hM1 hp;have hf0:¬f=0:=by omega
 have eq1:(S:Int)/(f:Int)=((S/f:Nat):Int):=(Int.natCast_ediv S f).symm;have eq2:(S:Int)%(f:Int)=((S%f:Nat):Int):=(Int.natCast_emod S f).symm;have HS0:Hid (G (S/f) (S%f)/\S%f<268435456):=⟨HS,by have:=Nat.mod_lt S b6;omega⟩;have HW:Hid (Old w ((w.alloc (.cells (szA (pad L) cc) 120)).alloc (.cells (szA (pad v) c2) 120))):=((Old.refl w).alloc _).alloc _;have hD0:S/f<=268435457:=(HGE.out _ _ HS).2;generalize S/f=D at *;generalize S%f=E at *;have hE0:E<268435456:=HS0.out.2;have HG00:Hid (G D E):=HS;clear HS HL hc HS0
 have HCL:Hid (((w.alloc (.cells (szA (pad L) cc) 120)).alloc (.cells (szA (pad v) c2) 120)).cell? ⟨w.heap.size,tt2,none⟩=some (.int .i64 (x2:Int))):=by
  have:=(Sz.new w (pad L) cc HLL).alloc (.cells (szA (pad v) c2) 120);exact (cell_of_row _ _ _ _ _ _ this.blk).trans t2
 go_enter Tryz.func214,Tryz.ntmps214;go_wp2_with fail;refine wp_scope_jumps 0 (fun a' w'=>∃(d r:Nat) (u13 u14 u15 u16 u17 u18 u19 u20 u21 u22 u23 u24 u25 u26 u27 u28 u29 u30 u31 u32 u33 u34 u35 u36 u37 u38 u39 u40 u41 u42 u43 u44 u45 u46 u47 u48 u49 u50 u51 u52 u53 u54 u55 u56 u57 u58 u59 u60 u61 u62 u63 u64 u65 u66 u67 u68 u69:Value),(Hid (Old w w')/\w'.cell? ⟨w.heap.size,tt2,none⟩=some (.int .i64 (x2:Int)))/\(Hid (G d r)/\d<=268435457/\r<268435456)/\a'={tmps:=#[.agg (szA (pad L) cc),.agg (szA (pad v) c2),.int .i64 (p:Int),.pointer (some ⟨w.heap.size,0,none⟩),.pointer (some ⟨w.heap.size+1,0,none⟩),undef,.int .i64 0,.int .i64 (t:Int),.int .i64 (f:Int),.int .i64 (s:Int),.int .i64 (S:Int),.int .i64 (d:Int),.int .i64 (r:Int),u13,u14,u15,u16,u17,u18,u19,u20,u21,u22,u23,u24,u25,u26,u27,u28,u29,u30,u31,u32,u33,u34,u35,u36,u37,u38,u39,u40,u41,u42,u43,u44,u45,u46,u47,u48,u49,u50,u51,u52,u53,u54,u55,u56,u57,u58,u59,u60,u61,u62,u63,u64,u65,u66,u67,u68,u69],defers:=[]}) (fun a' _=>268435456 - (intOf (a'.tmps.getD 12 undef)).toNat) rfl ?_ ?_
 ·go_wp2_with fail
  go_quiet (fail)
  obtain ⟨w1,hw1⟩:∃W,W=((w.alloc (.cells (szA (pad L) cc) 120)).alloc (.cells (szA (pad v) c2) 120)).drewN nq:=⟨_,rfl⟩
  have HS1:Hid (Sz w1 w.heap.size (pad L) cc):=by rw [hw1];exact ((Sz.new w (pad L) cc HLL).alloc _).drew _
  have HO1:Hid (Old w w1):=by rw [hw1];exact HW.out.drewN _
  rw [<- hw1];clear hw1;have y0:=HS1.out.at (j:=t) (by omega);have y1:=HS1.out.at (j:=tt1) (by omega);have y2:=HS1.out.at (j:=tt2) (by omega);rw [show (pad L).getD t 0=x0 from HX0.out] at y0;rw [show (pad L).getD tt1 0=x1 from HX1.out] at y1;rw [show (pad L).getD tt2 0=x2 from HX2.out] at y2;go_wp2_with fail
  go_quiet (fail)
  obtain ⟨w2,hw2⟩:∃W,W=w1.drewN nq:=⟨_,rfl⟩
  have hcell:w2.cell? ⟨w.heap.size,tt2,none⟩=some (.int .i64 (x2:Int)):=by rw [hw2];exact y2
  have HO2:Hid (Old w w2):=by rw [hw2];exact HO1.out.drewN _
  rw [<- hw2];clear hw2 y0 y1 y2 HO1 HS1;go_wp2_with fail
  go_quiet (fail)
  obtain ⟨w3,hw3⟩:∃W,W=w2.drewN nq:=⟨_,rfl⟩
  have hcell3:w3.cell? ⟨w.heap.size,tt2,none⟩=some (.int .i64 (x2:Int)):=by rw [hw3];exact hcell
  have HO1:Hid (Old w w3):=by rw [hw3];exact HO2.out.drewN _
  rw [<- hw3];clear hw3 hcell HO2;have hcell:=hcell3;clear hcell3;go_wp2_with fail
  (try rw [eq2])
  clear eq1 eq2 hS
  go_step3
  obtain ⟨d,hd⟩:∃d,d=D:=⟨_,rfl⟩
  obtain ⟨r,hr⟩:∃r,r=E:=⟨_,rfl⟩
  subst hd;subst hr;have HG:=HG00;have hdb:d*s<=268435457*268435455:=Nat.mul_le_mul (by omega) (by omega)
  have bd1:(d:Int)*(s:Int)<=72057594306363392:=by
   have:=Int.ofNat_le.2 hdb;rw [Int.natCast_mul] at this;omega
  have bd0:0<=(d:Int)*(s:Int):=Int.mul_nonneg (Int.natCast_nonneg _) (Int.natCast_nonneg _);have ED:Hid ((d:Int)*(s:Int)=((d*s:Nat):Int)):=(Int.natCast_mul _ _).symm;clear hdb
  by_cases hbig:268435456<=d
  ·obtain ⟨HN,hd1⟩:=HD.out d r HG.out hbig;obtain ⟨d',hd'⟩:∃d',d - 1=d':=⟨_,rfl⟩
   obtain ⟨r',hr'⟩:∃r',r+f=r':=⟨_,rfl⟩
   have ed:(d:Int) - 1=(d':Int):=by omega
   have er:(r:Int)+(f:Int)=(r':Int):=by omega
   rw [hd'] at HN hd1;rw [hr'] at HN;have HN':Hid (G d' r'):=HN;have hm':r<r':=by omega
   have hl':d'<=268435457:=by omega
   have HD1:Hid (d'<=LB):=hd1;have dg:decide ((268435456:Int)<=(d:Int))=true:=decide_eq_true (by omega);clear HN hd1 hd' hr'
   by_cases hr2:r'<268435456
   ·have dr:decide ((r':Int)<268435456)=true:=decide_eq_true (by omega);go_wp2_with fail
    go_step3;exact ⟨rfl,d',r',_,_,_,_,_,_,_,_,_,_,_,_,_,_,_,_,_,_,_,_,_,_,_,_,_,_,_,_,_,_,_,_,_,_,_,_,_,_,_,_,_,_,_,_,_,_,_,_,_,_,_,_,_,_,_,_,_,⟨HO1,hcell⟩,⟨HN',hl',hr2⟩,rfl⟩
   ·have dr:decide ((r':Int)<268435456)=false:=decide_eq_false (by omega);have HQ:Hid (q≤d'∧d'≤q+1∧d'≤268435457):=⟨(HGE.out _ _ HN'.out).1,HEB.out _ _ HN'.out HD1.out (by show 268435456≤r';omega),hl'⟩;go_wp2_with fail
    (try rw [Exit.noGoto_ret]);(try simp only [Exit.jump]);go_ret;exact ⟨_,rfl,HQ.out.1,HQ.out.2.1,HQ.out.2.2,HO1.out⟩
  ·have dg:decide ((268435456:Int)≤(d:Int))=false:=decide_eq_false (by omega)
   by_cases ht:r*268435456+x2<d*s
   ·obtain ⟨HN,hd1⟩:=HC.out d r HG.out ht
    have d0:0<d:=by
     rcases Nat.eq_zero_or_pos d with e | e
     ·subst e;simp at ht
     ·exact e
    have dt:decide ((r:Int)*268435456+(x2:Int)<(d:Int)*(s:Int))=true:=decide_eq_true (by rw [ED.out];omega);obtain ⟨d',hd'⟩:∃d',d - 1=d':=⟨_,rfl⟩
    obtain ⟨r',hr'⟩:∃r',r+f=r':=⟨_,rfl⟩
    have ed:(d:Int) - 1=(d':Int):=by omega
    have er:(r:Int)+(f:Int)=(r':Int):=by omega
    rw [hd'] at HN hd1;rw [hr'] at HN;have HN':Hid (G d' r'):=HN;have hm':r<r':=by omega
    have hl':d'<=268435457:=by omega
    have HD1:Hid (d'<=LB):=hd1;clear HN hd1 hd' hr' ht
    by_cases hr2:r'<268435456
    ·have dr:decide ((r':Int)<268435456)=true:=decide_eq_true (by omega);go_wp2_with fail
     go_step3;exact ⟨rfl,d',r',_,_,_,_,_,_,_,_,_,_,_,_,_,_,_,_,_,_,_,_,_,_,_,_,_,_,_,_,_,_,_,_,_,_,_,_,_,_,_,_,_,_,_,_,_,_,_,_,_,_,_,_,_,_,_,_,_,⟨HO1,hcell⟩,⟨HN',hl',hr2⟩,rfl⟩
    ·have dr:decide ((r':Int)<268435456)=false:=decide_eq_false (by omega);have HQ:Hid (q≤d'∧d'≤q+1∧d'≤268435457):=⟨(HGE.out _ _ HN'.out).1,HEB.out _ _ HN'.out HD1.out (by show 268435456≤r';omega),hl'⟩;go_wp2_with fail
     (try rw [Exit.noGoto_ret]);(try simp only [Exit.jump]);go_ret;exact ⟨_,rfl,HQ.out.1,HQ.out.2.1,HQ.out.2.2,HO1.out⟩
   ·have dt:decide ((r:Int)*268435456+(x2:Int)<(d:Int)*(s:Int))=false:=decide_eq_false (by rw [ED.out];omega);have HQ:Hid (q≤d∧d≤q+1∧d≤268435457):=⟨(HGE.out _ _ HG.out).1,HEA.out _ _ HG.out (by show d<268435456;omega) (by show d*s≤r*268435456+x2;omega),by omega⟩;clear ht;go_wp2_with fail
    (try rw [Exit.noGoto_ret]);(try simp only [Exit.jump]);go_ret;exact ⟨_,rfl,HQ.out.1,HQ.out.2.1,HQ.out.2.2,HO1.out⟩
 ·rintro a' w1 ⟨d,r,hJ⟩;obtain ⟨u13,hJ⟩:=hJ;obtain ⟨u14,hJ⟩:=hJ;obtain ⟨u15,hJ⟩:=hJ;obtain ⟨u16,hJ⟩:=hJ;obtain ⟨u17,hJ⟩:=hJ;obtain ⟨u18,hJ⟩:=hJ;obtain ⟨u19,hJ⟩:=hJ;obtain ⟨u20,hJ⟩:=hJ;obtain ⟨u21,hJ⟩:=hJ;obtain ⟨u22,hJ⟩:=hJ;obtain ⟨u23,hJ⟩:=hJ;obtain ⟨u24,hJ⟩:=hJ;obtain ⟨u25,hJ⟩:=hJ;obtain ⟨u26,hJ⟩:=hJ;obtain ⟨u27,hJ⟩:=hJ;obtain ⟨u28,hJ⟩:=hJ;obtain ⟨u29,hJ⟩:=hJ;obtain ⟨u30,hJ⟩:=hJ;obtain ⟨u31,hJ⟩:=hJ;obtain ⟨u32,hJ⟩:=hJ;obtain ⟨u33,hJ⟩:=hJ;obtain ⟨u34,hJ⟩:=hJ;obtain ⟨u35,hJ⟩:=hJ;obtain ⟨u36,hJ⟩:=hJ;obtain ⟨u37,hJ⟩:=hJ;obtain ⟨u38,hJ⟩:=hJ;obtain ⟨u39,hJ⟩:=hJ;obtain ⟨u40,hJ⟩:=hJ;obtain ⟨u41,hJ⟩:=hJ;obtain ⟨u42,hJ⟩:=hJ;obtain ⟨u43,hJ⟩:=hJ;obtain ⟨u44,hJ⟩:=hJ;obtain ⟨u45,hJ⟩:=hJ;obtain ⟨u46,hJ⟩:=hJ;obtain ⟨u47,hJ⟩:=hJ;obtain ⟨u48,hJ⟩:=hJ;obtain ⟨u49,hJ⟩:=hJ;obtain ⟨u50,hJ⟩:=hJ;obtain ⟨u51,hJ⟩:=hJ;obtain ⟨u52,hJ⟩:=hJ;obtain ⟨u53,hJ⟩:=hJ;obtain ⟨u54,hJ⟩:=hJ;obtain ⟨u55,hJ⟩:=hJ;obtain ⟨u56,hJ⟩:=hJ;obtain ⟨u57,hJ⟩:=hJ;obtain ⟨u58,hJ⟩:=hJ;obtain ⟨u59,hJ⟩:=hJ;obtain ⟨u60,hJ⟩:=hJ;obtain ⟨u61,hJ⟩:=hJ;obtain ⟨u62,hJ⟩:=hJ;obtain ⟨u63,hJ⟩:=hJ;obtain ⟨u64,hJ⟩:=hJ;obtain ⟨u65,hJ⟩:=hJ;obtain ⟨u66,hJ⟩:=hJ;obtain ⟨u67,hJ⟩:=hJ;obtain ⟨u68,hJ⟩:=hJ;obtain ⟨u69,hJ⟩:=hJ;obtain ⟨⟨HO1,hcell⟩,⟨HG,hD0,hE0⟩,ha⟩:=hJ;subst ha;clear eq1 eq2 hS;have hdb:d*s≤268435457*268435455:=Nat.mul_le_mul (by omega) (by omega)
  have bd1:(d:Int)*(s:Int)<=72057594306363392:=by
   have:=Int.ofNat_le.2 hdb;rw [Int.natCast_mul] at this;omega
  have bd0:0<=(d:Int)*(s:Int):=Int.mul_nonneg (Int.natCast_nonneg _) (Int.natCast_nonneg _);have ED:Hid ((d:Int)*(s:Int)=((d*s:Nat):Int)):=(Int.natCast_mul _ _).symm;clear hdb
  by_cases hbig:268435456<=d
  ·obtain ⟨HN,hd1⟩:=HD.out d r HG.out hbig;obtain ⟨d',hd'⟩:∃d',d - 1=d':=⟨_,rfl⟩
   obtain ⟨r',hr'⟩:∃r',r+f=r':=⟨_,rfl⟩
   have ed:(d:Int) - 1=(d':Int):=by omega
   have er:(r:Int)+(f:Int)=(r':Int):=by omega
   rw [hd'] at HN hd1;rw [hr'] at HN;have HN':Hid (G d' r'):=HN;have hm':r<r':=by omega
   have hl':d'<=268435457:=by omega
   have HD1:Hid (d'<=LB):=hd1;have dg:decide ((268435456:Int)<=(d:Int))=true:=decide_eq_true (by omega);clear HN hd1 hd' hr'
   by_cases hr2:r'<268435456
   ·have dr:decide ((r':Int)<268435456)=true:=decide_eq_true (by omega);go_wp2_with fail
    go_step3;exact ⟨rfl,⟨d',r',_,_,_,_,_,_,_,_,_,_,_,_,_,_,_,_,_,_,_,_,_,_,_,_,_,_,_,_,_,_,_,_,_,_,_,_,_,_,_,_,_,_,_,_,_,_,_,_,_,_,_,_,_,_,_,_,_,⟨HO1,hcell⟩,⟨HN',hl',hr2⟩,rfl⟩,by simp [intOf];omega⟩
   ·have dr:decide ((r':Int)<268435456)=false:=decide_eq_false (by omega);have HQ:Hid (q≤d'∧d'≤q+1∧d'≤268435457):=⟨(HGE.out _ _ HN'.out).1,HEB.out _ _ HN'.out HD1.out (by show 268435456≤r';omega),hl'⟩;go_wp2_with fail
    (try rw [Exit.noGoto_ret]);(try simp only [Exit.jump]);go_ret;exact ⟨_,rfl,HQ.out.1,HQ.out.2.1,HQ.out.2.2,HO1.out⟩
  ·have dg:decide ((268435456:Int)≤(d:Int))=false:=decide_eq_false (by omega)
   by_cases ht:r*268435456+x2<d*s
   ·obtain ⟨HN,hd1⟩:=HC.out d r HG.out ht
    have d0:0<d:=by
     rcases Nat.eq_zero_or_pos d with e | e
     ·subst e;simp at ht
     ·exact e
    have dt:decide ((r:Int)*268435456+(x2:Int)<(d:Int)*(s:Int))=true:=decide_eq_true (by rw [ED.out];omega);obtain ⟨d',hd'⟩:∃d',d - 1=d':=⟨_,rfl⟩
    obtain ⟨r',hr'⟩:∃r',r+f=r':=⟨_,rfl⟩
    have ed:(d:Int) - 1=(d':Int):=by omega
    have er:(r:Int)+(f:Int)=(r':Int):=by omega
    rw [hd'] at HN hd1;rw [hr'] at HN;have HN':Hid (G d' r'):=HN;have hm':r<r':=by omega
    have hl':d'<=268435457:=by omega
    have HD1:Hid (d'<=LB):=hd1;clear HN hd1 hd' hr' ht
    by_cases hr2:r'<268435456
    ·have dr:decide ((r':Int)<268435456)=true:=decide_eq_true (by omega);go_wp2_with fail
     go_step3;exact ⟨rfl,⟨d',r',_,_,_,_,_,_,_,_,_,_,_,_,_,_,_,_,_,_,_,_,_,_,_,_,_,_,_,_,_,_,_,_,_,_,_,_,_,_,_,_,_,_,_,_,_,_,_,_,_,_,_,_,_,_,_,_,_,⟨HO1,hcell⟩,⟨HN',hl',hr2⟩,rfl⟩,by simp [intOf];omega⟩
    ·have dr:decide ((r':Int)<268435456)=false:=decide_eq_false (by omega);have HQ:Hid (q≤d'∧d'≤q+1∧d'≤268435457):=⟨(HGE.out _ _ HN'.out).1,HEB.out _ _ HN'.out HD1.out (by show 268435456≤r';omega),hl'⟩;go_wp2_with fail
     (try rw [Exit.noGoto_ret]);(try simp only [Exit.jump]);go_ret;exact ⟨_,rfl,HQ.out.1,HQ.out.2.1,HQ.out.2.2,HO1.out⟩
   ·have dt:decide ((r:Int)*268435456+(x2:Int)<(d:Int)*(s:Int))=false:=decide_eq_false (by rw [ED.out];omega);have HQ:Hid (q≤d∧d≤q+1∧d≤268435457):=⟨(HGE.out _ _ HG.out).1,HEA.out _ _ HG.out (by show d<268435456;omega) (by show d*s≤r*268435456+x2;omega),by omega⟩;clear ht;go_wp2_with fail
    (try rw [Exit.noGoto_ret]);(try simp only [Exit.jump]);go_ret;exact ⟨_,rfl,HQ.out.1,HQ.out.2.1,HQ.out.2.2,HO1.out⟩
end Go.Proofs.YtejhpljichmmpaaGreatDoor
