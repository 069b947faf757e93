/- Proved: what its theorems say. -/
import Derived.Test.YtejhpljichmmpaaGreatDoorNi33
set_option linter.unusedVariables false
set_option linter.unusedSimpArgs false
set_option maxHeartbeats 8000000
set_option maxRecDepth 100000
namespace Go.Proofs.YtejhpljichmmpaaGreatDoor
open Go.ChangeShapes Go.WideShapes Go.ChangeAt Go.RowKit
open M2
theorem Qyc {b m:Nat} (h:cnt b=m+2):(pad b).getD (m+1) 0=b/LB^(m+1)/\b/LB^(m+1)<268435456/\b/LB^(m+1)≠0:=by
 have hl:=cnt_lt b;rw [h] at hl;have h0:b≠0:=fun e=>by rw [e,Qdm] at h;omega
 have hg:=Qu9 h0;rw [h,show m+2 - 1=m+1 by omega] at hg;have h1:b/LB^(m+1)<268435456:=Nat.div_lt_of_lt_mul (show b<LB^(m+1)*LB by rw [<- Nat.pow_succ];exact hl);refine ⟨?_,h1,?_⟩
 ·rw [Qf2];exact Nat.mod_eq_of_lt h1
 ·have:=(Nat.le_div_iff_mul_le (pw (m+1))).2 (show 1*LB^(m+1)<=b by rw [Nat.one_mul];exact hg);omega
theorem wrap_small (s:Nat) (h:s<=134217728):wrap64 (s:Int)=(s:Int):=by unfold wrap64;omega
theorem Quk (a b m p0:Nat) (w:World) (ha:cnt a<=40) (hb2:cnt b=m+2) (ha2:cnt a=p0+m+2) (hge:b<=a) :
 Calls Tryz.prog 180 #[.agg (szV a),.agg (szV b)] w fun e w'=>e=.returned (.tuple #[.agg (szV (a/b)),.agg (szV (a%b))])/\Old w w':=by
 have hb:cnt b<=40:=by omega
 have HPA:Hid ((pad a).length=80):=Qad ha (by omega);have HPB:Hid ((pad b).length=80):=Qad hb (by omega);have HA0:Hid (Sz ((((w.alloc (.cells (szA (pad a) (cnt a)) 120)).alloc (.cells (szA (pad b) (cnt b)) 120)).alloc (.cells Tryz.zeroCells120 120)).alloc (.cells Tryz.zeroCells120 120)) w.heap.size (pad a) (cnt a)):=(((Sz.new w _ _ HPA.out).alloc _).alloc _).alloc _;have HB0:Hid (Sz ((((w.alloc (.cells (szA (pad a) (cnt a)) 120)).alloc (.cells (szA (pad b) (cnt b)) 120)).alloc (.cells Tryz.zeroCells120 120)).alloc (.cells Tryz.zeroCells120 120)) (w.heap.size+1) (pad b) (cnt b)):=((Sz.new' _ _ _ _ HPB.out (by simp)).alloc _).alloc _;have HX0:Hid (Sz ((((w.alloc (.cells (szA (pad a) (cnt a)) 120)).alloc (.cells (szA (pad b) (cnt b)) 120)).alloc (.cells Tryz.zeroCells120 120)).alloc (.cells Tryz.zeroCells120 120)) (w.heap.size+1+1) (ext []) 0):=(Sz.zero _ _ (by simp)).alloc _;have HY0:Hid (Sz ((((w.alloc (.cells (szA (pad a) (cnt a)) 120)).alloc (.cells (szA (pad b) (cnt b)) 120)).alloc (.cells Tryz.zeroCells120 120)).alloc (.cells Tryz.zeroCells120 120)) (w.heap.size+1+1+1) (ext []) 0):=Sz.zero _ _ (by simp);have HO0:Hid (Old w ((((w.alloc (.cells (szA (pad a) (cnt a)) 120)).alloc (.cells (szA (pad b) (cnt b)) 120)).alloc (.cells Tryz.zeroCells120 120)).alloc (.cells Tryz.zeroCells120 120))):=((((Old.refl w).alloc _).alloc _).alloc _).alloc _;have cc:=fun W=>Qi0 a b W (by omega) (by omega)
 have hz:¬Qby a b<0:=by unfold Qby;rw [if_neg (by omega)];split <;> omega
 obtain ⟨z,hze⟩:∃z,Qby a b=z:=⟨_,rfl⟩
 rw [hze] at cc hz;have dz:decide (z<0)=false:=decide_eq_false hz;obtain ⟨x1,x2,x3⟩:=Qyc hb2;obtain ⟨L1,V1,s1,s2⟩:=Qln (s:=stretch (b/LB^(m+1))) hb2 ha2 rfl;obtain ⟨D1,D2⟩:=Qm7 a b (stretch (b/LB^(m+1))) s1;obtain ⟨l1,l2⟩:=Qou (b/LB^(m+1)) x2;have cl0:=fun W=>Qij (b/LB^(m+1)) W x2
 have hst:stretch (b/LB^(m+1))=2^(28 - Lib.bitLen (b/LB^(m+1))):=rfl;have HX1:Hid ((pad b).getD (m+1) 0=b/LB^(m+1)):=x1;generalize b/LB^(m+1)=x at *;generalize Lib.bitLen x=l at *;obtain ⟨k,hk⟩:∃k,28 - l=k:=⟨_,rfl⟩
 have ek:(28:Int) - (l:Int)=(k:Int):=by omega
 rw [hk] at hst;have hkb:k<=28:=by omega
 have HST:Hid (stretch x=2^k):=hst;generalize stretch x=s at *;have i1:((m+2:Nat):Int) - 1=((m+1:Nat):Int):=by omega
 have i2:((m+1:Nat):Int)<80:=by omega
 have HM:Hid (cnt b=m+2):=hb2;have db1:((cnt b:Int)==1)=false:=beq_eq_false_iff_ne.2 (by omega);have eb:(cnt b:Int) - 1=((m+1:Nat):Int):=by omega
 have hm40:m+2<=40/\p0+m+2<=40:=by omega
 have HAE:Hid (cnt a=p0+m+2):=ha2;have HL1:Hid (Long (a*s) (b*s) p0 m):=L1;have HV1:Hid (cnt (b*s)=m+2):=V1;have HD1:Hid (a*s/(b*s)=a/b):=D1;have HD2:Hid (a*s%(b*s)/s=a%b):=D2;clear ha2 hb2 L1 V1 D1 D2;clear hst hk l2
 have HP0:Hid (IntKind.i64.wrap ((cnt a:Int) - (cnt b:Int))=(p0:Int)):=by
  show _ = _
  have h1:=HAE.out;have h2:=HM.out;rw [IntKind.wrap_i64];omega
 have ca:=fun W=>Qdj a s 0 W (Nat.le_trans ha (by decide)) (Nat.le_trans s2 (by decide)) (by decide)
 rw [Nat.add_zero] at ca;have cb:=fun W=>Qdj b s 0 W (Nat.le_trans hb (by decide)) (Nat.le_trans s2 (by decide)) (by decide)
 rw [Nat.add_zero] at cb;have cl:=fun W=>Qyb (a*s) (b*s) p0 m (cnt (a*s)) W HL1.out HV1.out (Nat.le_trans hm40.2 (by decide))
 have hvp:0<b*s:=HL1.out.pos;have HCR:Hid (cnt (a*s%(b*s))<=40):=Nat.le_trans (cnt_mono (Nat.le_of_lt (Nat.mod_lt _ hvp))) (by rw [HV1.out];exact hm40.1);have cw:=fun W=>Qrv (a*s%(b*s)) s W (Nat.le_trans HCR.out (by decide)) s1 (Nat.le_trans s2 (by decide))
 rw [HD2.out] at cw;rw [HD1.out] at cl;have HLQ:Hid ((pad (a/b)).length=80):=Qad (Nat.le_trans (cnt_mono (Nat.div_le_self _ _)) ha) (by omega);have HLR:Hid ((pad (a*s%(b*s))).length=80):=Qad HCR.out (by omega);have HLM:Hid ((pad (a%b)).length=80):=Qad (Nat.le_trans (cnt_mono (Nat.mod_le _ _)) ha) (by omega);have e2:(2:Int)^k=(s:Int):=by rw [HST.out];simp
 have ew:wrap64 ((2:Int)^k)=(s:Int):=by rw [e2];exact wrap_small s s2
 clear e2;unfold szV at *;generalize a*s%(b*s)=lr at *;generalize a*s=A at *;generalize b*s=V at *;generalize a%b=r at *;generalize a/b=q at *;generalize lr%s=r2 at *;clear hz hze hge x1;go_enter Tryz.func180,Tryz.ntmps180;go_wp2_with (first | ((with_reducible refine Qax HA0.out ?_ ?_);exact rfl;simp only [Act.put,List.setIfInBounds_toArray,List.set_cons_succ,List.set_cons_zero]) | ((with_reducible refine Qax HB0.out ?_ ?_);exact rfl;simp only [Act.put,List.setIfInBounds_toArray,List.set_cons_succ,List.set_cons_zero]));refine (cc _).mono ?_
 rintro e w2 ⟨rfl,g2⟩;have HA2:Hid (Sz w2 w.heap.size (pad a) (cnt a)):=HA0.out.old g2;have HB2:Hid (Sz w2 (w.heap.size+1) (pad b) (cnt b)):=HB0.out.old g2;have HX2:Hid (Sz w2 (w.heap.size+1+1) (ext []) 0):=HX0.out.old g2;have HY2:Hid (Sz w2 (w.heap.size+1+1+1) (ext []) 0):=HY0.out.old g2;have HO2:Hid (Old w w2):=Old.trans HO0.out g2;have hs2:w.heap.size+1+1+1<w2.heap.size:=HY2.out.lt;clear g2 HA0 HB0 HX0 HY0 HO0 cc;have c1:=HB2.out.cnt;have c2:w2.cell? ⟨w.heap.size+1,m+1,none⟩=some (.int .i64 (x:Int)):=by rw [HB2.out.at (j:=m+1) (by omega),HX1.out]
 go_wp2_with (go_at_call 200;refine (cl0 _).mono ?_;rintro e w3 ⟨rfl,hw3⟩;obtain rfl:w2=w3:=hw3.symm);clear c1 c2;rw [ew];refine Qz0 (pad a) (pad b) (pad A) (pad V) (pad q) (pad lr) (cnt a) (cnt b) (cnt A) (cnt V) (cnt q) (cnt lr) s p0 w w2 (by omega) HA2 HB2 HLQ HLR HP0.out ca cb cl _ _ _ _ _ _ _ _ _ _ _ _ _ _ _ _ _ _ _ _ _ _ _ _ _ _ _ _ _ _ _ _ _ _ _ _ _ _ _ _ _ _ _ _ _ _ _ _ _ _ _ _ _ _ _ _ _ _ _ _ _ _ _ _ _ ?_
 intro p9 p10 W u45 u46 u47 u48 u49 u50 u51 u52 u53 u54 u55 u56 u57 u58 u59 MD;have HX3:Hid (Sz W (w.heap.size+1+1) (ext []) 0):=HX2.out.old MD.old;have HY3:Hid (Sz W (w.heap.size+1+1+1) (ext []) 0):=HY2.out.old MD.old;have HO3:Hid (Old w W):=Old.trans HO2.out MD.old;have H9:Hid (Sz W p9 (pad q) (cnt q)):=MD.z9;have H10:Hid (Sz W p10 (pad lr) (cnt lr)):=MD.z10;have hp9:w2.heap.size<=p9:=MD.lo9;have hW:=H9.out.lt;have hs3:=MD.old.size;clear MD ca cb cl;go_wp2_with (first | ((with_reducible refine Qax H10.out ?_ ?_);exact rfl;simp only [Act.put,List.setIfInBounds_toArray,List.set_cons_succ,List.set_cons_zero]) | (go_at_call 129;refine (cw _).mono ?_;rintro e w4 ⟨rfl,g4⟩;have HX4:Hid (Sz (w4.alloc (.cells Tryz.zeroCells120 120)) (w.heap.size+1+1) (ext []) 0):=(HX3.out.old g4).alloc _;have HY4:Hid (Sz (w4.alloc (.cells Tryz.zeroCells120 120)) (w.heap.size+1+1+1) (ext []) 0):=(HY3.out.old g4).alloc _;have H94:Hid (Sz (w4.alloc (.cells Tryz.zeroCells120 120)) p9 (pad q) (cnt q)):=(H9.out.old g4).alloc _;have HO4:Hid (Old w (w4.alloc (.cells Tryz.zeroCells120 120))):=(Old.trans HO3.out g4).alloc _;have HZ4:Hid (Sz (w4.alloc (.cells Tryz.zeroCells120 120)) w4.heap.size (ext []) 0):=Sz.zero w4 _ rfl;have hs4:W.heap.size<=w4.heap.size:=g4.size;clear g4) | ((with_reducible refine Qa0 HZ4.out (pad r) (cnt r) HLM.out ?_ ?_ ?_);exact rfl;exact rfl;simp only [Act.put]));refine Qzz (pad q) (pad r) (cnt q) (cnt r) p9 w4.heap.size w _ (by omega) (by omega) (H94.out.otherRow (by omega) _) (HZ4.out.row (pad r) (cnt r) HLM.out) (HX4.out.otherRow (by omega) _) (HY4.out.otherRow (by omega) _) (HO4.out.row (by omega) _) _ _ _ _ _ _ _ _ _ _ _ _ _ _ _ _ _ _ _ _ _ _ _ _ _ _ _ _ _ _ _ _ _ _ _ _ _ _ _ _ _ _ _ _ _ _ _ _ _ _ _ _ _ _ _ _ _ _ _ _ _ _ _ _ ?_
 intro W5 u66 u67 hz1 hz2 ho;go_wp2_with fail;exact bodyPost_ret (Qer Tryz.results180 _ _ rfl rfl hz1 hz2) rfl ⟨rfl,ho⟩
end Go.Proofs.YtejhpljichmmpaaGreatDoor
namespace Go.Proofs.YtejhpljichmmpaaGreatDoor
open M2
theorem Qso (a b:Nat) (w:World) (ha:cnt a<=40) (hb:cnt b<=40) (hpos:0<b) :
 Calls Tryz.prog 180 #[.agg (szV a),.agg (szV b)] w fun e w'=>e=.returned (.tuple #[.agg (szV (a/b)),.agg (szV (a%b))])/\Old w w':=by
 by_cases h:a<b
 ·exact div_lt a b w ha hb h
 ·have h1:=Qgx (show b≠0 by omega)
  by_cases h2:cnt b=1
  ·exact div_one a b w ha h2 (by omega)
  ·have h3:cnt b<=cnt a:=cnt_mono (by omega);exact Quk a b (cnt b - 2) (cnt a - cnt b) w ha (by omega) (by omega) (by omega)
end Go.Proofs.YtejhpljichmmpaaGreatDoor
