/- Proved: what its theorems say. -/
import Derived.Test.YtdaepfjocofkjaaGreatDoorEn36
set_option linter.unusedVariables false
set_option linter.unusedSimpArgs false
set_option maxHeartbeats 8000000
set_option maxRecDepth 100000
namespace Go.Proofs.YtdaepfjocofkjaaGreatDoor
open Go.ChangeShapes Go.WideShapes Go.ChangeAt Go.RowKit
open M2
theorem Q06 {b m:Nat} (h:cnt b=m+2):(pad b).getD (m+1) 0=b/LB^(m+1)/\b/LB^(m+1)<268435456/\b/LB^(m+1)≠0:=by
 have hl:=cnt_lt b;rw [h] at hl;have h0:b≠0:=fun e=>by rw [e,Qds] at h;omega
 have hg:=Qxg h0;rw [h,show m+2 - 1=m+1 by omega] at hg;have h1:b/LB^(m+1)<268435456:=Nat.div_lt_of_lt_mul (show b<LB^(m+1)*LB by rw [<- Nat.pow_succ];exact hl);refine ⟨?_,h1,?_⟩
 ·rw [Qgt];exact Nat.mod_eq_of_lt h1
 ·have:=(Nat.le_div_iff_mul_le (pw (m+1))).2 (show 1*LB^(m+1)<=b by rw [Nat.one_mul];exact hg);omega
theorem wrap_small (s:Nat) (h:s<=134217728):wrap64 (s:Int)=(s:Int):=by unfold wrap64;omega
theorem Qw7 (a b m p0:Nat) (w:World) (ha:cnt a<=40) (hb2:cnt b=m+2) (ha2:cnt a=p0+m+2) (hge:b<=a) :
 Calls Tryz.prog 111 #[.agg (szV a),.agg (szV b)] w fun e w'=>e=.returned (.tuple #[.agg (szV (a/b)),.agg (szV (a%b))])/\Old w w':=by
 have hb:cnt b<=40:=by omega
 have HPA:=Qaa (Qag ha (by omega));have HPB:=Qaa (Qag hb (by omega));have HA0:Hid (Sz ((((w.alloc (.cells (szA (pad a) (cnt a)) 117)).alloc (.cells (szA (pad b) (cnt b)) 117)).alloc (.cells Tryz.zeroCells117 117)).alloc (.cells Tryz.zeroCells117 117)) w.heap.size (pad a) (cnt a)):=(((Sz.new w _ _ HPA.out).alloc _).alloc _).alloc _;have HB0:Hid (Sz ((((w.alloc (.cells (szA (pad a) (cnt a)) 117)).alloc (.cells (szA (pad b) (cnt b)) 117)).alloc (.cells Tryz.zeroCells117 117)).alloc (.cells Tryz.zeroCells117 117)) (w.heap.size+1) (pad b) (cnt b)):=((Sz.new' _ _ _ _ HPB.out (by simp)).alloc _).alloc _;have HX0:Hid (Sz ((((w.alloc (.cells (szA (pad a) (cnt a)) 117)).alloc (.cells (szA (pad b) (cnt b)) 117)).alloc (.cells Tryz.zeroCells117 117)).alloc (.cells Tryz.zeroCells117 117)) (w.heap.size+1+1) (ext []) 0):=(Sz.zero _ _ (by simp)).alloc _;have HY0:Hid (Sz ((((w.alloc (.cells (szA (pad a) (cnt a)) 117)).alloc (.cells (szA (pad b) (cnt b)) 117)).alloc (.cells Tryz.zeroCells117 117)).alloc (.cells Tryz.zeroCells117 117)) (w.heap.size+1+1+1) (ext []) 0):=Sz.zero _ _ (by simp);have HO0:Hid (Old w ((((w.alloc (.cells (szA (pad a) (cnt a)) 117)).alloc (.cells (szA (pad b) (cnt b)) 117)).alloc (.cells Tryz.zeroCells117 117)).alloc (.cells Tryz.zeroCells117 117))):=((((Old.refl w).alloc _).alloc _).alloc _).alloc _;have cc:=fun W=>Qs7 a b W (by omega) (by omega)
 have hz:¬Qdr a b<0:=by unfold Qdr;rw [if_neg (by omega)];split <;> omega
 obtain ⟨z,hze⟩:∃z,Qdr a b=z:=⟨_,rfl⟩
 rw [hze] at cc hz;have dz:=decide_eq_false hz;obtain ⟨x1,x2,x3⟩:=Q06 hb2;obtain ⟨L1,V1,s1,s2⟩:=Qm0 (s:=stretch (b/LB^(m+1))) hb2 ha2 rfl;obtain ⟨D1,D2⟩:=Qov a b (stretch (b/LB^(m+1))) s1;obtain ⟨l1,l2⟩:=Qqe (b/LB^(m+1)) x2;have cl0:=fun W=>Qjn (b/LB^(m+1)) W x2
 have hst:stretch (b/LB^(m+1))=2^(28 - Lib.bitLen (b/LB^(m+1))):=rfl;have HX1:=Qaa x1;generalize b/LB^(m+1)=x at *;generalize Lib.bitLen x=l at *;obtain ⟨k,hk⟩:∃k,28 - l=k:=⟨_,rfl⟩
 have ek:(28:Int) - (l:Int)=(k:Int):=by omega
 rw [hk] at hst;have HST:=Qaa hst;generalize stretch x=s at *;have i2:((m+1:Nat):Int)<80:=by omega
 have HM:=Qaa hb2;have db1:((cnt b:Int)==1)=false:=beq_eq_false_iff_ne.2 (by omega);have eb:(cnt b:Int) - 1=((m+1:Nat):Int):=by omega
 have hm40:m+2<=40/\p0+m+2<=40:=by omega
 have HAE:=Qaa ha2;have HL1:=Qaa L1;have HV1:=Qaa V1;have HD1:=Qaa D1;have HD2:=Qaa D2;clear ha2 hb2 L1 V1 D1 D2;clear hst hk l2
 have HP0:Hid (IntKind.i64.wrap ((cnt a:Int) - (cnt b:Int))=(p0:Int)):=by
  show _ = _
  have h1:=HAE.out;rw [IntKind.wrap_i64];omega
 have ca:=fun W=>Qia a s 0 W (Nat.le_trans ha (by decide)) (Nat.le_trans s2 (by decide)) (by decide)
 rw [Nat.add_zero] at ca;have cb:=fun W=>Qia b s 0 W (Nat.le_trans hb (by decide)) (Nat.le_trans s2 (by decide)) (by decide)
 rw [Nat.add_zero] at cb;have cl:=fun W=>Q05 (a*s) (b*s) p0 m (cnt (a*s)) W HL1.out HV1.out (Nat.le_trans hm40.2 (by decide))
 have hvp:=HL1.out.pos;have HCR:Hid (cnt (a*s%(b*s))<=40):=Nat.le_trans (cnt_mono (Nat.le_of_lt (Nat.mod_lt _ hvp))) (by rw [HV1.out];exact hm40.1);have cw:=fun W=>Qkw (a*s%(b*s)) s W (Nat.le_trans HCR.out (by decide)) s1 (Nat.le_trans s2 (by decide))
 rw [HD2.out] at cw;rw [HD1.out] at cl;have HLQ:Hid ((pad (a/b)).length=80):=Qag (Nat.le_trans (cnt_mono (Nat.div_le_self _ _)) ha) (by omega);have HLR:=Qaa (Qag HCR.out (by omega));have HLM:Hid ((pad (a%b)).length=80):=Qag (Nat.le_trans (cnt_mono (Nat.mod_le _ _)) ha) (by omega);have e2:(2:Int)^k=(s:Int):=by rw [HST.out];simp
 have ew:wrap64 ((2:Int)^k)=(s:Int):=by rw [e2];exact wrap_small s s2
 clear e2;unfold szV at *;generalize a*s%(b*s)=lr at *;generalize a*s=A at *;generalize b*s=V at *;generalize a%b=r at *;generalize a/b=q at *;generalize lr%s=r2 at *;clear hz hze hge x1;go_enter Tryz.func111,Tryz.ntmps111;go_wp2_with (first | ((with_reducible refine Qay HA0.out ?_ ?_);exact rfl;simp only [Act.put,List.setIfInBounds_toArray,List.set_cons_succ,List.set_cons_zero]) | ((with_reducible refine Qay HB0.out ?_ ?_);exact rfl;simp only [Act.put,List.setIfInBounds_toArray,List.set_cons_succ,List.set_cons_zero]));refine (cc _).mono ?_
 rintro e w2 ⟨rfl,g2⟩;have HA2:=Qaa (HA0.out.old g2);have HB2:=Qaa (HB0.out.old g2);have HX2:=Qaa (HX0.out.old g2);have HY2:=Qaa (HY0.out.old g2);have HO2:=Qaa (Old.trans HO0.out g2);have hs2:=HY2.out.lt;clear g2 HA0 HB0 HX0 HY0 HO0 cc;have c1:=HB2.out.cnt;have c2:w2.cell? ⟨w.heap.size+1,m+1,none⟩=some (.int .i64 (x:Int)):=by rw [HB2.out.at (j:=m+1) (by omega),HX1.out]
 go_wp2_with (go_at_call 132;refine (cl0 _).mono ?_;rintro e w3 ⟨rfl,hw3⟩;obtain rfl:w2=w3:=hw3.symm);clear c1 c2;rw [ew];refine Q2r (pad a) (pad b) (pad A) (pad V) (pad q) (pad lr) (cnt a) (cnt b) (cnt A) (cnt V) (cnt q) (cnt lr) s p0 w w2 (by omega) HA2 HB2 HLQ HLR HP0.out ca cb cl _ _ _ _ _ _ _ _ _ _ _ _ _ _ _ _ _ _ _ _ _ _ _ _ _ _ _ _ _ _ _ _ _ _ _ _ _ _ _ _ _ _ _ _ _ _ _ _ _ _ _ _ _ _ _ _ _ _ _ _ _ _ _ _ _ ?_
 intro p9 p10 W u45 u46 u47 u48 u49 u50 u51 u52 u53 u54 u55 u56 u57 u58 u59 MD;have HX3:=Qaa (HX2.out.old MD.old);have HY3:=Qaa (HY2.out.old MD.old);have HO3:=Qaa (Old.trans HO2.out MD.old);have H9:=Qaa MD.z9;have H10:=Qaa MD.z10;have hp9:=MD.lo9;have hW:=H9.out.lt;clear MD ca cb cl;go_wp2_with (first | ((with_reducible refine Qay H10.out ?_ ?_);exact rfl;simp only [Act.put,List.setIfInBounds_toArray,List.set_cons_succ,List.set_cons_zero]) | (go_at_call 115;refine (cw _).mono ?_;rintro e w4 ⟨rfl,g4⟩;have HX4:Hid (Sz (w4.alloc (.cells Tryz.zeroCells117 117)) (w.heap.size+1+1) (ext []) 0):=(HX3.out.old g4).alloc _;have HY4:Hid (Sz (w4.alloc (.cells Tryz.zeroCells117 117)) (w.heap.size+1+1+1) (ext []) 0):=(HY3.out.old g4).alloc _;have H94:Hid (Sz (w4.alloc (.cells Tryz.zeroCells117 117)) p9 (pad q) (cnt q)):=(H9.out.old g4).alloc _;have HO4:Hid (Old w (w4.alloc (.cells Tryz.zeroCells117 117))):=(Old.trans HO3.out g4).alloc _;have HZ4:=Qaa (Sz.zero w4 _ rfl);have hs4:=g4.size;clear g4) | ((with_reducible refine Qa2 HZ4.out (pad r) (cnt r) HLM.out ?_ ?_ ?_);exact rfl;exact rfl;simp only [Act.put]));refine Q2u (pad q) (pad r) (cnt q) (cnt r) p9 w4.heap.size w _ (by omega) (by omega) (H94.out.otherRow (by omega) _) (HZ4.out.row (pad r) (cnt r) HLM.out) (HX4.out.otherRow (by omega) _) (HY4.out.otherRow (by omega) _) (HO4.out.row (by omega) _) _ _ _ _ _ _ _ _ _ _ _ _ _ _ _ _ _ _ _ _ _ _ _ _ _ _ _ _ _ _ _ _ _ _ _ _ _ _ _ _ _ _ _ _ _ _ _ _ _ _ _ _ _ _ _ _ _ _ _ _ _ _ _ _ ?_
 intro W5 u66 u67 hz1 hz2 ho;go_wp2_with fail;exact bodyPost_ret (Qe7 Tryz.results111 _ _ rfl rfl hz1 hz2) rfl ⟨rfl,ho⟩
end Go.Proofs.YtdaepfjocofkjaaGreatDoor
namespace Go.Proofs.YtdaepfjocofkjaaGreatDoor
open M2
theorem Qu3 (a b:Nat) (w:World) (ha:cnt a<=40) (hb:cnt b<=40) (hpos:0<b) :
 Calls Tryz.prog 111 #[.agg (szV a),.agg (szV b)] w fun e w'=>e=.returned (.tuple #[.agg (szV (a/b)),.agg (szV (a%b))])/\Old w w':=by
 by_cases h:a<b
 ·exact div_lt a b w ha hb h
 ·have h1:=Qhk (show b≠0 by omega)
  by_cases h2:cnt b=1
  ·exact div_one a b w ha h2 (by omega)
  ·have h3:cnt b<=cnt a:=cnt_mono (by omega);exact Qw7 a b (cnt b - 2) (cnt a - cnt b) w ha (by omega) (by omega) (by omega)
theorem Qep (neg:Bool) (k:Nat) (w:World) (hn:cnt k<=80) :
 Calls Tryz.prog 62 #[.bool neg,.agg (szV k)] w fun e w'=>∃v,e=.returned (.agg #[.bool (neg&&decide (k≠0)),v])/\Old w w'/\Own w' w.heap.size v (toI (dig k)):=by
 by_cases h0:k=0
 ·subst h0;refine (Qgi neg w).mono ?_
  rintro e w' ⟨rfl,g⟩;refine ⟨.slice none 0 0,by simp,g,?_⟩;rw [Qa5];exact Qw6 _ _
 ·refine (Qel neg k w h0 hn).mono ?_
  rintro e w' ⟨v,rfl,g,o⟩;exact ⟨v,by simp [h0],g,o⟩
theorem Qlq (n:Bool) (xs ys:List Int) (v u:Value) (w:World) (hv:Row w v xs) (hu:Row w u ys) (hga:Good n xs) (hgb:Good false ys) (h0:ys.length≠0) :
 Calls Tryz.prog 73 #[.agg #[.bool n,v],.agg #[.bool false,u]] w fun e w'=>∃v1 v2,e=.returned (.tuple #[.agg #[.bool (ng (sv n (nat xs)/(val (nat ys):Int))),v1],.agg #[.bool false,v2],.bool true])/\Old w w'/\Own w' w.heap.size v1 (toI (dg (sv n (nat xs)/(val (nat ys):Int))))/\Own w' w.heap.size v2 (toI (dg (sv n (nat xs)%(val (nat ys):Int))))/\∀b,v1.ownBlock=some b->v2.ownBlock=some b->False:=by
 obtain ⟨c0,cap0,rfl⟩:=hv.slice;obtain ⟨c1,cap1,rfl⟩:=hu.slice;obtain ⟨ex,gx,lx⟩:=Qos hga;obtain ⟨ey,gy,ly⟩:=Qos hgb;have ca:=Qhl gx.1;have cb:=Qhl gy.1
 have hb:0<val (nat ys):=by
  rcases Nat.eq_zero_or_pos (val (nat ys)) with h | h
  ·have:=Qey gy.1 h;exact absurd (by rw [<- Qd1,this];rfl) h0
  ·exact h
 have ha40:cnt (val (nat xs))<=40:=by omega
 have hb40:cnt (val (nat ys))<=40:=by omega
 have hq40:cnt (val (nat xs)/val (nat ys))<=40:=Nat.le_trans (cnt_mono (Nat.div_le_self _ _)) ha40;have hr40:cnt (val (nat xs)%val (nat ys))<=40:=Nat.le_trans (cnt_mono (Nat.mod_le _ _)) ha40;have cga:=fun W (h:Row W (.slice c0 xs.length cap0) xs)=>Qfl n xs _ W h (by rw [<- Qd1];omega)
 rw [decide_eq_true hga] at cga;have cgb:=fun W (h:Row W (.slice c1 ys.length cap1) ys)=>Qfl false ys _ W h (by rw [<- Qd1];omega)
 rw [decide_eq_true hgb] at cgb;have csa:=fun W (h:Row W (.slice c0 xs.length cap0) xs)=>Qfz n (nat xs) _ W (by rw [ex];exact h) gx.1 (by omega)
 have csb:=fun W (h:Row W (.slice c1 ys.length cap1) ys)=>Qfz false (nat ys) _ W (by rw [ey];exact h) gy.1 (by omega)
 have cl:=fun W=>Qu3 (val (nat xs)) (val (nat ys)) W ha40 hb40 hb
 generalize val (nat ys)=b at *;have hsv:sv n (nat xs)=if n then -((val (nat xs):Nat):Int) else ((val (nat xs):Nat):Int):=rfl
 generalize sv n (nat xs)=z at *;generalize val (nat xs)=a at *;have hdm:=Nat.div_add_mod a b;have hml:=Nat.mod_lt a hb
 by_cases hc:n=false∨a%b=0
 ·have hz:z/(b:Int)=(if n then -((a/b:Nat):Int) else ((a/b:Nat):Int))∧z%(b:Int)=((a%b:Nat):Int):=by
   cases n with
   | false=>simp at hsv;subst hsv;simp
   | true=>
     have hm:a%b=0:=by rcases hc with h | h;cases h;exact h
     simp at hsv;subst hsv;have hd:=Int.ofNat_dvd.2 (Nat.dvd_of_mod_eq_zero hm);refine ⟨?_,?_⟩
     ·simp [Int.neg_ediv_of_dvd hd]
     ·rw [hm];simp [Int.emod_eq_zero_of_dvd (Int.dvd_neg.2 hd)]
  have e1:ng (z/(b:Int))=(n&&decide (a/b≠0)):=by
   rw [hz.1];clear hz hdm;generalize a/b=q;unfold ng
   cases n with
   | false=>exact decide_eq_false (show ¬((q:Nat):Int)<0 by omega)
   | true=>
     rw [Bool.true_and];exact decide_eq_decide.2 (show (-((q:Nat):Int)<0↔q≠0) by omega)
  have e2:dg (z/(b:Int))=dig (a/b):=by
   rw [hz.1];generalize a/b=q;unfold dg;cases n <;> simp
  have e3:dg (z%(b:Int))=dig (a%b):=by rw [hz.2];rfl
  rw [e1,e2,e3];refine Qnn n _ xs ys _ _ c0 c1 cap0 cap1 _ _ _ _ _ _ _ _ w hv hu h0 (Qag hb40 (by omega)) (Qag hq40 (by omega)) (Qag hr40 (by omega)) cga cgb csa csb cl (fun W=>Qep n (a/b) W (by omega)) (fun W=>?_) ?_
  ·have:=Qep false (a%b) W (by omega);simp only [Bool.false_and] at this;exact this
  ·rcases hc with h | h
   ·exact Or.inl h
   ·right;rw [h];exact Qds
 ·have hn:n=true:=by cases n with | false=>exact absurd (Or.inl rfl) hc | true=>rfl
  have hm:a%b≠0:=fun h=>hc (Or.inr h)
  subst hn;simp at hsv
  have hz:z/(b:Int) = -((a/b+1:Nat):Int)/\z%(b:Int)=((b - a%b:Nat):Int):=by
   have hcast:((b - a%b:Nat):Int)=(b:Int) - ((a%b:Nat):Int):=by omega
   have hsum:(a:Int)=(b:Int)*((a/b:Nat):Int)+((a%b:Nat):Int):=by
    have:=congrArg (fun k:Nat=>(k:Int)) hdm
    simpa using this.symm
   have hkey:z=(b:Int)*(-((a/b+1:Nat):Int))+((b - a%b:Nat):Int):=by
    rw [hcast,hsv,hsum];rw [Int.natCast_add,Int.mul_neg,Int.mul_add];simp;omega
   have hb':(b:Int)≠0:=by omega
   have h1:(0:Int)<=((b - a%b:Nat):Int):=by omega
   have h2:((b - a%b:Nat):Int)<(b:Int):=by omega
   refine ⟨?_,?_⟩
   ·rw [hkey,Int.add_comm,Int.add_mul_ediv_left _ _ hb',Int.ediv_eq_zero_of_lt h1 h2,Int.zero_add]
   ·rw [hkey,Int.add_comm,Int.add_mul_emod_self_left,Int.emod_eq_of_lt h1 h2]
  have e1:ng (z/(b:Int))=(true&&decide (a/b+1≠0)):=by
   rw [hz.1];clear hz hdm;generalize a/b=q;unfold ng;simp
  have e2:dg (z/(b:Int))=dig (a/b+1):=by
   rw [hz.1];generalize a/b=q;unfold dg;rw [Int.natAbs_neg];rfl
  have e3:dg (z%(b:Int))=dig (b - a%b):=by rw [hz.2];rfl
  have hq41:=Nat.le_trans (Q0e (a/b) 1 hq40 (Nat.le_trans (Qdd (by omega)) (by omega))) (Nat.le_refl _);have hrr:cnt (b - a%b)<=40:=Nat.le_trans (cnt_mono (Nat.sub_le _ _)) hb40;rw [e1,e2,e3];refine Qpa _ xs ys _ _ c0 c1 cap0 cap1 _ _ _ _ _ _ _ _ _ _ _ _ _ _ w hv hu h0 (Qag hb40 (by omega)) (Qag hq40 (by omega)) (Qag hr40 (by omega)) (Qag hq41 (by omega)) (Qag hrr (by omega)) cga cgb csa csb cl (fun W=>Qdp 1 W (by omega)) (fun W=>Q15 (a/b) 1 W (by omega) (Nat.le_trans (Qdd (by omega)) (by omega))) (fun W=>Qzv b (a%b) W (by omega) (by omega)) (fun W=>Qep true (a/b+1) W (by omega)) (fun W=>?_) ?_
  ·have:=Qep false (b - a%b) W (by omega);simp only [Bool.false_and] at this;exact this
  ·have:=Qhk hm;omega
end Go.Proofs.YtdaepfjocofkjaaGreatDoor
