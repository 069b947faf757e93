/- Proved: what its theorems say. -/
import Derived.Test.YthcidnnkakppcaaGreatDoorDe20
import Derived.Test.YthcidnnkakppcaaGreatDoorImpRound
set_option linter.unusedVariables false
set_option linter.unusedSimpArgs false
set_option maxHeartbeats 8000000
set_option maxRecDepth 100000
namespace Go.Proofs.YthcidnnkakppcaaGreatDoor
open Go.ChangeShapes Go.WideShapes Go.ChangeAt Go.RowKit
open M2
theorem Q1j {b m:Nat} (h:cnt b=m+2):(pad b).getD (m+1) 0=b/LB^(m+1)/\b/LB^(m+1)<268435456/\b/LB^(m+1)≠0:=by
 have hl:=cnt_lt b;rw [h] at hl;have h0:b≠0:=fun e=>by rw [e,Qda] at h;omega
 have hg:=Qx5 h0;rw [h,show m+2 - 1=m+1 by omega] at hg;have h1:b/LB^(m+1)<268435456:=Nat.div_lt_of_lt_mul (show b<LB^(m+1)*LB by rw [<- Nat.pow_succ];exact hl);refine ⟨?_,h1,?_⟩
 ·rw [Qgo];exact Nat.mod_eq_of_lt h1
 ·have:=(Nat.le_div_iff_mul_le (pw (m+1))).2 (show 1*LB^(m+1)<=b by rw [Nat.one_mul];exact hg);omega
theorem wrap_small (s:Nat) (h:s<=134217728):wrap64 (s:Int)=(s:Int):=by unfold wrap64;omega
theorem Qxu (a b m p0:Nat) (w:World) (ha:cnt a≤40) (hb2:cnt b=m+2) (ha2:cnt a=p0+m+2) (hge:b≤a) :
  Calls Tryz.prog 123 #[.agg (szV a),.agg (szV b)] w fun e w'=>e=.returned (.tuple #[.agg (szV (a/b)),.agg (szV (a%b))])/\Old w w':=by
 have hb:cnt b<=40:=by omega
 have HPA:=Qaa (Qab ha (by omega));have HPB:=Qaa (Qab hb (by omega));have HA0:Hid (Sz ((((w.alloc (.cells (szA (pad a) (cnt a)) 103)).alloc (.cells (szA (pad b) (cnt b)) 103)).alloc (.cells Tryz.zeroCells103 103)).alloc (.cells Tryz.zeroCells103 103)) w.heap.size (pad a) (cnt a)):=(((Sz.new w _ _ HPA.out).alloc _).alloc _).alloc _;have HB0:Hid (Sz ((((w.alloc (.cells (szA (pad a) (cnt a)) 103)).alloc (.cells (szA (pad b) (cnt b)) 103)).alloc (.cells Tryz.zeroCells103 103)).alloc (.cells Tryz.zeroCells103 103)) (w.heap.size+1) (pad b) (cnt b)):=((Sz.new' _ _ _ _ HPB.out (by simp)).alloc _).alloc _;have HX0:Hid (Sz ((((w.alloc (.cells (szA (pad a) (cnt a)) 103)).alloc (.cells (szA (pad b) (cnt b)) 103)).alloc (.cells Tryz.zeroCells103 103)).alloc (.cells Tryz.zeroCells103 103)) (w.heap.size+1+1) (ext []) 0):=(Sz.zero _ _ (by simp)).alloc _;have HY0:Hid (Sz ((((w.alloc (.cells (szA (pad a) (cnt a)) 103)).alloc (.cells (szA (pad b) (cnt b)) 103)).alloc (.cells Tryz.zeroCells103 103)).alloc (.cells Tryz.zeroCells103 103)) (w.heap.size+1+1+1) (ext []) 0):=Sz.zero _ _ (by simp);have HO0:Hid (Old w ((((w.alloc (.cells (szA (pad a) (cnt a)) 103)).alloc (.cells (szA (pad b) (cnt b)) 103)).alloc (.cells Tryz.zeroCells103 103)).alloc (.cells Tryz.zeroCells103 103))):=((((Old.refl w).alloc _).alloc _).alloc _).alloc _;have cc:=fun W=>Qgs a b W (by omega) (by omega)
 have hz:¬Qb3 a b<0:=by unfold Qb3;rw [if_neg (by omega)];split <;> omega
 obtain ⟨z,hze⟩:∃z,Qb3 a b=z:=⟨_,rfl⟩
 rw [hze] at cc hz;have dz:=decide_eq_false hz;obtain ⟨x1,x2,x3⟩:=Q1j hb2;obtain ⟨L1,V1,s1,s2⟩:=Qmu (s:=stretch (b/LB^(m+1))) hb2 ha2 rfl;obtain ⟨D1,D2⟩:=Qop a b (stretch (b/LB^(m+1))) s1;obtain ⟨l1,l2⟩:=Qqg (b/LB^(m+1)) x2;have cl0:=fun W=>Qiz (b/LB^(m+1)) W x2
 have hst:stretch (b/LB^(m+1))=2^(28 - Lib.bitLen (b/LB^(m+1))):=rfl;have HX1:=Qaa x1;generalize b/LB^(m+1)=x at *;generalize Lib.bitLen x=l at *;obtain ⟨k,hk⟩:∃k,28 - l=k:=⟨_,rfl⟩
 have ek:(28:Int) - (l:Int)=(k:Int):=by omega
 rw [hk] at hst;have HST:=Qaa hst;generalize stretch x=s at *;have i2:((m+1:Nat):Int)<80:=by omega
 have db1:((cnt b:Int)==1)=false:=beq_eq_false_iff_ne.2 (by omega);have eb:(cnt b:Int) - 1=((m+1:Nat):Int):=by omega
 have hm40:m+2<=40/\p0+m+2<=40:=by omega
 have HAE:=Qaa ha2;have HL1:=Qaa L1;have HV1:=Qaa V1;have HD1:=Qaa D1;have HD2:=Qaa D2;clear ha2 hb2 L1 V1 D1 D2;clear hst hk l2
 have HP0:Hid (IntKind.i64.wrap ((cnt a:Int) - (cnt b:Int))=(p0:Int)):=by
  show _ = _
  have h1:=HAE.out;rw [IntKind.wrap_i64];omega
 have ca:=fun W=>Qc7 a s 0 W (Nat.le_trans ha (by decide)) (Nat.le_trans s2 (by decide)) (by decide)
 rw [Nat.add_zero] at ca;have cb:=fun W=>Qc7 b s 0 W (Nat.le_trans hb (by decide)) (Nat.le_trans s2 (by decide)) (by decide)
 rw [Nat.add_zero] at cb;have cl:=fun W=>Q1i (a*s) (b*s) p0 m (cnt (a*s)) W HL1.out HV1.out (Nat.le_trans hm40.2 (by decide))
 have hvp:=HL1.out.pos;have HCR:Hid (cnt (a*s%(b*s))<=40):=Nat.le_trans (cnt_mono (Nat.le_of_lt (Nat.mod_lt _ hvp))) (by rw [HV1.out];exact hm40.1);have cw:=fun W=>Qkf (a*s%(b*s)) s W (Nat.le_trans HCR.out (by decide)) s1 (Nat.le_trans s2 (by decide))
 rw [HD2.out] at cw;rw [HD1.out] at cl;have HLQ:Hid ((pad (a/b)).length=80):=Qab (Nat.le_trans (cnt_mono (Nat.div_le_self _ _)) ha) (by omega);have HLR:=Qaa (Qab HCR.out (by omega));have HLM:Hid ((pad (a%b)).length=80):=Qab (Nat.le_trans (cnt_mono (Nat.mod_le _ _)) ha) (by omega);have e2:(2:Int)^k=(s:Int):=by rw [HST.out];simp
 have ew:wrap64 ((2:Int)^k)=(s:Int):=by rw [e2];exact wrap_small s s2
 clear e2;unfold szV at *;generalize a*s%(b*s)=lr at *;generalize a*s=A at *;generalize b*s=V at *;generalize a%b=r at *;generalize a/b=q at *;generalize lr%s=r2 at *;clear hz hze hge x1;go_enter Tryz.func123,Tryz.ntmps123;go_wp2_with (first | ((with_reducible refine Qaq HA0.out ?_ ?_);exact rfl;simp only [Act.put,List.setIfInBounds_toArray,List.set_cons_succ,List.set_cons_zero]) | ((with_reducible refine Qaq HB0.out ?_ ?_);exact rfl;simp only [Act.put,List.setIfInBounds_toArray,List.set_cons_succ,List.set_cons_zero]));refine (cc _).mono ?_
 rintro e w2 ⟨rfl,g2⟩;have HA2:=Qaa (HA0.out.old g2);have HB2:=Qaa (HB0.out.old g2);have HX2:=Qaa (HX0.out.old g2);have HY2:=Qaa (HY0.out.old g2);have HO2:=Qaa (Old.trans HO0.out g2);have hs2:=HY2.out.lt;clear g2 HA0 HB0 HX0 HY0 HO0 cc;have c1:=HB2.out.cnt;have c2:w2.cell? ⟨w.heap.size+1,m+1,none⟩=some (.int .i64 (x:Int)):=by rw [HB2.out.at (j:=m+1) (by omega),HX1.out]
 go_wp2_with (go_at_call 136;refine (cl0 _).mono ?_;rintro e w3 ⟨rfl,hw3⟩;obtain rfl:w2=w3:=hw3.symm);clear c1 c2;rw [ew];refine Q3g (pad a) (pad b) (pad A) (pad V) (pad q) (pad lr) (cnt a) (cnt b) (cnt A) (cnt V) (cnt q) (cnt lr) s p0 w w2 (by omega) HA2 HB2 HLQ HLR HP0.out ca cb cl _ _ _ _ _ _ _ _ _ _ _ _ _ _ _ _ _ _ _ _ _ _ _ _ _ _ _ _ _ _ _ _ _ _ _ _ _ _ _ _ _ _ _ _ _ _ _ _ _ _ _ _ _ _ _ _ _ _ _ _ _ _ _ _ _ ?_
 intro p9 p10 W u45 u46 u47 u48 u49 u50 u51 u52 u53 u54 u55 u56 u57 u58 u59 MD;have HX3:=Qaa (HX2.out.old MD.old);have HY3:=Qaa (HY2.out.old MD.old);have HO3:=Qaa (Old.trans HO2.out MD.old);have H9:=Qaa MD.z9;have H10:=Qaa MD.z10;have hp9:=MD.lo9;have hW:=H9.out.lt;clear MD ca cb cl;go_wp2_with (first | ((with_reducible refine Qaq H10.out ?_ ?_);exact rfl;simp only [Act.put,List.setIfInBounds_toArray,List.set_cons_succ,List.set_cons_zero]) | (go_at_call 73;refine (cw _).mono ?_;rintro e w4 ⟨rfl,g4⟩;have HX4:Hid (Sz (w4.alloc (.cells Tryz.zeroCells103 103)) (w.heap.size+1+1) (ext []) 0):=(HX3.out.old g4).alloc _;have HY4:Hid (Sz (w4.alloc (.cells Tryz.zeroCells103 103)) (w.heap.size+1+1+1) (ext []) 0):=(HY3.out.old g4).alloc _;have H94:Hid (Sz (w4.alloc (.cells Tryz.zeroCells103 103)) p9 (pad q) (cnt q)):=(H9.out.old g4).alloc _;have HO4:Hid (Old w (w4.alloc (.cells Tryz.zeroCells103 103))):=(Old.trans HO3.out g4).alloc _;have HZ4:=Qaa (Sz.zero w4 _ rfl);have hs4:=g4.size;clear g4) | ((with_reducible refine Qap HZ4.out (pad r) (cnt r) HLM.out ?_ ?_ ?_);exact rfl;exact rfl;simp only [Act.put]));refine Q3f (pad q) (pad r) (cnt q) (cnt r) p9 w4.heap.size w _ (by omega) (by omega) (H94.out.otherRow (by omega) _) (HZ4.out.row (pad r) (cnt r) HLM.out) (HX4.out.otherRow (by omega) _) (HY4.out.otherRow (by omega) _) (HO4.out.row (by omega) _) _ _ _ _ _ _ _ _ _ _ _ _ _ _ _ _ _ _ _ _ _ _ _ _ _ _ _ _ _ _ _ _ _ _ _ _ _ _ _ _ _ _ _ _ _ _ _ _ _ _ _ _ _ _ _ _ _ _ _ _ _ _ _ _ ?_
 intro W5 u66 u67 hz1 hz2 ho;go_wp2_with fail;exact bodyPost_ret (Qfb Tryz.results123 _ _ rfl rfl hz1 hz2) rfl ⟨rfl,ho⟩
end Go.Proofs.YthcidnnkakppcaaGreatDoor
namespace Go.Proofs.YthcidnnkakppcaaGreatDoor
open M2
theorem Qng (a b:Nat) (w:World) (ha:cnt a≤40) (hb:cnt b≤40) (hpos:0<b) :
  Calls Tryz.prog 123 #[.agg (szV a),.agg (szV b)] w fun e w'=>e=.returned (.tuple #[.agg (szV (a/b)),.agg (szV (a%b))])/\Old w w':=by
 by_cases h:a<b
 ·exact div_lt a b w ha hb h
 ·have h1:=Qf5 (show b≠0 by omega)
  by_cases h2:cnt b=1
  ·exact div_one a b w ha h2 (by omega)
  ·have h3:cnt b<=cnt a:=cnt_mono (by omega);exact Qxu a b (cnt b - 2) (cnt a - cnt b) w ha (by omega) (by omega) (by omega)
theorem Qez (neg:Bool) (k:Nat) (w:World) (hn:cnt k≤80) :
  Calls Tryz.prog 60 #[.bool neg,.agg (szV k)] w fun e w'=>∃v,e=.returned (.agg #[.bool (neg&&decide (k≠0)),v])/\Old w w'/\Own w' w.heap.size v (toI (dig k)):=by
 by_cases h0:k=0
 ·subst h0;refine (Qdu neg w).mono ?_
  rintro e w' ⟨rfl,g⟩;refine ⟨.slice none 0 0,by simp,g,?_⟩;rw [Qax];exact Qcy _ _
 ·refine (Qci neg k w h0 hn).mono ?_
  rintro e w' ⟨v,rfl,g,o⟩;exact ⟨v,by simp [h0],g,o⟩
theorem Qld (n:Bool) (xs ys:List Int) (v u:Value) (w:World) (hv:Row w v xs) (hu:Row w u ys) (hga:Good n xs) (hgb:Good false ys) (h0:ys.length≠0) :
  Calls Tryz.prog 108 #[.agg #[.bool n,v],.agg #[.bool false,u]] w fun e w'=>∃v1 v2,e=.returned (.tuple #[.agg #[.bool (ng (sv n (nat xs)/(val (nat ys):Int))),v1],.agg #[.bool false,v2],.bool true])/\Old w w'/\Own w' w.heap.size v1 (toI (dg (sv n (nat xs)/(val (nat ys):Int))))/\Own w' w.heap.size v2 (toI (dg (sv n (nat xs)%(val (nat ys):Int))))/\∀b,v1.ownBlock=some b->v2.ownBlock=some b->False:=by
 obtain ⟨c0,cap0,rfl⟩:=hv.slice;obtain ⟨c1,cap1,rfl⟩:=hu.slice;obtain ⟨ex,gx,lx⟩:=Qd3 hga;obtain ⟨ey,gy,ly⟩:=Qd3 hgb;have ca:=Qc2 gx.1;have cb:=Qc2 gy.1
 have hb:0<val (nat ys):=by
  rcases Nat.eq_zero_or_pos (val (nat ys)) with h | h
  ·have:=Qbs gy.1 h;exact absurd (by rw [<- Qcu,this];rfl) h0
  ·exact h
 have ha40:cnt (val (nat xs))<=40:=by omega
 have hb40:cnt (val (nat ys))<=40:=by omega
 have hq40:cnt (val (nat xs)/val (nat ys))<=40:=Nat.le_trans (cnt_mono (Nat.div_le_self _ _)) ha40;have hr40:cnt (val (nat xs)%val (nat ys))<=40:=Nat.le_trans (cnt_mono (Nat.mod_le _ _)) ha40;have cga:=fun W (h:Row W (.slice c0 xs.length cap0) xs)=>Qa8 n xs _ W h (by rw [<- Qcu];omega)
 rw [decide_eq_true hga] at cga;have cgb:=fun W (h:Row W (.slice c1 ys.length cap1) ys)=>Qa8 false ys _ W h (by rw [<- Qcu];omega)
 rw [decide_eq_true hgb] at cgb;have csa:=fun W (h:Row W (.slice c0 xs.length cap0) xs)=>Qb7 n (nat xs) _ W (by rw [ex];exact h) gx.1 (by omega)
 have csb:=fun W (h:Row W (.slice c1 ys.length cap1) ys)=>Qb7 false (nat ys) _ W (by rw [ey];exact h) gy.1 (by omega)
 have cl:=fun W=>Qng (val (nat xs)) (val (nat ys)) W ha40 hb40 hb
 generalize val (nat ys)=b at *;have hsv:sv n (nat xs)=if n then -((val (nat xs):Nat):Int) else ((val (nat xs):Nat):Int):=rfl
 generalize sv n (nat xs)=z at *;generalize val (nat xs)=a at *;have hdm:=Nat.div_add_mod a b;have hml:=Nat.mod_lt a hb
 by_cases hc:n=false∨a%b=0
 ·have hz:z/(b:Int)=(if n then -((a/b:Nat):Int) else ((a/b:Nat):Int))∧z%(b:Int)=((a%b:Nat):Int):=by
   cases n with
   | false=>simp at hsv;subst hsv;simp
   | true=>
     have hm:a%b=0:=by rcases hc with h | h;cases h;exact h
     simp at hsv;subst hsv;have hd:=Int.ofNat_dvd.2 (Nat.dvd_of_mod_eq_zero hm);refine ⟨?_,?_⟩
     ·simp [Int.neg_ediv_of_dvd hd]
     ·rw [hm];simp [Int.emod_eq_zero_of_dvd (Int.dvd_neg.2 hd)]
  have e1:ng (z/(b:Int))=(n&&decide (a/b≠0)):=by
   rw [hz.1];clear hz hdm;generalize a/b=q;unfold ng
   cases n with
   | false=>exact decide_eq_false (show ¬((q:Nat):Int)<0 by omega)
   | true=>
     rw [Bool.true_and];exact decide_eq_decide.2 (show (-((q:Nat):Int)<0↔q≠0) by omega)
  have e2:dg (z/(b:Int))=dig (a/b):=by
   rw [hz.1];generalize a/b=q;unfold dg;cases n <;> simp
  have e3:dg (z%(b:Int))=dig (a%b):=by rw [hz.2];rfl
  rw [e1,e2,e3];refine Qnb n _ xs ys _ _ c0 c1 cap0 cap1 _ _ _ _ _ _ _ _ w hv hu h0 (Qab hb40 (by omega)) (Qab hq40 (by omega)) (Qab hr40 (by omega)) cga cgb csa csb cl (fun W=>Qez n (a/b) W (by omega)) (fun W=>?_) ?_
  ·have:=Qez false (a%b) W (by omega);simp only [Bool.false_and] at this;exact this
  ·rcases hc with h | h
   ·exact Or.inl h
   ·right;rw [h];exact Qda
 ·have hn:n=true:=by cases n with | false=>exact absurd (Or.inl rfl) hc | true=>rfl
  have hm:a%b≠0:=fun h=>hc (Or.inr h)
  subst hn;simp at hsv
  have hz:z/(b:Int) = -((a/b+1:Nat):Int)/\z%(b:Int)=((b - a%b:Nat):Int):=by
   have hcast:((b - a%b:Nat):Int)=(b:Int) - ((a%b:Nat):Int):=by omega
   have hsum:(a:Int)=(b:Int)*((a/b:Nat):Int)+((a%b:Nat):Int):=by
    have:=congrArg (fun k:Nat=>(k:Int)) hdm
    simpa using this.symm
   have hkey:z=(b:Int)*(-((a/b+1:Nat):Int))+((b - a%b:Nat):Int):=by
    rw [hcast,hsv,hsum];rw [Int.natCast_add,Int.mul_neg,Int.mul_add];simp;omega
   have hb':(b:Int)≠0:=by omega
   have h1:(0:Int)<=((b - a%b:Nat):Int):=by omega
   have h2:((b - a%b:Nat):Int)<(b:Int):=by omega
   refine ⟨?_,?_⟩
   ·rw [hkey,Int.add_comm,Int.add_mul_ediv_left _ _ hb',Int.ediv_eq_zero_of_lt h1 h2,Int.zero_add]
   ·rw [hkey,Int.add_comm,Int.add_mul_emod_self_left,Int.emod_eq_of_lt h1 h2]
  have e1:ng (z/(b:Int))=(true&&decide (a/b+1≠0)):=by
   rw [hz.1];clear hz hdm;generalize a/b=q;unfold ng;simp
  have e2:dg (z/(b:Int))=dig (a/b+1):=by
   rw [hz.1];generalize a/b=q;unfold dg;rw [Int.natAbs_neg];rfl
  have e3:dg (z%(b:Int))=dig (b - a%b):=by rw [hz.2];rfl
  have hq41:=Nat.le_trans (Qu2 (a/b) 1 hq40 (Nat.le_trans (Qcn (by omega)) (by omega))) (Nat.le_refl _);have hrr:cnt (b - a%b)<=40:=Nat.le_trans (cnt_mono (Nat.sub_le _ _)) hb40;rw [e1,e2,e3];refine Qo3 _ xs ys _ _ c0 c1 cap0 cap1 _ _ _ _ _ _ _ _ _ _ _ _ _ _ w hv hu h0 (Qab hb40 (by omega)) (Qab hq40 (by omega)) (Qab hr40 (by omega)) (Qab hq41 (by omega)) (Qab hrr (by omega)) cga cgb csa csb cl (fun W=>Qdt 1 W (by omega)) (fun W=>Qtw (a/b) 1 W (by omega) (Nat.le_trans (Qcn (by omega)) (by omega))) (fun W=>Qke b (a%b) W (by omega) (by omega)) (fun W=>Qez true (a/b+1) W (by omega)) (fun W=>?_) ?_
  ·have:=Qez false (b - a%b) W (by omega);simp only [Bool.false_and] at this;exact this
  ·have:=Qf5 hm;omega
theorem Qva (xs:List Nat):nat (toI xs)=xs:=by
 apply List.ext_getElem
 ·simp [nat,toI]
 ·intro i h1 h2;simp [nat,toI]
theorem Qo4 {n:Bool} {xs:List Nat} (h:Gw n xs) (hl:xs.length<=40):Good n (toI xs):=by
 refine ⟨by rw [Qam];exact hl,?_,?_⟩
 ·rintro ⟨h0,hn⟩;exact h.2 hn (List.length_eq_zero_iff.1 (by rw [<- Qam];exact h0))
 ·intro j hj;rw [Qam] at hj;have hm:xs.getD j 0∈xs:=by simp [List.getD,hj]
  have hb:=h.1.1 _ hm;unfold LB at hb;refine ⟨?_,?_⟩
  ·rw [Qj0];omega
  ·rw [Qj0,Qam];rintro ⟨h0,h1⟩;have hne:xs≠[]:=by rintro rfl;simp at hj
   apply h.1.2 hne;rw [List.getLast_eq_getElem];have h2:xs.getD j 0=0:=by omega
   have e:xs.length - 1=j:=by omega
   simp only [e];rw [<- h2];simp [List.getD,hj]
theorem Qr8 {n:Bool} {xs:List Nat} {D:Nat} (hx:Nrm xs) (hl:xs.length<=40) (hD:0<D):(dg (sv n xs/(D:Int))).length<=40:=by
 have h1:(sv n xs).natAbs=val xs:=by cases n <;> simp [sv]
 have h2:val xs<LB^40:=by
  have:=Qc2 hx;have h3:=cnt_lt (val xs);exact Nat.lt_of_lt_of_le h3 (Nat.pow_le_pow_right (by decide) (by omega))
 have h4:(sv n xs/(D:Int)).natAbs<=(sv n xs).natAbs:=by
  generalize sv n xs=z;have hd:(1:Int)<=(D:Int):=by omega
  rcases Int.lt_or_le z 0 with hz | hz
  ·have h5:z/(D:Int)<0:=Int.ediv_neg_of_neg_of_pos hz (by omega)
   have h6:z<=z/(D:Int):=by
    rw [Int.le_ediv_iff_mul_le (by omega)];have:=Int.mul_le_mul_of_nonpos_left (a:=z) (Int.le_of_lt hz) hd;rw [Int.mul_one] at this;exact this
   omega
  ·have h5:0<=z/(D:Int):=Int.ediv_nonneg hz (by omega);have h6:z/(D:Int)<=z:=Int.ediv_le_self _ hz;omega
 exact Qpt (by omega)
theorem Qi1 (n:Bool) (xs ys:List Int) (v u:Value) (w:World) (hv:Row w v xs) (hu:Row w u ys) (hga:Good n xs) (hgb:Good false ys) (h0:ys.length≠0) :
  Calls Tryz.prog 108 #[.agg #[.bool n,v],.agg #[.bool false,u]] w fun e w'=>∃v1 v2,e=.returned (.tuple #[.agg #[.bool (ng (sv n (nat xs)/(val (nat ys):Int))),v1],.agg #[.bool false,v2],.bool true])/\Old w w'/\Own w' w.heap.size v1 (toI (dg (sv n (nat xs)/(val (nat ys):Int))))/\Own w' w.heap.size v2 (toI (dg (sv n (nat xs)%(val (nat ys):Int)))):=
 (Qld n xs ys v u w hv hu hga hgb h0).mono (fun e w' h=>by
  obtain ⟨v1,v2,h,g,a,b,_⟩:=h;exact ⟨v1,v2,h,g,a,b⟩)
theorem Qnh (n m:Bool) (xs ys:List Int) (v u:Value) (w:World) (hv:Row w v xs) (hu:Row w u ys) (la:xs.length≤1048576) (lb:ys.length≤1048576) (h:¬Dv n m xs ys) :
  Calls Tryz.prog 108 #[.agg #[.bool n,v],.agg #[.bool m,u]] w fun e w'=>∃v1 v2,e=.returned (.tuple #[.agg #[.bool false,v1],.agg #[.bool false,v2],.bool false])/\Old w w'/\Own w' w.heap.size v1 []/\Own w' w.heap.size v2 []/\∀b,v1.ownBlock=some b->v2.ownBlock=some b->False:=by
 obtain ⟨c0,cap0,rfl⟩:=hv.slice;obtain ⟨c1,cap1,rfl⟩:=hu.slice;have cga:=fun W (h:Row W (.slice c0 xs.length cap0) xs)=>Qa8 n xs _ W h la
 have cgb:=fun W (h:Row W (.slice c1 ys.length cap1) ys)=>Qa8 m ys _ W h lb
 by_cases hga:Good n xs
 ·rw [decide_eq_true hga] at cga
  by_cases hgb:Good m ys
  ·rw [decide_eq_true hgb] at cgb
   cases m with
   | true=>exact Qne n xs ys c0 c1 cap0 cap1 w hv hu cga cgb
   | false=>
     have h0:ys.length=0:=by
      rcases Nat.eq_zero_or_pos ys.length with h1 | h1
      ·exact h1
      ·exact absurd ⟨⟨hga,hgb⟩,rfl,h1⟩ h
     exact Qnf n xs ys c0 c1 cap0 cap1 w hv hu cga cgb h0
  ·rw [decide_eq_false hgb] at cgb;exact Qnd n m xs ys c0 c1 cap0 cap1 w hv hu cga cgb
 ·rw [decide_eq_false hga] at cga;exact Qnc n m xs ys c0 c1 cap0 cap1 w hv hu cga
theorem round_eq (X:Int) (Y:Nat) (hY:0<Y):(2*X+(Y:Int))/(2*(Y:Int))=if 2*(X%(Y:Int))<(Y:Int) then X/(Y:Int) else X/(Y:Int)+1:=by
 have h1:=Int.emod_add_mul_ediv X (Y:Int);have h2:=Int.emod_nonneg X (show (Y:Int)≠0 by omega);have h3:=Int.emod_lt_of_pos X (show (0:Int)<(Y:Int) by omega);generalize X%(Y:Int)=r at *;generalize X/(Y:Int)=q at *
 have e:2*X+(Y:Int)=(2*r+(Y:Int))+2*(Y:Int)*q:=by
  rw [<- h1,Int.mul_assoc 2 (Y:Int) q];generalize (Y:Int)*q=t;omega
 rw [e,Int.add_mul_ediv_left _ _ (by omega)];split
 ·rename_i hlt
  rw [Int.ediv_eq_zero_of_lt (by omega) (by omega)];omega
 ·rename_i hge
  have:(2*r+(Y:Int))/(2*(Y:Int))=1:=by
   have e2:2*r+(Y:Int)=(2*r - (Y:Int))+2*(Y:Int)*1:=by omega
   rw [e2,Int.add_mul_ediv_left _ _ (by omega),Int.ediv_eq_zero_of_lt (by omega) (by omega)];rfl
  rw [this];omega
theorem Qr9 (n m:Bool) (xs ys:List Int) (v u:Value) (w:World) (hv:Row w v xs) (hu:Row w u ys) (la:xs.length≤1048576) (lb:ys.length≤1048576) (R:Bool×List Nat×Bool) (hR:Qqu n m xs ys=R) :
  Calls Tryz.prog 77 #[.agg #[.bool n,v],.agg #[.bool m,u]] w fun e w'=>∃v',e=.returned (.tuple #[.agg #[.bool R.1,v'],.bool R.2.2])/\Old w w'/\Own w' w.heap.size v' (toI R.2.1):=by
 obtain ⟨c0,cap0,rfl⟩:=hv.slice;obtain ⟨c1,cap1,rfl⟩:=hu.slice
 by_cases hd:Dv n m xs ys
 ·unfold Qqu at hR;rw [if_pos hd] at hR;obtain ⟨⟨hga,hgb⟩,rfl,hy0⟩:=hd;obtain ⟨ex,gx,lx⟩:=Qd3 hga;obtain ⟨ey,gy,ly⟩:=Qd3 hgb;have hne:nat ys≠[]:=fun h=>by rw [← Qcu,h] at hy0;simp at hy0
  have hD:=Qny gy.1 hne;have cb:=Qc2 gy.1;have hq40:=Qr8 (n:=n) gx.1 lx hD;have cd:=fun W (h1:Row W (.slice c0 xs.length cap0) xs) (h2:Row W (.slice c1 ys.length cap1) ys)=>Qi1 n xs ys _ _ W h1 h2 hga hgb (by omega)
  have hr0:=Int.emod_nonneg (sv n (nat xs)) (show (val (nat ys):Int)≠0 by omega);have hr1:=Int.emod_lt_of_pos (sv n (nat xs)) (show (0:Int)<(val (nat ys):Int) by omega);have csy:=fun W (h:Row W (.slice c1 ys.length cap1) ys)=>Qb7 false (nat ys) _ W (by rw [ey];exact h) gy.1 (by omega)
  rw [round_eq _ _ hD] at hR;clear ey hne gy hgb hga gx lx ex;generalize val (nat ys)=Y at *;generalize sv n (nat xs)=X at *;obtain ⟨r,hr⟩:∃r:Nat,X%(Y:Int)=(r:Int):=⟨(X%(Y:Int)).toNat,by omega⟩
  rw [hr] at cd hR hr1;generalize X/(Y:Int)=q at *;have hY40:cnt Y<=40:=by omega
  have hr40:cnt r<=40:=Nat.le_trans (cnt_mono (by omega)) hY40
  have h2r:cnt (r*2+0)<=80:=by
   have h1:=cnt_lt r
   have:r*2+0<LB^41:=by
    have h2:=Nat.lt_of_lt_of_le h1 (Nat.pow_le_pow_right (by decide) hr40);have h3:LB^41=LB^40*LB:=Nat.pow_succ ..;have h4:LB^40*2<=LB^40*LB:=Nat.mul_le_mul_left _ (by decide);omega
   exact Nat.le_trans (Qb4 this) (by decide)
  have edr:dg (r:Int)=dig r:=rfl;rw [edr] at cd;have csr:=fun a k W (h:Row W (.slice a (toI (dig r)).length k) (toI (dig r)))=>Qb7 false (dig r) _ W h (Qbm r) (by have:(dig r).length=cnt r:=rfl;omega)
  rw [Qag] at csr;have csc:=fun W=>Qc7 r 2 0 W (by omega) (by omega) (by omega)
  have ccm:=fun W=>Qgs (r*2+0) Y W h2r (by omega)
  by_cases hlt:2*(r:Int)<(Y:Int)
  ·rw [if_pos hlt] at hR;unfold told at hR;rw [if_pos hq40] at hR;subst hR;have hz:Qb3 (r*2+0) Y<0:=by unfold Qb3;rw [if_pos (by omega)];decide
   exact Qif n false (ng q) xs ys _ _ c0 c1 cap0 cap1 _ _ _ _ _ _ w hv hu cd (Qab h2r (by omega)) csr csc csy _ ccm hz
  ·rw [if_neg hlt] at hR
   have hz:¬Qb3 (r*2+0) Y<0:=by
    unfold Qb3;rw [if_neg (by omega)];split <;> decide
   have hg1:=Qo4 (Qim q) hq40;have hg2:Good false (toI (dg 1)):=Qo4 (Qim 1) (Qfw 1 (by decide) (by decide))
   have hA:Qt2 (ng q) false (toI (dg q)) (toI (dg 1))=R:=by
    unfold Qt2;rw [if_pos ⟨hg1,hg2⟩,Qva,Qva,Qfl];have:=Qfl 1;rw [show ng 1=false from rfl] at this;rw [this];exact hR
   have cwo:=fun W=>Qtz 1 W (by decide) (by decide)
   rw [show ng 1=false from rfl] at cwo;have cad:=fun v u W (h1:Row W v (toI (dg q))) (h2:Row W u (toI (dg 1)))=>Qxt (ng q) false (toI (dg q)) (toI (dg 1)) v u W h1 h2 (by rw [Qam];omega) (by rw [Qam];have:=Qfw 1 (by decide) (by decide);omega)
   rw [hA] at cad;exact Qlb n false (ng q) xs ys _ _ c0 c1 cap0 cap1 _ _ _ _ _ _ w hv hu cd (Qab h2r (by omega)) csr csc csy _ ccm hz _ _ _ _ cwo cad
 ·unfold Qqu at hR;rw [if_neg hd] at hR;subst hR;exact Qlc n m false xs ys [] [] c0 c1 cap0 cap1 [] [] [] 0 0 0 w hv hu (fun W h1 h2=>(Qnh n m xs ys _ _ W h1 h2 la lb hd).mono (fun e w' h=>by obtain ⟨v1,v2,h,g,a,b,_⟩:=h;exact ⟨v1,v2,h,g,a,b⟩))
end Go.Proofs.YthcidnnkakppcaaGreatDoor
namespace Go.Proofs.YthcidnnkakppcaaGreatDoor
open Go.ChangeShapes Go.WideShapes Go.ChangeAt Go.RowKit
open M2
def Wz (z:Int) (base:Nat) (W:World) (x:Value):Prop:=∃a c,x=.agg #[.bool (ng z),.slice a (dg z).length c]/\Own W base (.slice a (dg z).length c) (toI (dg z))
theorem Wz.old {z:Int} {base:Nat} {W W':World} {x:Value} (h:Wz z base W x) (q:Old W W'):Wz z base W' x:=by
 obtain ⟨a,c,e,o⟩:=h;exact ⟨a,c,e,o.old q⟩
theorem Wz.low {z:Int} {base lo:Nat} {W:World} {x:Value} (h:Wz z base W x) (q:lo<=base):Wz z lo W x:=by
 obtain ⟨a,c,e,o⟩:=h;exact ⟨a,c,e,o.low q⟩
def Rz (z:Int) (W:World) (x:Value):Prop:=∃a c,x=.agg #[.bool (ng z),.slice a (dg z).length c]/\Row W (.slice a (dg z).length c) (toI (dg z))
theorem Wz.rz {z:Int} {base:Nat} {W:World} {x:Value} (h:Wz z base W x):Rz z W x:=by
 obtain ⟨a,c,e,o⟩:=h;exact ⟨a,c,e,Own.row o⟩
theorem Rz.old {z:Int} {W W':World} {x:Value} (h:Rz z W x) (q:Old W W'):Rz z W' x:=by
 obtain ⟨a,c,e,o⟩:=h;exact ⟨a,c,e,o.old q⟩
theorem Qf1 (xs:List Nat):nat (toI xs)=xs:=by
 unfold nat toI;rw [List.map_map];refine (List.map_congr_left fun x hx=>?_).trans (List.map_id xs);simp
theorem Qni {z:Int} (h:(dg z).length<=40):Good (ng z) (toI (dg z)):=Qo4 (Qim z) h
theorem Qxv {z:Int} {w w':World} {e:Ending} (h:∃v',e=.returned (.agg #[.bool (ng z),v'])/\Old w w'/\Own w' w.heap.size v' (toI (dg z))):∃x,e=.returned x/\Old w w'/\Wz z w.heap.size w' x:=by
 obtain ⟨v',rfl,g,o⟩:=h;obtain ⟨a,c,rfl⟩:=(Own.row o).sliceN;exact ⟨_,rfl,g,a,c,rfl,o⟩
theorem Qyz {z:Int} {w w':World} {e:Ending} (T:Bool×List Nat×Bool) (hT:T=told z) (hl:(dg z).length<=40) (h:∃v',e=.returned (.tuple #[.agg #[.bool T.1,v'],.bool T.2.2])/\Old w w'/\Own w' w.heap.size v' (toI T.2.1)):∃x,e=.returned (.tuple #[x,.bool true])/\Old w w'/\Wz z w.heap.size w' x:=by
 rw [hT] at h;unfold told at h;rw [if_pos hl] at h;obtain ⟨v',rfl,g,o⟩:=h;obtain ⟨a,c,rfl⟩:=(Own.row o).sliceN;exact ⟨_,rfl,g,a,c,rfl,o⟩
theorem Q46 (z:Int) (w:World) (h0 : -9223372036854775808≤z) (h1:z≤9223372036854775807) :
  Calls Tryz.prog 76 #[.int .i64 z] w fun e w'=>∃x,e=.returned x/\Old w w'/\Wz z w.heap.size w' x:=
 (Qtz z w h0 h1).mono fun e w' h=>Qxv h
theorem Q4r (y z:Int) (x1 x2:Value) (w:World) (h1:Rz y w x1) (h2:Rz z w x2) (ly:(dg y).length≤40) (lz:(dg z).length≤40) (hl:(dg (y*z)).length≤40) :
  Calls Tryz.prog 75 #[x1,x2] w fun e w'=>∃x,e=.returned (.tuple #[x,.bool true])/\Old w w'/\Wz (y*z) w.heap.size w' x:=by
 obtain ⟨a1,c1,rfl,o1⟩:=h1;obtain ⟨a2,c2,rfl,o2⟩:=h2;refine (Qw7 (ng y) (ng z) (toI (dg y)) (toI (dg z)) _ _ w o1 o2 (by simp [toI];omega) (by simp [toI];omega)).mono fun e w' h=>?_
 refine Qyz _ ?_ hl h
 unfold Qvn;rw [if_pos ⟨Qni ly,Qni lz⟩,Qf1,Qf1,Qfl,Qfl]
def Qd7 (y:Int) (q:Nat):Int:=(2*y+(q:Int))/(2*(q:Int))
theorem Qvb {q:Nat} (h:0<q):ng (q:Int)=false/\0<(dg (q:Int)).length:=by
 refine ⟨by simp [ng],?_⟩;rcases Nat.eq_zero_or_pos (dg (q:Int)).length with h0 | h0
 ·have h1:=Qfl (q:Int);rw [List.length_eq_zero_iff.1 h0] at h1;simp [sv,ng,val] at h1;omega
 ·exact h0
theorem Qy0 (q:Nat):val (dg (q:Int))=q:=by
 have h1:=Qfl (q:Int);simp [sv,ng] at h1;omega
theorem Q1k (y:Int) (q:Nat) (x1 x2:Value) (w:World) (h1:Rz y w x1) (h2:Rz q w x2) (hq:0<q) (ly:(dg y).length≤40) (lz:(dg (q:Int)).length≤40) (hl:(dg (Qd7 y q)).length≤40) :
  Calls Tryz.prog 77 #[x1,x2] w fun e w'=>∃x,e=.returned (.tuple #[x,.bool true])/\Old w w'/\Wz (Qd7 y q) w.heap.size w' x:=by
 obtain ⟨a1,c1,rfl,o1⟩:=h1;obtain ⟨a2,c2,rfl,o2⟩:=h2;refine (Qr9 (ng y) (ng (q:Int)) (toI (dg y)) (toI (dg (q:Int))) _ _ w o1 o2 (by simp [toI];omega) (by simp [toI];omega) _ rfl).mono fun e w' h=>?_
 refine Qyz _ ?_ hl h
 unfold Qqu;rw [if_pos ⟨⟨Qni ly,Qni lz⟩,(Qvb hq).1,by simp only [toI,List.length_map];exact (Qvb hq).2⟩,Qf1,Qf1,Qfl,Qy0];rfl
theorem Q4s (y:Int) (p:Int) (x1:Value) (w:World) (h1:Rz y w x1) (ly:(dg y).length≤40) (hp:2≤p∧p≤268435456) :
  Calls Tryz.prog 37 #[x1,.int .i64 p] w fun e w'=>e=.returned (.int .i64 (y%p))/\Old w w':=by
 obtain ⟨a1,c1,rfl,o1⟩:=h1;have h:=Qxa (ng y) (toI (dg y)) p _ w o1 (by simp [toI];omega);unfold Qyq at h;rw [if_pos ⟨Qni ly,hp⟩,Qf1,Qfl] at h;exact h
theorem Q1l (y z:Int) (x1 x2:Value) (w:World) (h1:Rz y w x1) (h2:Rz z w x2) (ly:(dg y).length≤1000) (lz:(dg z).length≤1000) :
  Calls Tryz.prog 28 #[x1,x2] w fun e w'=>∃x,e=.returned x/\Old w w'/\Wz (y*z) w.heap.size w' x:=by
 obtain ⟨a1,c1,rfl,o1⟩:=h1;obtain ⟨a2,c2,rfl,o2⟩:=h2;have h:=Qlx (ng y) (ng z) (dg y) (dg z) _ _ w o1 o2 (Qim y).1.1 (Qim z).1.1 ly lz;rw [Qfl,Qfl] at h;exact h.mono fun e w' h=>Qxv h
theorem Q4t (z:Int) (w:World) (h0 : -9223372036854775808≤z) (h1:z≤9223372036854775807) :
  Calls Tryz.prog 29 #[.int .i64 z] w fun e w'=>∃x,e=.returned x/\Old w w'/\Wz z w.heap.size w' x:=
 (Qzk z w h0 h1).mono fun e w' h=>Qxv h
theorem Q3j (y:Int) (q:Nat) (x1 u:Value) (w:World) (h1:Rz y w x1) (hu:Row w u (toI (dig q))) (hq:0<q) (ly:(dg y).length≤500) (lq:(dig q).length≤500) :
  Calls Tryz.prog 27 #[x1,u] w fun e w'=>∃x,e=.returned x/\Old w w'/\Wz (Qd7 y q) w.heap.size w' x:=by
 obtain ⟨a1,c1,rfl,o1⟩:=h1
 have hn:dig q≠[]:=fun h=>by
  have:=(Qvb hq).2;rw [show dg (q:Int)=dig q from rfl,h] at this;simp at this
 have h:=Qv0 (ng y) (dg y) (dig q) _ u w o1 hu (Qim y) (Qim (q:Int)).1 hn ly lq;rw [Qfl,show val (dig q)=q from Qy0 q] at h;exact h.mono fun e w' h=>Qxv h
theorem Qxw (y:Int) (p:Nat) (x1:Value) (w:World) (h1:Rz y w x1) (ly:(dg y).length≤1000) (hp:1≤p∧p≤268435456) :
  Calls Tryz.prog 26 #[x1,.int .i64 p] w fun e w'=>e=.returned (.int .i64 (y%(p:Int)))/\Old w w':=by
 obtain ⟨a1,c1,rfl,o1⟩:=h1;have h:=Qq8 (ng y) (dg y) p _ w o1 (Qim y).1.1 (by omega) hp.1 hp.2;rw [Qfl] at h;exact h
end Go.Proofs.YthcidnnkakppcaaGreatDoor
