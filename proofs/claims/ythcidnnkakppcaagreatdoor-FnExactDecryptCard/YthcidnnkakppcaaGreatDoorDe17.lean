/- Proved: what its theorems say. -/
import Derived.Test.YthcidnnkakppcaaGreatDoorSzAdd
set_option linter.unusedVariables false
set_option linter.unusedSimpArgs false
set_option maxHeartbeats 4000000
namespace Go.Proofs.YthcidnnkakppcaaGreatDoor
open Go.ChangeShapes Go.WideShapes Go.ChangeAt Go.RowKit
open M2
structure ScI (a f m k:Nat) (cur:List Nat) (c:Nat):Prop where
 lim:Lim cur
 len:cur.length=80
 eq:val cur+LB^k*c+val ((dig a).take k)=val ((dig a).take k)*f+m+a
 up:∀j,k<=j->cur.getD j 0=(dig a).getD j 0
 c1:c<=LB
theorem ScI.start (a f m:Nat) (hm:m<=LB) (ha:cnt a<=80):ScI a f m 0 (pad a) m:=
 ⟨Qf4 a,Qe8 ha,by rw [Qe7];simp [val];omega,fun j _=>Qck a j,hm⟩
theorem ScI.step {a f m k:Nat} {cur:List Nat} {c:Nat} (h:ScI a f m k cur c) (hf:f≤LB) (hk:k<80) :
  ScI a f m (k+1) (cur.set k ((c+(dig a).getD k 0*f)%LB)) ((c+(dig a).getD k 0*f)/LB):=by
 have hl:=(Qao a).getD k;have h1:=h.c1;have hlen:=h.len;refine ⟨h.lim.set _ _ (Nat.mod_lt _ Qa2),by rw [List.length_set,hlen],?_,?_,?_⟩
 ·have e:=h.eq;have hs:=Qdx cur k ((c+(dig a).getD k 0*f)%LB) (by omega);rw [h.up k (Nat.le_refl _)] at hs;rw [Qan];have h2:=Qfg k (c+(dig a).getD k 0*f);rw [Nat.mul_add (LB^k) c] at h2;rw [Nat.add_mul (val ((dig a).take k)) (LB^k*(dig a).getD k 0) f,Nat.mul_assoc];omega
 ·intro j hj;rw [<- h.up j (by omega)];simp [List.getD,show ¬k=j by omega]
 ·have h3:(dig a).getD k 0*f≤(LB - 1)*LB:=Nat.mul_le_mul (by omega) hf
  have h4:c+(dig a).getD k 0*f<=LB*LB:=by
   have:(LB - 1)*LB+LB=LB*LB:=by decide
   omega
  exact Nat.div_le_of_le_mul h4
theorem ScI.done {a f m:Nat} {cur:List Nat} {c:Nat} (h:ScI a f m (cnt a) cur c) (ha:cnt a<=79) (hc:c<LB):cur.set (cnt a) c=pad (a*f+m)/\cnt (a*f+m)<=cnt a+1:=by
 have e:=h.eq;rw [Qdg a _ (Nat.le_refl _),Qag] at e;have hs:=Qdx cur (cnt a) c (by rw [h.len];omega)
 have hz:cur.getD (cnt a) 0=0:=by
  rw [h.up _ (Nat.le_refl _)];unfold cnt;simp [List.getD]
 rw [hz,Nat.mul_zero,Nat.add_zero] at hs;have hv:val (cur.set (cnt a) c)=a*f+m:=by omega
 have hlim:=h.lim.set (cnt a) c hc;refine ⟨by rw [<- hv];exact Qhf hlim (by rw [List.length_set,h.len]),?_⟩;rw [<- hv]
 have hz2:∀j,cnt a+1<=j->(cur.set (cnt a) c).getD j 0=0:=fun j hj=>by
  have h1:(cur.set (cnt a) c).getD j 0=cur.getD j 0:=by simp [List.getD,show ¬cnt a=j by omega]
  rw [h1,h.up j (by omega)];simp [List.getD,show (dig a).length<=j by unfold cnt at hj;omega]
 have ht:=Qzd (cnt a+1) (cur.set (cnt a) c) hz2;rw [<- ht];have:=Qbi (hlim.take (cnt a+1));rw [List.length_take,List.length_set,h.len,Nat.min_eq_left (by omega)] at this;exact Qb4 this
theorem ScI.last {a f m:Nat} {cur:List Nat} {c:Nat} (h:ScI a f m (cnt a) cur c) (hf:f<=LB) (hm:m<LB):c<LB:=by
 have e:=h.eq;rw [Qdg a _ (Nat.le_refl _),Qag] at e;apply Classical.byContradiction;intro hn;have h1:=cnt_lt a;have h2:LB^cnt a*LB<=LB^cnt a*c:=Nat.mul_le_mul_left _ (by omega);have h3:(a+1)*LB<=LB^cnt a*LB:=Nat.mul_le_mul_right _ h1;have h4:a*f<=a*LB:=Nat.mul_le_mul_left _ hf;rw [Nat.add_mul,Nat.one_mul] at h3;omega
theorem Qc7 (a f m:Nat) (w:World) (ha:cnt a≤79) (hf:f≤268435456) (hm:m<268435456) :
  Calls Tryz.prog 97 #[.agg (szV a),.int .i64 (f:Int),.int .i64 (m:Int)] w fun e w'=>e=.returned (.agg (szV (a*f+m)))/\Old w w':=by
 have HLA:=Qab ha (by omega);have a80:=Qb2 HLA (cnt a);have HPA:=Qaa HLA;clear HLA;unfold szV;go_enter Tryz.func97,Tryz.ntmps97;go_wp2_with fail;clear a80
 go_loopw [7,12] (fun cy i W=>∃(k:Nat) (cur:List Nat) (c:Nat),k<=cnt a/\i=.int .i64 (k:Int)/\cy=.int .i64 (c:Int)/\c<=268435456/\Hid (ScI a f m k cur c)/\Hid (Sz W w.heap.size cur (cnt a))/\Hid (Sz W (w.heap.size+1) (ext []) 0)/\Hid (Old w W)) (fun _ i _=>cnt a - (intOf i).toNat)
 case atStart=>exact ⟨0,pad a,m,by omega,rfl,rfl,by omega,ScI.start _ _ _ (by unfold LB;omega) (by omega),(Sz.new w _ _ HPA.out).alloc _,Sz.zero _ _ (by simp),((Old.refl w).alloc _).alloc _⟩
 case round=>
  obtain ⟨k,cur,c,hk,rfl,rfl,hc,HI,HS,HR,HG⟩:=hrel
  by_cases hlt:k<cnt a
  ·have i1:(k:Int)<80:=by omega
   have c1:=HS.out.at (j:=k) (by omega);rw [HI.out.up k (Nat.le_refl _)] at c1;have f1:=HS.out.fro k;have l1:=(Qao a).getD k;have HN:=HI.out.step hf (by omega);have HN':=Qaa HN;have hc1:(c+(dig a).getD k 0*f)/LB<=268435456:=HN.c1;clear HN;generalize (dig a).getD k 0=x at *;have hx:x<268435456:=l1;clear l1;have hp:x*f<=268435455*268435456:=Nat.mul_le_mul (by omega) hf
   have b1:(x:Int)*(f:Int)<=72057593769492480:=by
    have:=Int.ofNat_le.2 hp;rw [Int.natCast_mul] at this;exact this
   have b0:0<=(x:Int)*(f:Int):=Int.mul_nonneg (Int.natCast_nonneg _) (Int.natCast_nonneg _);have e0:(x:Int)*(f:Int)=((x*f:Nat):Int):=(Int.natCast_mul _ _).symm;have E0:=Qaa e0;clear e0 hp;have e1:((c:Int)+(x:Int)*(f:Int))%268435456=(((c+x*f)%LB:Nat):Int):=by rw [E0.out];unfold LB;omega
   have e2:((c:Int)+(x:Int)*(f:Int))/268435456=(((c+x*f)/LB:Nat):Int):=by rw [E0.out];unfold LB;omega
   generalize (c+x*f)%LB=u at *;generalize (c+x*f)/LB=c' at *;go_wp2_with fail;exact ⟨⟨k+1,cur.set k u,c',by omega,by go_num,by first | rfl | rw [e2],hc1,HN',HS.out.set (by omega) u,HR.out.other _ (by simp) _,HG.out.own (by simp) _⟩,by simp [intOf];omega⟩
  ·obtain rfl:k=cnt a:=by omega
   have i1:((cnt a:Nat):Int)<80:=by omega
   have f1:=HS.out.fro (cnt a);have c1:=HS.out.cnt;have c3:=HS.out.at (j:=cnt a) (by omega);have hcl:=HI.out.last hf hm;obtain ⟨HE1,HE2⟩:=HI.out.done ha hcl;have HE:=Qaa HE2;have HPS:=Qaa (Qab HE2 (by omega))
   have HD:Hid (Sz (wr.setCell ⟨w.heap.size,cnt a,none⟩ (.int .i64 (c:Int))) w.heap.size (pad (a*f+m)) (cnt a)):=by
    have:=HS.out.set (j:=cnt a) (by omega) c;rw [HE1] at this;exact this
   have c2:=HD.out.cnt;have HR0:=HR;clear HR;have HR:Hid (Sz (wr.setCell ⟨w.heap.size,cnt a,none⟩ (.int .i64 (c:Int))) (w.heap.size+1) (ext []) 0):=HR0.out.other _ (by simp) _;have HG0:=HG;clear HG;have HG:Hid (Old w (wr.setCell ⟨w.heap.size,cnt a,none⟩ (.int .i64 (c:Int)))):=HG0.out.own (by simp) _;clear HE1 HE2 HR0 HG0 HI HS;generalize cur.getD (cnt a) 0=z at *;go_wp2_with (first | ((with_reducible refine Qaq HD.out ?_ ?_);exact rfl;simp only [Act.put,List.setIfInBounds_toArray,List.set_cons_succ,List.set_cons_zero]) | (go_at_call 105;refine (Qbv (a*f+m) (cnt a) (cnt a+1) _ HE.out (by omega)).mono ?_;rintro e w5 ⟨rfl,g5⟩;have HR5:=Qaa (HR.out.old g5);have HG5:=Qaa (Old.trans HG.out g5)) | ((with_reducible refine Qap HR5.out (pad (a*f+m)) (cnt (a*f+m)) HPS.out ?_ ?_ ?_);exact rfl;exact rfl;simp only [Act.put]) | ((with_reducible refine bodyPost_ret (Qdf Tryz.results97 _ _ ?_ (HR5.out.row (pad (a*f+m)) (cnt (a*f+m)) HPS.out)) ?_ ?_);exact rfl;exact rfl;exact ⟨rfl,HG5.out.row (by omega) _⟩))
theorem Qcn {n:Nat} (h:n<18446744073709551616):cnt n<=3:=Qb4 (Nat.lt_of_lt_of_le h (by decide))
theorem Qdt (n:Nat) (w:World) (hn:n<18446744073709551616) :
  Calls Tryz.prog 98 #[.int .u64 (n:Int)] w fun e w'=>e=.returned (.agg (szV n))/\Old w w':=by
 have hc3:=Qcn hn;unfold szV;go_enter Tryz.func98,Tryz.ntmps98;go_wp2_with fail
 go_loopw [0] (fun v W=>∃(m:Nat) (out:List Nat),v=.int .u64 (m:Int)/\m<18446744073709551616/\out.length+cnt m<=3/\Hid (dig n=out++dig m)/\Hid (Sz W w.heap.size (ext []) 0)/\Hid (Sz W (w.heap.size+1) (ext out) out.length)/\Hid (Old w W)) (fun v _=>(intOf v).toNat)
 case atStart=>exact ⟨n,[],rfl,hn,by simpa using hc3,rfl,(Sz.zero _ _ (by simp)).alloc _,Sz.zero _ _ (by simp),((Old.refl w).alloc _).alloc _⟩
 case round=>
  obtain ⟨m,out,rfl,hm,hl,HD0,HR,HS,HG⟩:=hrel;rcases Nat.eq_zero_or_pos m with hm0 | hm0
  ·subst hm0
   have e1:out=dig n:=by
    have:=HD0.out;rw [Qax,List.append_nil] at this;exact this.symm
   have HPS:=Qaa (Qab hc3 (by omega))
   have HD:Hid (Sz wr (w.heap.size+1) (pad n) (cnt n)):=by
    have:=HS.out;rw [e1] at this;exact this
   clear e1 HD0 HS;go_wp2_with (first | ((with_reducible refine Qaq HD.out ?_ ?_);exact rfl;simp only [Act.put,List.setIfInBounds_toArray,List.set_cons_succ,List.set_cons_zero]) | ((with_reducible refine Qap HR.out (pad n) (cnt n) HPS.out ?_ ?_ ?_);exact rfl;exact rfl;simp only [Act.put]) | ((with_reducible refine bodyPost_ret (Qdf Tryz.results98 _ _ ?_ (HR.out.row (pad n) (cnt n) HPS.out)) ?_ ?_);exact rfl;exact rfl;exact ⟨rfl,HG.out.row (by omega) _⟩))
  ·have hcp:=Qf5 (show m≠0 by omega);have c1:=HS.out.cnt;have f1:=HS.out.fro out.length;have f2:=HS.out.fro 80;have c2:=HS.out.at (j:=out.length) (by omega);have i1:((out.length:Nat):Int)<80:=by omega
   have hcm:cnt m=1+cnt (m/LB):=by unfold cnt;rw [Qdw m (by omega),List.length_cons,Nat.add_comm]
   have HN:=Qaa (Qpk HD0.out (by omega));have HX:Hid (ext (out++[m%LB])=(ext out).set out.length (m%LB)):=(Qe6 (by omega) _).symm;have e1:(m:Int)%268435456=((m%LB:Nat):Int):=by unfold LB;omega
   have e2:(m:Int)/268435456=((m/LB:Nat):Int):=by unfold LB;omega
   have hu:m%LB<268435456:=Nat.mod_lt _ Qa2;have hq:m/LB<m:=Nat.div_lt_self (by omega) (by decide);have hq2:m/LB<18446744073709551616:=by omega
   generalize m%LB=u at *;generalize hq0:m/LB=q at *;clear hq0;have c4:=(HS.out.set (j:=out.length) (by omega) u).cnt;generalize (ext out).getD out.length 0=z at *;go_wp2_with fail;refine ⟨⟨q,out++[u],by first | rfl | rw [e2],hq2,by simp;omega,HN,(HR.out.other _ (by simp) _).other _ (by simp) _,?_,(HG.out.own (by simp) _).own (by simp) _⟩,by first | (simp [intOf];done) | (simp [intOf];omega)⟩;have:=(HS.out.set (j:=out.length) (by omega) u).setc (out.length+1);rw [<- HX.out] at this
   show Sz _ _ _ _
   simpa using this
structure MuI (a b i:Nat) (cur:List Nat):Prop where
 lim:Lim cur
 len:cur.length=80
 eq:val cur=val ((dig a).take i)*b
 up:∀j,i+cnt b<=j->cur.getD j 0=0
structure MkI (a b i k:Nat) (cur:List Nat) (c:Nat):Prop where
 mul:MulI 80 (i+k) (val ((dig a).take i)*b+LB^i*(dig a).getD i 0*val ((dig b).take k)) cur c
 up:∀j,i+cnt b<=j->cur.getD j 0=0
theorem MuI.start (a b:Nat):MuI a b 0 (ext []):=
 ⟨Qjy Lim.nil,Qdy (by simp),by rw [Qjz];simp [val],fun j _=>by rw [Qpm];simp⟩
theorem MkI.start {a b i:Nat} {cur:List Nat} (h:MuI a b i cur):MkI a b i 0 cur 0:=
 ⟨⟨h.lim,h.len,by rw [h.eq];simp [val],Qa2⟩,h.up⟩
theorem MkI.step {a b i k:Nat} {cur:List Nat} {c:Nat} (h:MkI a b i k cur c) (hk:k<cnt b) (hi:i+cnt b≤80) :
  MkI a b i (k+1) (cur.set (i+k) ((c+(cur.getD (i+k) 0+(dig a).getD i 0*(dig b).getD k 0))%LB)) ((c+(cur.getD (i+k) 0+(dig a).getD i 0*(dig b).getD k 0))/LB):=by
 have l1:=(Qao a).getD i;have l2:=(Qao b).getD k;have hz:(dig a).getD i 0*(dig b).getD k 0<=(LB - 1)*(LB - 1):=Nat.mul_le_mul (by omega) (by omega);have:=h.mul.step _ hz (by omega);have e:=Qgn (dig a) (dig b) ((dig a).getD i 0) i k;rw [Qag] at e;rw [e] at this;refine ⟨this,fun j hj=>?_⟩;refine Eq.trans ?_ (h.up j hj)
 simp [List.getD,show ¬i+k=j by omega]
theorem MkI.done {a b i:Nat} {cur:List Nat} {c:Nat} (h:MkI a b i (cnt b) cur c) (hi:i+cnt b<80):MuI a b (i+1) (cur.set (i+cnt b) c):=by
 have hs:=Qdx cur (i+cnt b) c (by rw [h.mul.len];exact hi);rw [h.up _ (Nat.le_refl _),Nat.mul_zero,Nat.add_zero] at hs;refine ⟨h.mul.lim.set _ _ h.mul.c1,by rw [List.length_set,h.mul.len],?_,?_⟩
 ·rw [hs,h.mul.eq,Qdg b _ (Nat.le_refl _),Qag,Qan,Nat.add_mul]
 ·intro j hj;refine Eq.trans ?_ (h.up j (by omega))
  simp [List.getD,show ¬i+cnt b=j by omega]
theorem MuI.done {a b:Nat} {cur:List Nat} (h:MuI a b (cnt a) cur):cur=pad (a*b):=by
 have e:=h.eq;rw [Qdg a _ (Nat.le_refl _),Qag] at e;rw [<- e];exact Qhf h.lim h.len
theorem Qtx (a b:Nat):cnt (a*b)<=cnt a+cnt b:=by
 refine Qb4 ?_
 have h1:=cnt_lt a;have h2:=cnt_lt b;rw [Nat.pow_add];have h3:a*b<=a*LB^cnt b:=Nat.mul_le_mul_left _ (Nat.le_of_lt h2);have h4:a*LB^cnt b<LB^cnt a*LB^cnt b:=Nat.mul_lt_mul_of_pos_right h1 (pw _);omega
theorem Q2r (a b:Nat) (w:World) (hab:cnt a+cnt b≤80) :
  Calls Tryz.prog 107 #[.agg (szV a),.agg (szV b)] w fun e w'=>e=.returned (.agg (szV (a*b)))/\Old w w':=by
 have ha:cnt a<=80:=by omega
 have hb:cnt b<=80:=by omega
 have HLA:=Qab ha (by omega);have HLB:=Qab hb (by omega);have a80:=Qb2 HLA (cnt a);have HPA:=Qaa HLA;have HPB:=Qaa HLB;clear HLA HLB;unfold szV;go_enter Tryz.func107,Tryz.ntmps107;go_wp2_with fail;clear a80
 go_loopw [11] (fun v W=>∃(i:Nat) (cur:List Nat),i<=cnt a/\v=.int .i64 (i:Int)/\Hid (MuI a b i cur)/\Hid (Sz W w.heap.size (pad a) (cnt a))/\Hid (Sz W (w.heap.size+1) (pad b) (cnt b))/\Hid (Sz W (w.heap.size+1+1) (ext []) 0)/\Hid (Sz W (w.heap.size+1+1+1) cur 0)/\Hid (Old w W)) (fun v _=>cnt a - (intOf v).toNat)
 case atStart=>exact ⟨0,ext [],by omega,rfl,MuI.start _ _,(((Sz.new w _ _ HPA.out).alloc _).alloc _).alloc _,(((Sz.new' _ _ _ _ HPB.out (by simp)).alloc _).alloc _),((Sz.zero _ _ (by simp)).alloc _),Sz.zero _ _ (by simp),((((Old.refl w).alloc _).alloc _).alloc _).alloc _⟩
 case round=>
  obtain ⟨i,cur0,hi,rfl,HI,HSA,HSB,HR,HO,HG⟩:=hrel
  by_cases hlt:i<cnt a
  ·have b80:=HSB.out.cnt;go_wp2_with fail;clear b80
   go_loopw [7,16] (fun cy v W=>∃(k:Nat) (cur:List Nat) (c:Nat),k<=cnt b/\v=.int .i64 (k:Int)/\cy=.int .i64 (c:Int)/\c<268435456/\Hid (MkI a b i k cur c)/\Hid (Sz W w.heap.size (pad a) (cnt a))/\Hid (Sz W (w.heap.size+1) (pad b) (cnt b))/\Hid (Sz W (w.heap.size+1+1) (ext []) 0)/\Hid (Sz W (w.heap.size+1+1+1) cur 0)/\Hid (Old w W)) (fun _ v _=>cnt b - (intOf v).toNat)
   case atStart=>exact ⟨0,cur0,0,by omega,rfl,rfl,by omega,MkI.start HI.out,HSA,HSB,HR,HO,HG⟩
   case round=>
    clear HI HSA HSB HR HO HG;obtain ⟨k,cur,c,hk,rfl,rfl,hc,HI,HSA,HSB,HR,HO,HG⟩:=hrel
    by_cases hlt2:k<cnt b
    ·have i1:(i:Int)<80:=by omega
     have i2:(k:Int)<80:=by omega
     have i3:(i:Int)+(k:Int)<80:=by omega
     have i4:((i:Int)+(k:Int)).toNat=i+k:=by omega
     have c1:=HSA.out.at (j:=i) (by omega);have c2:=HSB.out.at (j:=k) (by omega);have c3:=HO.out.at (j:=i+k) (by omega);have f1:=HO.out.fro (i+k);rw [Qck] at c1 c2;have l1:=(Qao a).getD i;have l2:=(Qao b).getD k;have l3:=HI.out.mul.lim.getD (i+k);have HN:=HI.out.step hlt2 (by omega);have HN':=Qaa HN;have hc1:(c+(cur.getD (i+k) 0+(dig a).getD i 0*(dig b).getD k 0))/LB<268435456:=HN.mul.c1;clear HN;generalize (dig a).getD i 0=x at *;generalize (dig b).getD k 0=y at *;generalize cur.getD (i+k) 0=z at *;have hx:x<268435456:=l1;have hy:y<268435456:=l2;have hz:z<268435456:=l3;clear l1 l2 l3;have hp:x*y<=268435455*268435455:=Nat.mul_le_mul (by omega) (by omega)
     have b1:(x:Int)*(y:Int)<=72057593501057025:=by
      have:=Int.ofNat_le.2 hp;rw [Int.natCast_mul] at this;exact this
     have b0:0<=(x:Int)*(y:Int):=Int.mul_nonneg (Int.natCast_nonneg _) (Int.natCast_nonneg _);have E0:Hid ((x:Int)*(y:Int)=((x*y:Nat):Int)):=(Int.natCast_mul _ _).symm;clear hp;have e1:((c:Int)+((z:Int)+(x:Int)*(y:Int)))%268435456=(((c+(z+x*y))%LB:Nat):Int):=by rw [E0.out];unfold LB;omega
     have e2:((c:Int)+((z:Int)+(x:Int)*(y:Int)))/268435456=(((c+(z+x*y))/LB:Nat):Int):=by rw [E0.out];unfold LB;omega
     generalize (c+(z+x*y))%LB=u at *;generalize (c+(z+x*y))/LB=c' at *;go_wp2_with fail
     go_quiet (fail)
     go_wp2_with fail;exact ⟨⟨k+1,cur.set (i+k) u,c',by omega,by go_num,by first | rfl | rw [e2],hc1,HN',(HSA.out.drew _).other _ (by first | (simp;done) | (simp;omega)) _,(HSB.out.drew _).other _ (by first | (simp;done) | (simp;omega)) _,(HR.out.drew _).other _ (by simp) _,(HO.out.drew _).set (by omega) u,(HG.out.drewN _).own (by simp;omega) _⟩,by simp [intOf];omega⟩
    ·obtain rfl:k=cnt b:=by omega
     have i3:(i:Int)+((cnt b:Nat):Int)<80:=by omega
     have i4:((i:Int)+((cnt b:Nat):Int)).toNat=i+cnt b:=by omega
     have b80:=HSB.out.cnt;have c3:=HO.out.at (j:=i+cnt b) (by omega);have f1:=HO.out.fro (i+cnt b);have HN:=Qaa (HI.out.done (by omega));generalize cur.getD (i+cnt b) 0=z at *;go_wp2_with fail;exact ⟨⟨i+1,cur.set (i+cnt b) c,by omega,by go_num,HN,HSA.out.other _ (by first | (simp;done) | (simp;omega)) _,HSB.out.other _ (by first | (simp;done) | (simp;omega)) _,HR.out.other _ (by simp) _,HO.out.set (by omega) c,HG.out.own (by simp;omega) _⟩,by simp [intOf];omega⟩
  ·obtain rfl:i=cnt a:=by omega
   have a80:=HSA.out.cnt;have b80:=HSB.out.cnt;have HE:=Qaa (Qtx a b);have HPS:=Qaa (Qab HE.out (by omega))
   have HD:Hid (Sz wr (w.heap.size+1+1+1) (pad (a*b)) 0):=by
    have:=HO.out;rw [HI.out.done] at this;exact this
   clear HI HO HSA HSB;go_wp2_with (first | ((with_reducible refine Qaq HD.out ?_ ?_);exact rfl;simp only [Act.put,List.setIfInBounds_toArray,List.set_cons_succ,List.set_cons_zero]) | (go_at_call 105;refine (Qbv (a*b) 0 (cnt a+cnt b) _ HE.out (by omega)).mono ?_;rintro e w5 ⟨rfl,g5⟩;have HR5:=Qaa (HR.out.old g5);have HG5:=Qaa (Old.trans HG.out g5)) | ((with_reducible refine Qap HR5.out (pad (a*b)) (cnt (a*b)) HPS.out ?_ ?_ ?_);exact rfl;exact rfl;simp only [Act.put]) | ((with_reducible refine bodyPost_ret (Qdf Tryz.results107 _ _ ?_ (HR5.out.row (pad (a*b)) (cnt (a*b)) HPS.out)) ?_ ?_);exact rfl;exact rfl;exact ⟨rfl,HG5.out.row (by omega) _⟩))
theorem Qws {a b:Nat} {out:List Nat} {c:Nat} (h:SubI (dig a) (dig b) (cnt a) out c) (hle:b<=a) (hk:cnt a<=80):ext out=pad (a - b)/\cnt (a - b)<=cnt a:=by
 have hd:=h.done (show (dig a).length=cnt a from rfl) (cnt_mono hle) (by rw [Qag,Qag];exact hle)
 have hv:val out=a - b:=by
  have:=Qvp out;rw [hd,Qag,Qag,Qag] at this;exact this.symm
 refine ⟨?_,cnt_mono (Nat.sub_le _ _)⟩;rw [Qhf (Qjy h.lim) (Qdy (by rw [h.len];exact hk)),Qjz,hv]
theorem Qke (a b:Nat) (w:World) (hle:b≤a) (ha:cnt a≤80) :
  Calls Tryz.prog 119 #[.agg (szV a),.agg (szV b)] w fun e w'=>e=.returned (.agg (szV (a - b)))/\Old w w':=by
 have HLA:=Qab ha (by omega);have HLB:=Qab (Nat.le_trans (cnt_mono hle) ha) (by omega);have a80:=Qb2 HLA (cnt a);have HPA:=Qaa HLA;have HPB:=Qaa HLB;clear HLA HLB;unfold szV;go_enter Tryz.func119,Tryz.ntmps119;go_wp2_with fail;clear a80
 go_loopw [6,10] (fun cy i W=>∃(k:Nat) (out:List Nat) (c:Nat),k<=cnt a/\i=.int .i64 (k:Int)/\cy=.int .i64 (-(c:Int))/\c<=1/\Hid (SubI (dig a) (dig b) k out c)/\Hid (Sz W w.heap.size (pad a) (cnt a))/\Hid (Sz W (w.heap.size+1) (pad b) (cnt b))/\Hid (Sz W (w.heap.size+1+1) (ext []) 0)/\Hid (Sz W (w.heap.size+1+1+1) (ext out) 0)/\Hid (Old w W)) (fun _ i _=>cnt a - (intOf i).toNat)
 case atStart=>exact ⟨0,[],0,by omega,rfl,rfl,by omega,SubI.start _ _,(((Sz.new w _ _ HPA.out).alloc _).alloc _).alloc _,(((Sz.new' _ _ _ _ HPB.out (by simp)).alloc _).alloc _),((Sz.zero _ _ (by simp)).alloc _),Sz.zero _ _ (by simp),((((Old.refl w).alloc _).alloc _).alloc _).alloc _⟩
 case round=>
  obtain ⟨k,out,c,hk,rfl,rfl,hc,HI,HSA,HSB,HR,HO,HG⟩:=hrel
  by_cases hlt:k<cnt a
  ·have i1:(k:Int)<80:=by omega
   have c1:=HSA.out.at (j:=k) (by omega);have c2:=HSB.out.at (j:=k) (by omega);have f1:=HO.out.fro k;have c3:=HO.out.at (j:=k) (by omega);rw [Qck] at c1 c2;have l1:=(Qao a).getD k;have l2:=(Qao b).getD k;have HL:=Qaa HI.out.len;have HN1:=Qaa (fun h=>HI.out.stepNo (Qao a) h);have HN2:=Qaa (fun h=>HI.out.stepYes (Qao a) (Qao b) h);generalize (dig a).getD k 0=x at *;generalize (dig b).getD k 0=y at *;generalize (ext out).getD k 0=z at *;have hx:x<268435456:=l1;have hy:y<268435456:=l2;clear l1 l2
   by_cases hle2:c+y<=x
   ·skip
    go_wp2_with fail
    go_quiet (fail)
    have e1:bits .and .i64 (-(c:Int)+((x:Int) - (y:Int))) 268435455=((x - c - y:Nat):Int):=by rw [Qkc];omega
    have e2:(-(c:Int)+((x:Int) - (y:Int)))/268435456=0:=by omega
    have HN':=Qaa (HN1.out hle2);go_wp2_with fail;refine ⟨⟨k+1,out++[x - c - y],0,by omega,by go_num,by first | rfl | simp | (rw [e2];rfl),by omega,HN',(HSA.out.drew _).other _ (by first | (simp;done) | (simp;omega)) _,(HSB.out.drew _).other _ (by first | (simp;done) | (simp;omega)) _,(HR.out.drew _).other _ (by simp) _,?_,(HG.out.drewN _).own (by simp;omega) _⟩,by simp [intOf];omega⟩;have:=(HO.out.drew nq).set (j:=k) (by omega) (x - c - y);rw [<- HL.out,Qe6 (by rw [HL.out];omega)] at this;rw [<- HL.out];exact this
   ·skip
    go_wp2_with fail
    go_quiet (fail)
    have e1:bits .and .i64 (-(c:Int)+((x:Int) - (y:Int))) 268435455=((x+LB - c - y:Nat):Int):=by rw [Qkc];unfold LB;omega
    have e2:(-(c:Int)+((x:Int) - (y:Int)))/268435456 = -1:=by omega
    have HN':=Qaa (HN2.out (by omega));go_wp2_with fail;refine ⟨⟨k+1,out++[x+LB - c - y],1,by omega,by go_num,by first | rfl | simp | (rw [e2];rfl),by omega,HN',(HSA.out.drew _).other _ (by first | (simp;done) | (simp;omega)) _,(HSB.out.drew _).other _ (by first | (simp;done) | (simp;omega)) _,(HR.out.drew _).other _ (by simp) _,?_,(HG.out.drewN _).own (by simp;omega) _⟩,by simp [intOf];omega⟩;have:=(HO.out.drew nq).set (j:=k) (by omega) (x+LB - c - y);rw [<- HL.out,Qe6 (by rw [HL.out];omega)] at this;rw [<- HL.out];exact this
  ·obtain rfl:k=cnt a:=by omega
   have c1:=HSA.out.cnt;obtain ⟨HE1,HE2⟩:=Qws HI.out hle ha;have HE:=Qaa HE2;have HPS:=Qaa (Qab HE2 (by omega))
   have HD:Hid (Sz wr (w.heap.size+1+1+1) (pad (a - b)) 0):=by
    have:=HO.out;rw [HE1] at this;exact this
   clear HE1 HE2 HI HO HSA HSB;go_wp2_with (first | ((with_reducible refine Qaq HD.out ?_ ?_);exact rfl;simp only [Act.put,List.setIfInBounds_toArray,List.set_cons_succ,List.set_cons_zero]) | (go_at_call 105;refine (Qbv (a - b) 0 (cnt a) _ HE.out (by omega)).mono ?_;rintro e w5 ⟨rfl,g5⟩;have HR5:=Qaa (HR.out.old g5);have HG5:=Qaa (Old.trans HG.out g5)) | ((with_reducible refine Qap HR5.out (pad (a - b)) (cnt (a - b)) HPS.out ?_ ?_ ?_);exact rfl;exact rfl;simp only [Act.put]) | ((with_reducible refine bodyPost_ret (Qdf Tryz.results119 _ _ ?_ (HR5.out.row (pad (a - b)) (cnt (a - b)) HPS.out)) ?_ ?_);exact rfl;exact rfl;exact ⟨rfl,HG5.out.row (by omega) _⟩))
theorem Qom (x:Int) (w:World):Calls Tryz.prog 138 #[.int .i64 x] w fun e w'=>e=.returned (.bool false)/\w'=w:=by
 go_enter Tryz.func138,Tryz.ntmps138;go_wp2_with fail;go_ret;exact ⟨by first | rfl | simp,rfl⟩
theorem Qjh (x y:Nat) (w:World):Calls Tryz.prog 125 #[.int .i64 (x:Int),.int .i64 (y:Int)] w fun e w'=>e=.returned (.int .i64 (Qb3 x y))/\w'=w:=by
 have HC:Hid (Qb3 x y=if x<y then -1 else if y<x then 1 else 0):=rfl;generalize Qb3 x y=z at *;rcases Nat.lt_trichotomy x y with h | h | h
 ·have d1:=decide_eq_true h;have HE:Hid (z = -1):=by rw [HC.out,if_pos h];rfl
  clear h HC;go_enter Tryz.func125,Tryz.ntmps125;go_wp2_with (go_at_call 138;refine (Qom _ _).mono ?_;rintro e w' ⟨rfl,rfl⟩);go_ret;exact ⟨congrArg (fun z=>Ending.returned (.int .i64 z)) HE.out.symm,rfl⟩
 ·subst h;have HE:Hid (z=0):=by rw [HC.out,if_neg (by omega),if_neg (by omega)];rfl
  clear HC;go_enter Tryz.func125,Tryz.ntmps125;go_wp2_with (go_at_call 138;refine (Qom _ _).mono ?_;rintro e w' ⟨rfl,rfl⟩);go_ret;exact ⟨congrArg (fun z=>Ending.returned (.int .i64 z)) HE.out.symm,rfl⟩
 ·have d1:decide (x<y)=false:=decide_eq_false (by omega);have d2:=decide_eq_true h;have HE:Hid (z=1):=by rw [HC.out,if_neg (by omega),if_pos h];rfl
  clear h HC;go_enter Tryz.func125,Tryz.ntmps125;go_wp2_with (go_at_call 138;refine (Qom _ _).mono ?_;rintro e w' ⟨rfl,rfl⟩);go_ret;exact ⟨congrArg (fun z=>Ending.returned (.int .i64 z)) HE.out.symm,rfl⟩
theorem Q0q {a b:Nat} (h:cnt a≠cnt b):Qb3 (cnt a) (cnt b)=Qb3 a b:=by
 rcases Nat.lt_or_gt_of_ne h with h1 | h1
 ·have:=Qfh (Qbm a) (Qbm b) h1;rw [Qag,Qag] at this;unfold Qb3;rw [if_pos h1,if_pos this]
 ·have:=Qfh (Qbm b) (Qbm a) h1;rw [Qag,Qag] at this;unfold Qb3;rw [if_neg (by omega),if_pos h1,if_neg (by omega),if_pos this]
theorem Q0r {a b m:Nat} (hl:(dig a).length=(dig b).length) (hm:m<cnt a) (hd:(dig a).drop (m+1)=(dig b).drop (m+1)) (hne:(dig a).getD m 0≠(dig b).getD m 0):Qb3 ((dig a).getD m 0) ((dig b).getD m 0)=Qb3 a b:=by
 have h1:=Qph (i:=m) (Qao a) hm hl hd;have h2:=Qph (i:=m) (Qao b) (by unfold cnt at hm;omega) hl.symm hd.symm;rw [Qag,Qag] at h1 h2;rcases Nat.lt_or_gt_of_ne hne with h | h
 ·have:=h1 h;unfold Qb3;rw [if_pos h,if_pos this]
 ·have:=h2 h;unfold Qb3;rw [if_neg (by omega),if_pos h,if_neg (by omega),if_pos this]
theorem Qgs (a b:Nat) (w:World) (ha:cnt a≤80) (hb:cnt b≤80) :
  Calls Tryz.prog 109 #[.agg (szV a),.agg (szV b)] w fun e w'=>e=.returned (.int .i64 (Qb3 a b))/\Old w w':=by
 have HLA:=Qab ha (by omega);have HLB:=Qab hb (by omega);have a80:=Qb2 HLA (cnt a);have b80:=Qb2 HLB (cnt b);have HPA:=Qaa HLA;have HPB:=Qaa HLB;clear HLA HLB;unfold szV
 by_cases hlen:cnt a=cnt b
 ·have d1:((cnt a:Int) != (cnt b:Int))=false:=by simp;omega
  have HL:Hid ((dig a).length=(dig b).length):=hlen;clear hlen;go_enter Tryz.func109,Tryz.ntmps109;go_wp2_with fail;clear a80 b80 d1
  go_loopw [5] (fun i W=>∃k:Nat,k<=cnt a/\i=.int .i64 ((k:Int) - 1)/\Hid ((dig a).drop k=(dig b).drop k)/\Hid (Sz W w.heap.size (pad a) (cnt a))/\Hid (Sz W (w.heap.size+1) (pad b) (cnt b))/\Hid (Old w W)) (fun i _=>(intOf i+1).toNat)
  case atStart=>exact ⟨cnt a,Nat.le_refl _,rfl,(by show (dig a).drop (dig a).length=(dig b).drop (dig a).length;rw [List.drop_length,HL.out,List.drop_length]),(Sz.new w _ _ HPA.out).alloc _,Sz.new' _ _ _ _ HPB.out (by simp),((Old.refl w).alloc _).alloc _⟩
  case round=>
   obtain ⟨k,hk,rfl,HD,HSA,HSB,HG⟩:=hrel;rcases Nat.eq_zero_or_pos k with hk0 | hk0
   ·subst hk0
    have HE:Hid (Qb3 a b=0):=by
     have h1:dig a=dig b:=by simpa using HD.out
     have h2:a=b:=by rw [<- Qag a,h1,Qag]
     rw [h2]
     show Qb3 b b=0
     unfold Qb3;rw [if_neg (by omega),if_neg (by omega)]
    go_wp2_with fail;go_ret;exact ⟨congrArg (fun z=>Ending.returned (.int .i64 z)) HE.out.symm,HG.out⟩
   ·obtain ⟨m,rfl⟩:∃m,k=m+1:=⟨k - 1,by omega⟩
    have c1:=HSA.out.at (j:=m) (by omega);have c2:=HSB.out.at (j:=m) (by omega);rw [Qck] at c1 c2;have i1:(m:Int)<80:=by omega
    have em:((m+1:Nat):Int) - 1=(m:Int):=by omega
    rw [em];clear em;have HT:=Qaa (fun h=>Q0r HL.out (by omega) HD.out h);have HE:=Qaa (fun h=>Qln (by unfold cnt at hk;omega) HL.out HD.out h);clear HD;generalize (dig a).getD m 0=x at *;generalize (dig b).getD m 0=y at *
    by_cases hxy:x=y
    ·have HE3:=Qaa (HE.out hxy);have d1:((x:Int) != (y:Int))=false:=by simp;omega
     clear HE HT hxy;go_wp2_with fail
     go_quiet (fail)
     go_wp2_with fail;exact ⟨⟨m,by omega,rfl,HE3,HSA.out.drew _,HSB.out.drew _,HG.out.drewN _⟩,by first | (simp [intOf];done) | (simp [intOf];omega)⟩
    ·have HT2:=Qaa (HT.out hxy);have d1:((x:Int) != (y:Int))=true:=by simp;omega
     clear HE HT hxy;go_wp2_with fail
     go_quiet (fail)
     have c1':(wr.drewN nq).cell? ⟨w.heap.size,m,none⟩=some (.int .i64 (x:Int)):=c1
     have c2':(wr.drewN nq).cell? ⟨w.heap.size+1,m,none⟩=some (.int .i64 (y:Int)):=c2
     have HG2:=Qaa (HG.out.drewN nq);clear c1 c2 HG HSA HSB;generalize wr.drewN nq=w2 at c1' c2' HG2 ⊢;go_wp2_with fail
     go_quiet ((go_at_call 125;exact Calls.quiet_of_same (Qjh _ _ _)))
     go_wp2_with fail;go_ret;exact ⟨congrArg (fun z=>Ending.returned (.int .i64 z)) HT2.out,HG2.out.drewN _⟩
 ·have d1:((cnt a:Int) != (cnt b:Int))=true:=by simp;omega
  have HE:=Q0q hlen;have HE':=Qaa HE;clear HE hlen;go_enter Tryz.func109,Tryz.ntmps109;go_wp2_with (go_at_call 125;refine (Qjh _ _ _).mono ?_;rintro e w' ⟨rfl,rfl⟩);go_ret;exact ⟨congrArg (fun z=>Ending.returned (.int .i64 z)) HE'.out,((Old.refl w).alloc _).alloc _⟩
structure DwI (a d k:Nat) (cur:List Nat) (r:Nat):Prop where
 lim:Lim cur
 len:cur.length=80
 eq:val cur=val ((dig a).take k)+LB^k*(val ((dig a).drop k)/d)
 lo:∀j,j<k->cur.getD j 0=(dig a).getD j 0
 r_eq:r=val ((dig a).drop k)%d
theorem DwI.start (a d:Nat) (ha:cnt a<=80):DwI a d (cnt a) (pad a) 0:=
 ⟨Qf4 a,Qe8 ha,by rw [Qe7,Qdg a _ (Nat.le_refl _),Qag];unfold cnt;simp [val],fun j _=>Qck a j,by unfold cnt;simp [val]⟩
theorem DwI.step {a d j:Nat} {cur:List Nat} {r:Nat} (h:DwI a d (j+1) cur r) (hd:0<d) (hj:j<cnt a) (ha:cnt a≤80) :
  DwI a d j (cur.set j ((r*LB+(dig a).getD j 0)/d)) ((r*LB+(dig a).getD j 0)%d)/\(r*LB+(dig a).getD j 0)/d<LB:=by
 have hr:=h.r_eq;have h2:=(Qao a).getD j;have h1:r<d:=by rw [hr];exact Nat.mod_lt _ hd
 have hlt:(r*LB+(dig a).getD j 0)/d<LB:=by
  refine Nat.div_lt_of_lt_mul ?_
  have h3:(r+1)*LB<=d*LB:=Nat.mul_le_mul h1 (Nat.le_refl _);rw [Nat.add_mul] at h3;omega
 have f:=Qlr (val ((dig a).drop (j+1))) d ((dig a).getD j 0) hd;rw [<- Qby (dig a) j hj,<- hr] at f;have hs:=Qdx cur j ((r*LB+(dig a).getD j 0)/d) (by rw [h.len];omega);have e:=h.eq;refine ⟨⟨h.lim.set _ _ hlt,by rw [List.length_set,h.len],?_,?_,f.2.symm⟩,hlt⟩
 ·rw [h.lo j (by omega)] at hs;rw [Qan,Nat.pow_succ] at e;rw [f.1,Nat.mul_add,<- Nat.mul_assoc];omega
 ·intro i hi;rw [<- h.lo i (by omega)];simp [List.getD,show ¬j=i by omega]
theorem DwI.done {a d:Nat} {cur:List Nat} {r:Nat} (h:DwI a d 0 cur r):cur=pad (a/d)/\r=a%d:=by
 have e:=h.eq;have hr:=h.r_eq;simp [val,Qag] at e hr;exact ⟨by rw [<- e];exact Qhf h.lim h.len,hr⟩
theorem Qkf (a d:Nat) (w:World) (ha:cnt a≤80) (hd:0<d) (hd2:d≤268435456) :
  Calls Tryz.prog 73 #[.agg (szV a),.int .i64 (d:Int)] w fun e w'=>e=.returned (.tuple #[.agg (szV (a/d)),.int .i64 ((a%d:Nat):Int)])/\Old w w':=by
 have HLA:=Qab ha (by omega);have a80:=Qb2 HLA (cnt a);have HPA:=Qaa HLA;clear HLA;unfold szV;go_enter Tryz.func73,Tryz.ntmps73;go_wp2_with fail;clear a80
 go_loopw [6,7] (fun rs i W=>∃(k:Nat) (cur:List Nat) (r:Nat),k<=cnt a/\i=.int .i64 ((k:Int) - 1)/\rs=.int .i64 (r:Int)/\r<d/\Hid (DwI a d k cur r)/\Hid (Sz W w.heap.size cur (cnt a))/\Hid (Sz W (w.heap.size+1) (ext []) 0)/\Hid (Old w W)) (fun _ i _=>(intOf i+1).toNat)
 case atStart=>exact ⟨cnt a,pad a,0,Nat.le_refl _,rfl,rfl,hd,DwI.start _ _ ha,(Sz.new w _ _ HPA.out).alloc _,Sz.zero _ _ (by simp),((Old.refl w).alloc _).alloc _⟩
 case round=>
  obtain ⟨k,cur,r,hk,rfl,rfl,hr,HI,HS,HR,HG⟩:=hrel;rcases Nat.eq_zero_or_pos k with hk0 | hk0
  ·subst hk0;have c1:=HS.out.cnt;obtain ⟨HE1,HE3⟩:=HI.out.done;have HE:Hid (cnt (a/d)≤cnt a):=cnt_mono (Nat.div_le_self _ _);have HPS:=Qaa (Qab HE.out (by omega))
   have HD:Hid (Sz wr w.heap.size (pad (a/d)) (cnt a)):=by
    have:=HS.out;rw [HE1] at this;exact this
   subst HE3;clear HE1 HI HS;go_wp2_with (first | ((with_reducible refine Qaq HD.out ?_ ?_);exact rfl;simp only [Act.put,List.setIfInBounds_toArray,List.set_cons_succ,List.set_cons_zero]) | (go_at_call 105;refine (Qbv (a/d) (cnt a) (cnt a) _ HE.out (by omega)).mono ?_;rintro e w5 ⟨rfl,g5⟩;have HR5:=Qaa (HR.out.old g5);have HG5:=Qaa (Old.trans HG.out g5)) | ((with_reducible refine Qap HR5.out (pad (a/d)) (cnt (a/d)) HPS.out ?_ ?_ ?_);exact rfl;exact rfl;simp only [Act.put]) | ((with_reducible refine bodyPost_ret (Q0l (y:=.int .i64 ((a%d:Nat):Int)) Tryz.results73 _ _ ?_ ?_ (HR5.out.row (pad (a/d)) (cnt (a/d)) HPS.out)) ?_ ?_);exact rfl;exact rfl;exact rfl;exact ⟨rfl,HG5.out.row (by omega) _⟩))
  ·obtain ⟨j,rfl⟩:∃j,k=j+1:=⟨k - 1,by omega⟩
   have i0:((j+1:Nat):Int) - 1=(j:Int):=by omega
   rw [i0];have i1:(j:Int)<80:=by omega
   have c1:=HS.out.at (j:=j) (by omega);rw [HI.out.lo j (by omega)] at c1;have f1:=HS.out.fro j;have l1:=(Qao a).getD j;obtain ⟨HN,HQ⟩:=HI.out.step hd (by omega) ha;have HN':=Qaa HN;have hr1:(r*LB+(dig a).getD j 0)%d<d:=Nat.mod_lt _ hd;clear HN HQ i0;generalize (dig a).getD j 0=x at *;have hx:x<268435456:=l1;clear l1;have hdn:¬d=0:=by omega
   have hnn:(0:Int)<=(r:Int)*268435456+(x:Int):=by omega
   have e1:((r:Int)*268435456+(x:Int))/(d:Int)=(((r*LB+x)/d:Nat):Int):=by
    rw [Int.natCast_ediv,Int.natCast_add,Int.natCast_mul];rfl
   have e2:((r:Int)*268435456+(x:Int))%(d:Int)=(((r*LB+x)%d:Nat):Int):=by
    rw [Int.natCast_emod,Int.natCast_add,Int.natCast_mul];rfl
   generalize (r*LB+x)/d=u at *;generalize (r*LB+x)%d=r' at *;go_wp2_with fail;exact ⟨⟨j,cur.set j u,r',by omega,rfl,by first | rfl | rw [e2],hr1,HN',HS.out.set (by omega) u,HR.out.other _ (by simp) _,HG.out.own (by simp) _⟩,by first | (simp [intOf];done) | (simp [intOf];omega)⟩
structure But (q:Nat) (w w':World):Prop where
 os:w'.os=w.os
 tape:w'.tape=w.tape
 output:w'.output=w.output
 size:w.heap.size<=w'.heap.size
 block:∀k,k<w.heap.size->k≠q->w'.heap[k]? = w.heap[k]?
theorem But.of_old {q:Nat} {w w':World} (h:Old w w'):But q w w':=⟨h.os,h.tape,h.output,h.size,fun k hk _=>h.block k hk⟩
theorem But.trans {q:Nat} {a b c:World} (h:But q a b) (g:But q b c):But q a c:=
 ⟨g.os.trans h.os,g.tape.trans h.tape,g.output.trans h.output,Nat.le_trans h.size g.size,fun k hk hne=>(g.block k (Nat.lt_of_lt_of_le hk h.size) hne).trans (h.block k hk hne)⟩
theorem But.drew {q:Nat} {a b:World} (h:But q a b) (n:Nat):But q a (b.drewN n):=⟨h.os,h.tape,h.output,h.size,h.block⟩
theorem But.set {q:Nat} {a b:World} (h:But q a b) (j:Nat) (v:Value):But q a (b.setCell ⟨q,j,none⟩ v):=
 h.trans ⟨rfl,rfl,rfl,by simp,fun k hk hne=>heap_setCell_other b _ k v hne⟩
theorem But.old {q:Nat} {w0 a b:World} (h:But q a b) (g:Old w0 a) (hq:w0.heap.size<=q):Old w0 b:=
 ⟨h.os.trans g.os,h.tape.trans g.tape,h.output.trans g.output,Nat.le_trans g.size h.size,fun k hk=>(h.block k (Nat.lt_of_lt_of_le hk g.size) (by omega)).trans (g.block k hk)⟩
theorem Sz.but {q:Nat} {a b:World} {g:Nat} {ls:List Nat} {c:Nat} (h:Sz a g ls c) (t:But q a b) (hg:g≠q):Sz b g ls c:=⟨by rw [t.block g h.lt hg];exact h.blk,h.len⟩
theorem Qmq (v i:Nat):(dig v).getD i 0<268435456:=(Qao v).getD i
theorem Qgc (M v p q cc:Nat) (o T:Int) (w:World) (hs:Sz w q (pad M) cc) (hM:M<LB^(p+cnt v+1)) (hp:p+cnt v≤79) (ho1 : -1≤o) (ho2:o≤268435457) (hT:T=(M:Int) - o*((LB^p*v:Nat):Int)) :
  Calls Tryz.prog 158 #[.pointer (some ⟨q,0,none⟩),.agg (szV v),.int .i64 o,.int .i64 (p:Int)] w fun e w'=>e=.returned (.bool (decide (0<=T)))/\Sz w' q (pad (T%((LB^(p+cnt v+1):Nat):Int)).toNat) cc/\But q w w':=by
 have HS0:=Qaa hs;have HM:=Qaa hM;have HTT:=Qaa hT;have hcM:cnt M<=80:=by have:=Qb4 hM;omega
 have hql:=hs.lt;have HLV:=Qab (n:=v) (k:=80) (by omega) (by omega);have a80:=Qb2 HLV (cnt v);have HPV:=Qaa HLV;clear hs hM hT HLV;unfold szV;go_enter Tryz.func158,Tryz.ntmps158;go_wp2_with fail;clear a80
 go_loopw [9,14] (fun cy i W=>∃(k:Nat) (cur:List Nat) (c:Int),k<=cnt v/\i=.int .i64 (k:Int)/\cy=.int .i64 c/\(-268435458<=c/\c<=1)/\Hid (TkI M (dig v) o p k cur c)/\Hid (Sz W w.heap.size (pad v) (cnt v))/\Hid (Sz W q cur cc)/\Hid (But q w W)) (fun _ i _=>cnt v - (intOf i).toNat)
 case atStart=>exact ⟨0,pad M,0,by omega,rfl,rfl,by omega,TkI.start _ _ _ _ hcM,Sz.new w _ _ HPV.out,HS0.out.alloc _,But.of_old ((Old.refl w).alloc _)⟩
 case round=>
  obtain ⟨k,cur,c,hk,rfl,rfl,⟨hc0,hc1⟩,HI,HSV,HSQ,HG⟩:=hrel
  by_cases hlt:k<cnt v
  ·have i1:(k:Int)<80:=by omega
   have i2:(p:Int)+(k:Int)<80:=by omega
   have i3:((p:Int)+(k:Int)).toNat=p+k:=by omega
   have c1:=HSV.out.at (j:=k) (by omega);have c2:=HSQ.out.at (j:=p+k) (by omega);have f1:=HSQ.out.fro (p+k);rw [Qck] at c1;have l1:=Qmq v k;have l2:=HI.out.lim.getD (p+k);have HN:=HI.out.step (Qao v) ho1 ho2 (by omega);have HN':=Qaa HN;have hcl : -268435458<=(c+(cur.getD (p+k) 0:Int) - o*((dig v).getD k 0:Int))/268435456:=HN.lo;have hch:=HN.hi;clear HN;generalize (dig v).getD k 0=x at *;generalize cur.getD (p+k) 0=y at *;clear l2
   have b0 : -268435456<=o*(x:Int):=by
    have:=Int.mul_le_mul_of_nonneg_right ho1 (Int.natCast_nonneg x);omega
   have b1:o*(x:Int)<=72057594306363393:=by
    have h1:=Int.mul_le_mul_of_nonneg_right ho2 (Int.natCast_nonneg x);omega
   have e1:bits .and .i64 (c+((y:Int) - o*(x:Int))) 268435455=(((c+(y:Int) - o*(x:Int))%268435456).toNat:Int):=by
    rw [Qkc,show c+((y:Int) - o*(x:Int))=c+(y:Int) - o*(x:Int) by omega];exact (Int.toNat_of_nonneg (Int.emod_nonneg _ (by decide))).symm
   have e2:(c+((y:Int) - o*(x:Int)))/268435456=(c+(y:Int) - o*(x:Int))/268435456:=by
    rw [show c+((y:Int) - o*(x:Int))=c+(y:Int) - o*(x:Int) by omega]
   generalize hu:((c+(y:Int) - o*(x:Int))%268435456).toNat=u at *;generalize hcc:(c+(y:Int) - o*(x:Int))/268435456=c' at *;clear hu hcc;go_wp2_with fail
   go_quiet (fail)
   go_wp2_with fail;exact ⟨⟨k+1,cur.set (p+k) u,c',by omega,by go_num,by first | rfl | rw [e2],by omega,HN',(HSV.out.drew _).other _ (by show w.heap.size≠q;omega) _,(HSQ.out.drew _).set (by omega) u,(HG.out.drew _).set _ _⟩,by simp [intOf];omega⟩
  ·obtain rfl:k=cnt v:=by omega
   have i2:(p:Int)+((cnt v:Nat):Int)<80:=by omega
   have i3:((p:Int)+((cnt v:Nat):Int)).toNat=p+cnt v:=by omega
   have c1:=HSV.out.cnt;have c2:=HSQ.out.at (j:=p+cnt v) (by omega);have f1:=HSQ.out.fro (p+cnt v);have l2:=HI.out.lim.getD (p+cnt v);obtain ⟨HD1,HD2⟩:=HI.out.done (v:=v) (by rw [Qdg v _ (Nat.le_refl _),Qag]) HM.out (by omega);rw [<- HTT.out] at HD1 HD2;have HQ:=HSQ.out.set (j:=p+cnt v) (by omega) ((c+(cur.getD (p+cnt v) 0:Int))%268435456).toNat;rw [HD2] at HQ
   have e1:bits .and .i64 (c+(cur.getD (p+cnt v) 0:Int)) 268435455=(((c+(cur.getD (p+cnt v) 0:Int))%268435456).toNat:Int):=by
    rw [Qkc];exact (Int.toNat_of_nonneg (Int.emod_nonneg _ (by decide))).symm
   have HB:Hid (decide (0<=c+(cur.getD (p+cnt v) 0:Int))=decide (0<=T)):=decide_eq_decide.2 HD1;generalize ((c+(cur.getD (p+cnt v) 0:Int))%268435456).toNat=u at *;generalize cur.getD (p+cnt v) 0=y at *;have hy:y<268435456:=l2;have HQ':=Qaa HQ;clear HD1 HD2 HQ l2;go_wp2_with fail;go_ret;exact ⟨congrArg (fun z=>Ending.returned (.bool z)) HB.out,HQ'.out,HG.out.set _ _⟩
end Go.Proofs.YthcidnnkakppcaaGreatDoor
