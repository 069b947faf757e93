/- Proved: what its theorems say. -/
import Derived.Test.YtejhpljichmmpaaGreatDoorNi17
import Derived.Test.YtejhpljichmmpaaGreatDoorNi18
import Derived.Test.YtejhpljichmmpaaGreatDoorNi19
import Derived.Test.YtejhpljichmmpaaGreatDoorNi36
import Derived.Test.YtejhpljichmmpaaGreatDoorLenW
set_option linter.unusedVariables false
set_option linter.unusedSimpArgs false
set_option maxHeartbeats 4000000
set_option maxRecDepth 100000
namespace Go.Proofs.YtejhpljichmmpaaGreatDoor
open Go.ChangeShapes Go.WideShapes Go.ChangeAt Go.RowKit
open M2
def Qae (ps:List Nat):Nat:=ps.foldl (fun a p=>a*p) 1
theorem Qi3 (ps:List Nat) (p:Nat):Qae (ps++[p])=Qae ps*p:=by simp [Qae,List.foldl_append]
theorem Qeh (ps:List Nat) (k:Nat) (h:k<ps.length):Qae (ps.take (k+1))=Qae (ps.take k)*ps.getD k 0:=by
 rw [<- Qi3]
 congr 1
 rw [List.take_add_one]
 congr 1
 simp [List.getD,h]
theorem Qjt (ps:List Nat) (hb:∀p∈ps,p<=268435456):∀k,k<=ps.length->Qae (ps.take k)<=LB^k
 | 0,_=>by simp [Qae]
 | k+1,h=>by
   rw [Qeh ps k (by omega),Nat.pow_succ];have h1:=Qjt ps hb k (by omega)
   have h2:ps.getD k 0<=LB:=by
    have:ps.getD k 0∈ps:=by simp [List.getD,show k<ps.length by omega]
    exact hb _ this
   exact Nat.mul_le_mul h1 h2
theorem Qfb (ps:List Nat) (hb:∀p∈ps,p<=268435456) (k:Nat) (h:k<=ps.length):cnt (Qae (ps.take k))<=k+1:=by
 refine Qce (Nat.lt_of_le_of_lt (Qjt ps hb k h) ?_);rw [Nat.pow_succ];have h1:0<LB^k:=pw k;have h2:LB^k*2<=LB^k*LB:=Nat.mul_le_mul_left _ (by decide);omega
theorem Qt6 (a p:Nat) (w:World) (ha:cnt a<=40) (hp:p<=268435456) :
 Calls Tryz.prog 168 #[.agg (szV a),.int .i64 (p:Int)] w fun e w'=>e=.returned (.agg (szV (a*p)))/\Old w w':=by
 have HPA:Hid ((pad a).length=80):=Qad ha (by omega);have c:=fun W=>Qdj a p 0 W (by omega) hp (by omega)
 rw [Nat.add_zero] at c
 have HPR:Hid ((pad (a*p)).length=80):=by
  have h1:cnt (a*p)<=41:=by
   refine Qce ?_
   have h2:=cnt_lt a;have h3:LB^cnt a<=LB^40:=Nat.pow_le_pow_right Qbb ha
   have h4:a*p<LB^40*LB:=by
    rcases Nat.eq_zero_or_pos p with h0 | h0
    ·subst h0;simp;exact Nat.mul_pos (pw 40) Qbb
    ·exact Nat.mul_lt_mul_of_lt_of_le (by omega) hp Qbb
   rw [Nat.pow_succ];exact h4
  exact Qad h1 (by omega)
 have H1:Hid (Sz ((w.alloc (.cells (szA (pad a) (cnt a)) 120)).alloc (.cells Tryz.zeroCells120 120)) w.heap.size (pad a) (cnt a)):=(Sz.new w _ _ HPA.out).alloc _;have HR:Hid (Sz ((w.alloc (.cells (szA (pad a) (cnt a)) 120)).alloc (.cells Tryz.zeroCells120 120)) (w.heap.size+1) (ext []) 0):=Sz.zero _ _ (by simp);have HG:Hid (Old w ((w.alloc (.cells (szA (pad a) (cnt a)) 120)).alloc (.cells Tryz.zeroCells120 120))):=((Old.refl w).alloc _).alloc _;unfold szV at *;generalize a*p=r at *;go_enter Tryz.func168,Tryz.ntmps168;go_wp2_with (first | ((with_reducible refine Qax H1.out ?_ ?_);exact rfl;simp only [Act.put,List.setIfInBounds_toArray,List.set_cons_succ,List.set_cons_zero]) | (go_at_call 169;refine (c _).mono ?_;rintro e w5 ⟨rfl,g5⟩;have HR5:Hid (Sz w5 (w.heap.size+1) (ext []) 0):=HR.out.old g5;have HG5:Hid (Old w w5):=Old.trans HG.out g5;clear g5) | ((with_reducible refine Qa0 HR5.out (pad r) (cnt r) HPR.out ?_ ?_ ?_);exact rfl;exact rfl;simp only [Act.put]) | ((with_reducible refine bodyPost_ret (Qdi Tryz.results168 _ _ ?_ (HR5.out.row (pad r) (cnt r) HPR.out)) ?_ ?_);exact rfl;exact rfl;exact ⟨rfl,HG5.out.row (by omega) _⟩))
theorem Qzl (ps:List Nat) (v:Value) (w:World) (hv:Row w v (toZ ps)) (hl:ps.length<=6) (hb:∀p∈ps,p<=268435456) :
 Calls Tryz.prog 167 #[.func (.func 168) #[] #[],.agg (szV 1),v] w fun e w'=>e=.returned (.agg (szV (Qae ps)))/\Old w w':=by
 have HP1:Hid ((pad 1).length=80):=Qad (n:=1) (k:=3) (Qeg (by omega)) (by omega);have H1:Hid (Sz ((w.alloc (.cells (szA (pad 1) (cnt 1)) 120)).alloc (.cells Tryz.zeroCells120 120)) w.heap.size (pad 1) (cnt 1)):=(Sz.new w _ _ HP1.out).alloc _;have HZ:Hid (Sz (((w.alloc (.cells (szA (pad 1) (cnt 1)) 120)).alloc (.cells Tryz.zeroCells120 120)).alloc (.cells Tryz.zeroCells120 120)) (w.heap.size+1+1) (ext []) 0):=Sz.zero _ _ (by simp);have HY:Hid (Sz (((w.alloc (.cells (szA (pad 1) (cnt 1)) 120)).alloc (.cells Tryz.zeroCells120 120)).alloc (.cells Tryz.zeroCells120 120)) (w.heap.size+1) (ext []) 0):=(Sz.zero _ _ (by simp)).alloc _;have HG0:Hid (Old w (((w.alloc (.cells (szA (pad 1) (cnt 1)) 120)).alloc (.cells Tryz.zeroCells120 120)).alloc (.cells Tryz.zeroCells120 120))):=(((Old.refl w).alloc _).alloc _).alloc _;have HC:Hid (∀k,k<=ps.length->cnt (Qae (ps.take k))<=7):=fun k h=>Nat.le_trans (Qfb ps hb k h) (by omega)
 have HB:Hid (∀p∈ps,p<=268435456):=hb;have HN:Hid (Qae (ps.take 0)=1):=rfl;have HV:Hid (Row w v (toZ ps)):=hv;obtain ⟨r,hr⟩:∃r,Qae ps=r:=⟨_,rfl⟩
 rw [hr];have HRR:Hid (Qae ps=r):=hr;clear hr;obtain ⟨va,vc,rfl⟩:∃a c,v=.slice a ps.length c:=by have:=hv.slice;rwa [Qau] at this
 clear hb hv;unfold szV;go_enter Tryz.func167,Tryz.ntmps167;go_wp2_with (first | ((with_reducible refine Qax H1.out ?_ ?_);exact rfl;simp only [Act.put,List.setIfInBounds_toArray,List.set_cons_succ,List.set_cons_zero]) | ((with_reducible refine Qa0 HZ.out (pad 1) (cnt 1) HP1.out ?_ ?_ ?_);exact rfl;exact rfl;simp only [Act.put]))
 go_loopw [13] (fun i W=>∃k:Nat,k<=ps.length/\i=.int .i64 k/\Hid (Sz W (w.heap.size+1+1) (pad (Qae (ps.take k))) (cnt (Qae (ps.take k))))/\Hid (Sz W (w.heap.size+1) (ext []) 0)/\Hid (Old w W)) (fun i _=>ps.length - (intOf i).toNat)
 case atStart=>exact ⟨0,by omega,rfl,HZ.out.row (pad 1) (cnt 1) HP1.out,HY.out.otherRow (by omega) _,HG0.out.row (by omega) _⟩
 case round=>
  obtain ⟨k,hk,rfl,HS,HR,HG⟩:=hrel;clear H1 HZ HY HG0
  by_cases hlt:k<ps.length
  ·have d1:decide ((k:Int)<(ps.length:Int))=true:=by simp;omega
   obtain ⟨b,o,rfl,hb,hc⟩:∃b o,va=some ⟨b,o,none⟩/\b<w.heap.size/\∀j,j<ps.length->w.cell? ⟨b,o+j,none⟩=some (.int .i64 ((ps.getD j 0:Nat):Int)):=by
    rcases HV.out with ⟨a',cap',e,e2⟩ | ⟨b,o,cap',e,hb,h0,hc⟩
    ·have:=congrArg List.length e2;rw [Qau] at this;simp only [List.length_nil] at this;omega
    ·simp only [Value.slice.injEq] at e;rw [Qau] at hc;exact ⟨b,o,e.1,hb,fun j hj=>by rw [hc j hj,Qcb]⟩
   have c1:wr.cell? ⟨b,o+k,none⟩=some (.int .i64 ((ps.getD k 0:Nat):Int)):=(HG.out.cell (p:=⟨b,o+k,none⟩) hb).trans (hc k hlt)
   have hpb:ps.getD k 0<=268435456:=HB.out _ (by simp [List.getD,hlt]);have HE:Hid (Qae (ps.take (k+1))=Qae (ps.take k)*ps.getD k 0):=Qeh ps k hlt;have HC1:Hid (cnt (Qae (ps.take k))<=40):=Nat.le_trans (HC.out k hk) (by omega)
   have HC2:Hid ((pad (Qae (ps.take k)*ps.getD k 0)).length=80):=by
    have:=HC.out (k+1) hlt;rw [HE.out] at this;exact Qad this (by omega)
   have HF:Hid (∀W,Sz W (w.heap.size+1+1) (pad (Qae (ps.take k)*ps.getD k 0)) (cnt (Qae (ps.take k)*ps.getD k 0))->Sz W (w.heap.size+1+1) (pad (Qae (ps.take (k+1)))) (cnt (Qae (ps.take (k+1))))):=fun W h=>by rw [HE.out];exact h
   have ct:=fun W=>Qt6 (Qae (ps.take k)) (ps.getD k 0) W HC1.out hpb
   clear hc HE HC1;generalize Qae (ps.take k)*ps.getD k 0=y at *;generalize Qae (ps.take k)=q at *;generalize ps.getD k 0=p at *;unfold szV at ct;go_wp2_with (first | ((with_reducible refine Qax HS.out ?_ ?_);exact rfl;simp only [Act.put,List.setIfInBounds_toArray,List.set_cons_succ,List.set_cons_zero]) | (go_at_call 168;refine (ct _).mono ?_;rintro e w5 ⟨rfl,g5⟩;have HS5:Hid (Sz w5 (w.heap.size+1+1) (pad q) (cnt q)):=HS.out.old g5;have HR5:Hid (Sz w5 (w.heap.size+1) (ext []) 0):=HR.out.old g5;have HG5:Hid (Old w w5):=Old.trans HG.out g5;clear g5) | ((with_reducible refine Qa0 HS5.out (pad y) (cnt y) HC2.out ?_ ?_ ?_);exact rfl;exact rfl;simp only [Act.put]));exact ⟨⟨k+1,by omega,by go_num,HF.out _ (HS5.out.row (pad y) (cnt y) HC2.out),HR5.out.otherRow (by omega) _,HG5.out.row (by omega) _⟩,by simp [intOf];omega⟩
  ·have d1:decide ((k:Int)<(ps.length:Int))=false:=by simp;omega
   obtain rfl:k=ps.length:=by omega
   have HL:Hid ((pad r).length=80):=by
    have:=HC.out ps.length (Nat.le_refl _);rw [List.take_length,HRR.out] at this;exact Qad this (by omega)
   have HS2:Hid (Sz wr (w.heap.size+1+1) (pad r) (cnt r)):=by
    have:=HS.out;rw [List.take_length,HRR.out] at this;exact this
   clear HS;go_wp2_with (first | ((with_reducible refine Qax HS2.out ?_ ?_);exact rfl;simp only [Act.put,List.setIfInBounds_toArray,List.set_cons_succ,List.set_cons_zero]) | ((with_reducible refine Qa0 HR.out (pad r) (cnt r) HL.out ?_ ?_ ?_);exact rfl;exact rfl;simp only [Act.put]) | ((with_reducible refine bodyPost_ret (Qdi Tryz.results167 _ _ ?_ (HR.out.row (pad r) (cnt r) HL.out)) ?_ ?_);exact rfl;exact rfl;exact ⟨rfl,HG.out.row (by omega) _⟩))
theorem Qcn (ps:List Nat) (v:Value) (w:World) (hv:Row w v (toZ ps)) (hl:ps.length<=6) (hb:∀p∈ps,p<=268435456) :
 Calls Tryz.prog 111 #[v] w fun e w'=>e=.returned (.agg (szV (Qae ps)))/\Old w w':=by
 have HV:Hid (Row w v (toZ ps)):=hv;obtain ⟨va,vc,rfl⟩:∃a c,v=.slice a ps.length c:=by have:=hv.slice;rwa [Qau] at this
 have c1:=fun W=>Qli 1 W (by omega)
 have c2:=fun W (h:Row W (.slice va ps.length vc) (toZ ps))=>Qzl ps _ W h hl hb
 have HL:Hid ((pad (Qae ps)).length=80):=by
  have:=Qfb ps hb ps.length (Nat.le_refl _);rw [List.take_length] at this;exact Qad this (by omega)
 have HZ:Hid (Sz (w.alloc (.cells Tryz.zeroCells120 120)) w.heap.size (ext []) 0):=Sz.zero _ _ rfl;clear hv hb;generalize Qae ps=r at *;unfold szV at *;go_enter Tryz.func111,Tryz.ntmps111;go_wp2_with (first | (go_at_call 127;refine (c1 _).mono ?_;rintro e w1 ⟨rfl,g1⟩;have HG1:Hid (Old w w1):=Old.trans ((Old.refl w).alloc _) g1;have HZ1:Hid (Sz w1 w.heap.size (ext []) 0):=HZ.out.old g1;clear g1) | (go_at_call 167;refine (c2 _ (HV.out.old HG1.out)).mono ?_;rintro e w2 ⟨rfl,g2⟩;have HG2:Hid (Old w w2):=Old.trans HG1.out g2;have HZ2:Hid (Sz w2 w.heap.size (ext []) 0):=HZ1.out.old g2;clear g2) | ((with_reducible refine Qa0 HZ2.out (pad r) (cnt r) HL.out ?_ ?_ ?_);exact rfl;exact rfl;simp only [Act.put]) | ((with_reducible refine bodyPost_ret (Qdi Tryz.results111 _ _ ?_ (HZ2.out.row (pad r) (cnt r) HL.out)) ?_ ?_);exact rfl;exact rfl;exact ⟨rfl,HG2.out.row (Nat.le_refl _) _⟩))
structure Bas (ps:List Nat):Prop where
 len1:1<=ps.length
 len6:ps.length<=6
 lo:∀p∈ps,2<=p
 hi:∀p∈ps,p<=268435456
theorem Qt7 {xs:List Int} (h:Qfp xs=true):∃ps:List Nat,xs=toZ ps/\Bas ps:=by
 simp only [Qfp,Bool.and_eq_true,decide_eq_true_eq] at h;obtain ⟨⟨h1,h2⟩,h3⟩:=h
 have h4:∀x∈xs,2<=x/\x<=268435456:=fun x hx=>by
  obtain ⟨j,hj,e⟩:=List.getElem_of_mem hx;have h5:=of_decide_eq_true h3 j hj (Nat.zero_le _);simp only [Qw5,Bool.and_eq_true,pmB] at h5;have h6:=Qbv h5.1.1;have e2:xs.getD j 0=x:=by simp [List.getD,hj,e]
  rw [e2] at h6;exact h6
 refine ⟨xs.map Int.toNat,?_,by simpa using h1,by simpa using h2,fun p hp=>?_,fun p hp=>?_⟩
 ·rw [toZ,List.map_map];refine (List.map_id xs).symm.trans (List.map_congr_left fun x hx=>?_);have:=h4 x hx;simp;omega
 ·obtain ⟨x,hx,rfl⟩:=List.mem_map.1 hp;have:=h4 x hx;omega
 ·obtain ⟨x,hx,rfl⟩:=List.mem_map.1 hp;have:=h4 x hx;omega
theorem Qry (w:World) (t:TypeId):Row (w.alloc (.cells #[.int .i64 1] t)) (.slice (some ⟨w.heap.size,0,none⟩) 1 1) (toI (dig 1)):=by
 have e:dig 1=[1]:=by decide +kernel
 rw [e]
 exact Or.inr ⟨w.heap.size,0,1,rfl,by simp,by simp [toI],fun j hj=>by
  have:j=0:=by simp [toI] at hj;omega
  subst this;rw [Qac _ _ _ _ _ (by simp)];rfl⟩
theorem Qf7 (ps:List Nat) (v:Value) (w:World) (hv:Row w v (toZ ps)) (hl:ps.length<=6) (hb:∀p∈ps,p<=268435456) :
 Calls Tryz.prog 154 #[v] w fun e w'=>∃v',e=.returned v'/\Old w w'/\Row w' v' (toI (dig (Qae ps))):=by
 have HC:Hid (∀k,k<=ps.length->cnt (Qae (ps.take k))<=7):=fun k h=>Nat.le_trans (Qfb ps hb k h) (by omega)
 have HB:Hid (∀p∈ps,p<=268435456):=hb;have HV:Hid (Row w v (toZ ps)):=hv;obtain ⟨va,vc,rfl⟩:∃a c,v=.slice a ps.length c:=by have:=hv.slice;rwa [Qau] at this
 have HL1:Hid ((dig 1).length=1):=by show (dig 1).length=1;decide +kernel
 clear hb hv;go_enter Tryz.func154,Tryz.ntmps154;go_wp2_with fail
 go_loopw [3,9] (fun x i W=>∃(k:Nat) (a:Option Addr) (n c:Nat),k<=ps.length/\i=.int .i64 k/\x=.slice a n c/\Hid (Row W (.slice a n c) (toI (dig (Qae (ps.take k)))))/\Hid (Old w W)) (fun _ i _=>ps.length - (intOf i).toNat)
 case atStart=>exact ⟨0,_,_,_,by omega,rfl,rfl,Qry w _,(Old.refl w).alloc _⟩
 case round=>
  obtain ⟨k,a,n,c,hk,rfl,rfl,HR,HG⟩:=hrel
  by_cases hlt:k<ps.length
  ·have d1:decide ((k:Int)<(ps.length:Int))=true:=by simp;omega
   obtain ⟨b,o,rfl,hb,hc⟩:∃b o,va=some ⟨b,o,none⟩/\b<w.heap.size/\∀j,j<ps.length->w.cell? ⟨b,o+j,none⟩=some (.int .i64 ((ps.getD j 0:Nat):Int)):=by
    rcases HV.out with ⟨a',cap',e,e2⟩ | ⟨b,o,cap',e,hb,h0,hc⟩
    ·have:=congrArg List.length e2;rw [Qau] at this;simp only [List.length_nil] at this;omega
    ·simp only [Value.slice.injEq] at e;rw [Qau] at hc;exact ⟨b,o,e.1,hb,fun j hj=>by rw [hc j hj,Qcb]⟩
   have c1:wr.cell? ⟨b,o+k,none⟩=some (.int .i64 ((ps.getD k 0:Nat):Int)):=(HG.out.cell (p:=⟨b,o+k,none⟩) hb).trans (hc k hlt)
   have hpb:ps.getD k 0<=268435456:=HB.out _ (by simp [List.getD,hlt]);have HE:Hid (Qae (ps.take (k+1))=Qae (ps.take k)*ps.getD k 0):=Qeh ps k hlt;have HC1:Hid ((dig (Qae (ps.take k))).length<=1048576):=Nat.le_trans (HC.out k hk) (by omega);have HC2:Hid ((dig (ps.getD k 0)).length<=1048576):=Nat.le_trans (Qeg (by omega)) (by omega);have HF:Hid (∀W u,Row W u (toI (dig (Qae (ps.take k)*ps.getD k 0)))->Row W u (toI (dig (Qae (ps.take (k+1)))))):=fun W u h=>by rw [HE.out];exact h
   clear hc HE;generalize Qae (ps.take k)=q at *;generalize ps.getD k 0=p at *;go_wp2_with fail;refine (Qqt p _ (by omega)).mono ?_
   rintro e w2 ⟨v2,rfl,g2,o2⟩;have HG2:Hid (Old w w2):=Old.trans HG.out g2;have HR2:Hid (Row w2 (.slice a n c) (toI (dig q))):=HR.out.old g2;have HP2:Hid (Row w2 v2 (toI (dig p))):=Own.row o2;obtain ⟨a2,cap2,rfl⟩:=(Own.row o2).slice;clear g2 o2;go_wp2_with fail;refine (Qjg (dig q) (dig p) _ _ _ HR2.out HP2.out (Qay q) (Qay p) HC1.out HC2.out).mono ?_
   rw [Qai,Qai];rintro e w3 ⟨v3,rfl,g3,o3⟩;have HG3:Hid (Old w w3):=Old.trans HG2.out g3;have HP3:Hid (Row w3 v3 (toI (dig (q*p)))):=Own.row o3;obtain ⟨a3,cap3,rfl⟩:=(Own.row o3).slice;clear g3 o3;go_wp2_with fail;exact ⟨⟨k+1,_,_,_,by omega,by go_num,rfl,HF.out _ _ HP3.out,HG3⟩,by simp [intOf];omega⟩
  ·have d1:decide ((k:Int)<(ps.length:Int))=false:=by simp;omega
   obtain rfl:k=ps.length:=by omega
   have HF:Hid (Row wr (.slice a n c) (toI (dig (Qae ps)))):=by
    have:=HR.out;rw [List.take_length] at this;exact this
   clear HR;go_wp2_with fail;go_ret;exact ⟨_,rfl,HG.out,HF.out⟩
theorem Qzm:(Tryz.prog.info? 31).map (·.size)=some 2:=by kernel_rfl
theorem Qrz (w:World) (base:Nat):Own w base (.slice none 0 0) (toI []):=⟨rfl,Or.inl ⟨rfl,rfl⟩⟩
theorem Qho (ps:List Nat) (h:∀p∈ps,2<=p):∀k,k<=ps.length->0<Qae (ps.take k)
 | 0,_=>by simp [Qae]
 | k+1,hk=>by
   rw [Qeh ps k (by omega)];have h1:=Qho ps h k (by omega);have h2:2<=ps.getD k 0:=h _ (by simp [List.getD,show k<ps.length by omega]);exact Nat.mul_pos h1 (by omega)
theorem Bas.pos {ps:List Nat} (h:Bas ps):Qae ps≠0:=by
 have:=Qho ps h.lo ps.length (Nat.le_refl _);rw [List.take_length] at this;omega
theorem Bas.cnt {ps:List Nat} (h:Bas ps):M2.cnt (Qae ps)<=7:=by
 have:=Qfb ps h.hi ps.length (Nat.le_refl _);rw [List.take_length] at this;have:=h.len6;omega
end Go.Proofs.YtejhpljichmmpaaGreatDoor
namespace Go.Proofs.YtejhpljichmmpaaGreatDoor
open Go.ChangeShapes Go.WideShapes Go.ChangeAt Go.RowKit
def pwA (ls:List Nat):Array Value:=(ls.map (fun n:Nat=>Value.int .i64 (n:Int))).toArray
theorem Qcc {ls:List Nat} (h:ls.length=32):(pwA ls).size=32:=by simp [pwA,h]
theorem Qzn {ls:List Nat} (h:ls.length=32) {j:Nat} (hj:j<32):(pwA ls)[j]? = some (.int .i64 ((ls.getD j 0:Nat):Int)):=by
 simp [pwA,h,hj,List.getD]
theorem Qxu {ls:List Nat} (h:ls.length=32) {j:Nat} (hj:j<32) (y:Nat):(pwA ls).setIfInBounds j (.int .i64 (y:Int))=pwA (ls.set j y):=by
 simp only [pwA,List.setIfInBounds_toArray]
 congr 1
 simp [List.map_set]
theorem Qr0 (ls:List Nat):(pwA ls).all (·.oneCell')=true:=by
 simp [pwA,Value.oneCell']
theorem Qi4:(Tryz.prog.info? 251).map (·.size)=some 32:=by kernel_rfl
structure Pw (w:World) (g:Nat) (ls:List Nat):Prop where
 blk:w.heap[g]? = some (.cells (pwA ls) 251 (0,0))
 len:ls.length=32
theorem Pw.lt {w:World} {g:Nat} {ls:List Nat} (h:Pw w g ls):g<w.heap.size:=(Array.getElem?_eq_some_iff.1 h.blk).1
theorem Pw.at {w:World} {g:Nat} {ls:List Nat} (h:Pw w g ls) {j:Nat} (hj:j<32):w.cell? ⟨g,j,none⟩=some (.int .i64 ((ls.getD j 0:Nat):Int)):=by
 rw [cell_of_row _ _ _ _ _ _ h.blk,Qzn h.len hj]
theorem Pw.fro {w:World} {g:Nat} {ls:List Nat} (h:Pw w g ls) (j:Nat):w.frozen? ⟨g,j,none⟩=false:=frozen_of_row _ _ _ _ _ h.blk
theorem Pw.old {w w':World} {g:Nat} {ls:List Nat} (h:Pw w g ls) (o:Old w w'):Pw w' g ls:=⟨by rw [o.block g h.lt];exact h.blk,h.len⟩
theorem Pw.by_ {w w':World} {g:Nat} {ls:List Nat} {ob:Option Nat} (h:Pw w g ls) (o:w.grownBy w' ob) (hne:∀k,ob=some k->k≠g):Pw w' g ls:=⟨(o.block g h.lt (fun e=>hne g e.symm rfl)).trans h.blk,h.len⟩
theorem Pw.set {w:World} {g:Nat} {ls:List Nat} (h:Pw w g ls) {j:Nat} (hj:j<32) (y:Nat):Pw (w.setCell ⟨g,j,none⟩ (.int .i64 (y:Int))) g (ls.set j y):=
 ⟨by rw [heap_setCell_same w g j _ _ _ h.blk,Qxu h.len hj y],by rw [List.length_set,h.len]⟩
theorem Pw.other {w:World} {g:Nat} {ls:List Nat} (h:Pw w g ls) (p:Addr) (hp:g≠p.block) (v:Value):Pw (w.setCell p v) g ls:=
 ⟨by rw [heap_setCell_other w p g v hp];exact h.blk,h.len⟩
theorem Pw.row {w:World} {g:Nat} {ls:List Nat} (h:Pw w g ls) (ls':List Nat) (hl:ls'.length=32):Pw (w.setRow g (pwA ls')) g ls':=
 ⟨setRow_heap w g _ _ _ _ h.blk,hl⟩
theorem Pw.new' (w:World) (ls:List Nat) (g:Nat) (hl:ls.length=32) (hg:g=w.heap.size):Pw (w.alloc (.cells (pwA ls) 251)) g ls:=by subst hg;exact ⟨heap_alloc_new w _,hl⟩
theorem Old.rowP {a b:World} (h:Old a b) {g:Nat} (hg:a.heap.size<=g) (cs:Array Value):Old a (b.setRow g cs):=
 ⟨h.os,h.tape,h.output,by rw [setRow_size];exact h.size,fun k hk=>by rw [setRow_other b g k cs (by omega)];exact h.block k hk⟩
section
variable {ops:Array Oper} {rest:List Oper} {a:Act} {w:World} {Q:Exit->Act->World->Prop} {ty:TypeId} {pos:String} {d:Option Tmp} {x y:Operand}
theorem Qxv {af:Array Edge} {g:Nat} {ls:List Nat} (hs:Pw w g ls) (hx:a.eval x=.pointer (some ⟨g,0,none⟩))
 (h:wpList Tryz.prog ops Q rest (a.put d (.agg (pwA ls))) w):wpList Tryz.prog ops Q (⟨d,.load 251 x,ty,pos,af,none⟩ :: rest) a w:=
 wpList_load_row rfl 251 x rfl g hx 251 (pwA ls) (0,0) _ hs.blk Tryz.underlying251 rfl (by rw [Qcc hs.len];exact Qi4) h
theorem Qt8 {af:Array Edge} {g:Nat} {ls:List Nat} (hs:Pw w g ls) (ls':List Nat) (hl:ls'.length=32) (hx:a.eval x=.pointer (some ⟨g,0,none⟩)) (hy:a.eval y=.agg (pwA ls'))
 (h:wpList Tryz.prog ops Q rest (a.put d undef) (w.setRow g (pwA ls'))):wpList Tryz.prog ops Q (⟨d,.store 251 x y,ty,pos,af,none⟩ :: rest) a w:=by
 refine wpList_store_row rfl 251 x y rfl g (pwA ls') hx hy 251 (pwA ls) hs.blk (by rw [Qcc hl];exact Qi4) (by rw [Qcc hs.len,Qcc hl]) (Qr0 _) h
end
theorem Qzo {fn:Func} {p:Tmp} (h:fn.results=#[.cell p 251]) (tmps:Array Value) (w:World) {g:Nat} {ls:List Nat} (hp:tmps.getD p undef=.pointer (some ⟨g,0,none⟩)) (hs:Pw w g ls) :
 (results fn tmps).run Tryz.prog w=.ok (.agg (pwA ls)) w:=
 results_cell_row h tmps w g 251 (pwA ls) (0,0) _ hp hs.blk Tryz.underlying251 rfl (by rw [Qcc hs.len];exact Qi4)
def pwS (P R:Nat):Nat->List Nat
 | 0=>List.replicate 32 0
 | k+1=>(pwS P R k).set k (R^k%P)
theorem Qhp (P R:Nat):∀k,(pwS P R k).length=32
 | 0=>by simp [pwS]
 | k+1=>by rw [pwS,List.length_set,Qhp P R k]
theorem Qm9 (P R:Nat):∀k j,j<k->k<=32->(pwS P R k).getD j 0=R^j%P
 | 0,j,h,_=>by omega
 | k+1,j,h,h2=>by
   rw [pwS]
   by_cases hj:j=k
   ·subst hj;simp [List.getD,Qhp,show j<32 by omega]
   ·have:=Qm9 P R k j (by omega) (by omega);simp only [List.getD] at this ⊢;rw [List.getElem?_set_ne (by omega)];exact this
theorem Qhq (P N R:Nat) (w:World) (hP:2<=P/\P<=268435456) (hN:2<=N/\N<=16) (hR:R<P) :
 Calls Tryz.prog 221 #[.agg #[.int .i64 P,.int .i64 N,.int .i64 R]] w fun e w'=>e=.returned (.agg (pwA (pwS P R (2*N))))/\Old w w':=by
 have HM:Hid (∀k,R^k%P*R%P=R^(k+1)%P):=fun k=>by rw [Nat.pow_succ,Nat.mul_mod,Nat.mod_mod,<- Nat.mul_mod]
 have HXL:Hid (∀k,R^k%P<P):=fun k=>Nat.mod_lt _ (by omega)
 have H1:Hid (1=R^0%P):=by rw [Nat.pow_zero,Nat.mod_eq_of_lt (by omega)];rfl
 have HS:Hid (∀k,pwS P R (k+1)=(pwS P R k).set k (R^k%P)):=fun k=>rfl
 have HL:Hid (∀k,(pwS P R k).length=32):=fun k=>Qhp P R k
 have H0:Hid (pwS P R 0=List.replicate 32 0):=rfl;generalize pwS P R=F at *;obtain ⟨E,eE⟩:∃E:Nat->Nat,E=fun k=>R^k%P:=⟨_,rfl⟩
 have HM':Hid (∀k,E k*R%P=E (k+1)):=by rw [eE];exact HM
 have HXL':Hid (∀k,E k<P):=by rw [eE];exact HXL
 have H1':Hid (1=E 0):=by rw [eE];exact H1
 have HS':Hid (∀k,F (k+1)=(F k).set k (E k)):=by rw [eE];exact HS
 clear HM HXL H1 HS eE;obtain ⟨M,hM⟩:∃M,M=2*N:=⟨_,rfl⟩
 have eM:2*(N:Int)=(M:Int):=by omega
 rw [<- hM];have hM2:M<=32:=by omega
 have hpn:¬(P:Int)=0:=by omega
 have hpn2:¬P=0:=by omega
 have HZ:Hid (pwA (List.replicate 32 0)=#[.int .i64 0,.int .i64 0,.int .i64 0,.int .i64 0,.int .i64 0,.int .i64 0,.int .i64 0,.int .i64 0,.int .i64 0,.int .i64 0,.int .i64 0,.int .i64 0,.int .i64 0,.int .i64 0,.int .i64 0,.int .i64 0,.int .i64 0,.int .i64 0,.int .i64 0,.int .i64 0,.int .i64 0,.int .i64 0,.int .i64 0,.int .i64 0,.int .i64 0,.int .i64 0,.int .i64 0,.int .i64 0,.int .i64 0,.int .i64 0,.int .i64 0,.int .i64 0]):=rfl;have HPA:Hid (Pw (((w.alloc (.cells #[.int .i64 P,.int .i64 N,.int .i64 R] 104)).alloc (.cells (pwA (List.replicate 32 0)) 251)).alloc (.cells (pwA (List.replicate 32 0)) 251)) (w.heap.size+1) (List.replicate 32 0)):=(Pw.new' (w.alloc (.cells #[.int .i64 P,.int .i64 N,.int .i64 R] 104)) (List.replicate 32 0) _ (by simp) (by simp)).old ((Old.refl _).alloc _);have HPB:Hid (Pw (((w.alloc (.cells #[.int .i64 P,.int .i64 N,.int .i64 R] 104)).alloc (.cells (pwA (List.replicate 32 0)) 251)).alloc (.cells (pwA (List.replicate 32 0)) 251)) (w.heap.size+1+1) (F 0)):=by rw [H0.out];exact (Pw.new' ((w.alloc (.cells #[.int .i64 P,.int .i64 N,.int .i64 R] 104)).alloc (.cells (pwA (List.replicate 32 0)) 251)) (List.replicate 32 0) _ (by simp) (by simp))
 have HRC:Hid (Rc (((w.alloc (.cells #[.int .i64 P,.int .i64 N,.int .i64 R] 104)).alloc (.cells (pwA (List.replicate 32 0)) 251)).alloc (.cells (pwA (List.replicate 32 0)) 251)) w.heap.size P N R):=(Rc.new w P N R).old (((Old.refl _).alloc _).alloc _);rw [HZ.out] at HPA HPB HRC;clear hM HZ H0;go_enter Tryz.func221,Tryz.ntmps221;go_wp2_with fail
 go_loopw [4,5,9] (fun x y i W=>∃k:Nat,k<=M/\i=.int .i64 k/\x=.int .i64 ((E k:Nat):Int)/\Hid (Pw W (w.heap.size+1) (List.replicate 32 0))/\Hid (Pw W (w.heap.size+1+1) (F k))/\Hid (Rc W w.heap.size P N R)/\Hid (Old w W)) (fun _ _ i _=>M - (intOf i).toNat)
 case atStart=>exact ⟨0,by omega,rfl,by rw [<- H1'.out];rfl,HPA,HPB,HRC,(((Old.refl _).alloc _).alloc _).alloc _⟩
 case round=>
  obtain ⟨k,hk,rfl,rfl,PA,PB,RC,HG⟩:=hrel;clear HPA HPB HRC
  by_cases hlt:k<M
  ·have d1:decide ((k:Int)<(M:Int))=true:=by simp;omega
   have i1:(k:Int)<32:=by omega
   have c1:=PB.out.at (show k<32 by omega);have c2:=PB.out.fro k;have HP2:Hid (Pw (wr.setCell ⟨w.heap.size+1+1,k,none⟩ (.int .i64 ((E k:Nat):Int))) (w.heap.size+1+1) (F (k+1))):=by rw [HS'.out];exact PB.out.set (by omega) _
   have HA2:Hid (Pw (wr.setCell ⟨w.heap.size+1+1,k,none⟩ (.int .i64 ((E k:Nat):Int))) (w.heap.size+1) (List.replicate 32 0)):=PA.out.other _ (by simp) _;have HG2:Hid (Old w (wr.setCell ⟨w.heap.size+1+1,k,none⟩ (.int .i64 ((E k:Nat):Int)))):=HG.out.own (by simp;omega) _;have HR2:Hid (Rc (wr.setCell ⟨w.heap.size+1+1,k,none⟩ (.int .i64 ((E k:Nat):Int))) w.heap.size P N R):=⟨by have:=RC.out.lt;simpa using this,by rw [World.cell?_of_block (w:=wr) (heap_setCell_other wr ⟨w.heap.size+1+1,k,none⟩ w.heap.size _ (by simp;omega))];exact RC.out.c0,by rw [World.cell?_of_block (w:=wr) (heap_setCell_other wr ⟨w.heap.size+1+1,k,none⟩ w.heap.size _ (by simp;omega))];exact RC.out.c1,by rw [World.cell?_of_block (w:=wr) (heap_setCell_other wr ⟨w.heap.size+1+1,k,none⟩ w.heap.size _ (by simp;omega))];exact RC.out.c2⟩;have z0:=HR2.out.c0;have z2:=HR2.out.c2;have hx:=HXL'.out k;have HN:Hid (E k*R%P=E (k+1)):=HM'.out k;generalize (F k).getD k 0=oldv at *;generalize E k=x at *;have hmul:=Qgm x R P hx hR hP.2;have e1:(x:Int)*(R:Int)=((x*R:Nat):Int):=by simp
   have e2:((x*R:Nat):Int)%(P:Int)=((x*R%P:Nat):Int):=by simp
   generalize x*R=s at *;generalize s%P=q at *;go_wp2_with fail;exact ⟨⟨k+1,by omega,by go_num,by rw [<- HN.out,e2],HA2,HP2,HR2,HG2⟩,by simp [intOf];omega⟩
  ·have d1:decide ((k:Int)<(M:Int))=false:=by simp;omega
   obtain rfl:k=M:=by omega
   have HL2:Hid ((F k).length=32):=HL.out k;go_wp2_with (first | ((with_reducible refine Qxv PB.out ?_ ?_);exact rfl;simp only [Act.put,List.setIfInBounds_toArray,List.set_cons_succ,List.set_cons_zero]) | ((with_reducible refine Qt8 PA.out (F k) HL2.out ?_ ?_ ?_);exact rfl;exact rfl;simp only [Act.put]) | ((with_reducible refine bodyPost_ret (Qzo Tryz.results221 _ _ ?_ (PA.out.row (F k) HL2.out)) ?_ ?_);exact rfl;exact rfl;exact ⟨rfl,HG.out.rowP (by omega) _⟩))
end Go.Proofs.YtejhpljichmmpaaGreatDoor
namespace Go.Proofs.YtejhpljichmmpaaGreatDoor
open Go.ChangeShapes Go.WideShapes Go.ChangeAt Go.RowKit
open M2
theorem Qij (x:Nat) (w:World) (h1:x<268435456) :
 Calls Tryz.prog 200 #[.int .u64 (x:Int)] w fun e w'=>e=.returned (.int .i64 (Lib.bitLen x))/\w'=w:=by
 have c:=Qgf (x:Int) w (by omega) (by omega);rw [Int.toNat_natCast] at c;have HC:Hid (Calls Tryz.prog 213 #[.int .u64 (x:Int)] w fun e w'=>e=.returned (.int .i64 (Lib.bitLen x))/\w'=w):=c;clear c;go_enter Tryz.func200,Tryz.ntmps200;go_wp2_with (go_at_call 213;refine HC.out.mono ?_;rintro e w' ⟨rfl,rfl⟩);go_ret;exact ⟨rfl,rfl⟩
end Go.Proofs.YtejhpljichmmpaaGreatDoor
