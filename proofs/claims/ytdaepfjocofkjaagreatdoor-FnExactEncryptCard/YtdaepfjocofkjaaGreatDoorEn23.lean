/- Proved: what its theorems say. -/
import Derived.Test.YtdaepfjocofkjaaGreatDoorEn21
import Derived.Test.YtdaepfjocofkjaaGreatDoorEn22
import Derived.Deep.RegionLawGrows
set_option linter.unusedVariables false
set_option linter.unusedSimpArgs false
set_option maxHeartbeats 4000000
set_option maxRecDepth 100000
namespace Go.Proofs.YtdaepfjocofkjaaGreatDoor
open Go.ChangeShapes Go.WideShapes Go.ChangeAt Go.RowKit
open M2
def Qap (ps:List Nat):Nat:=ps.foldl (fun a p=>a*p) 1
theorem Qrd (ps:List Nat) (p:Nat):Qap (ps++[p])=Qap ps*p:=by simp [Qap,List.foldl_append]
theorem Qgj (ps:List Nat) (k:Nat) (h:k<ps.length):Qap (ps.take (k+1))=Qap (ps.take k)*ps.getD k 0:=by
 rw [<- Qrd]
 congr 1
 rw [List.take_add_one]
 congr 1
 simp [List.getD,h]
theorem Qp9 (ps:List Nat) (hb:∀p∈ps,p<=268435456):∀k,k<=ps.length->Qap (ps.take k)<=LB^k
 | 0,_=>by simp [Qap]
 | k+1,h=>by
   rw [Qgj ps k (by omega),Nat.pow_succ];have h1:=Qp9 ps hb k (by omega)
   have h2:ps.getD k 0<=LB:=by
    have:ps.getD k 0∈ps:=by simp [List.getD,show k<ps.length by omega]
    exact hb _ this
   exact Nat.mul_le_mul h1 h2
theorem Qf1 (ps:List Nat) (hb:∀p∈ps,p<=268435456) (k:Nat) (h:k<=ps.length):cnt (Qap (ps.take k))<=k+1:=by
 refine Qc0 (Nat.lt_of_le_of_lt (Qp9 ps hb k h) ?_);rw [Nat.pow_succ];have h1:=pw k;have h2:LB^k*2<=LB^k*LB:=Nat.mul_le_mul_left _ (by decide);omega
theorem Qwa (a p:Nat) (w:World) (ha:cnt a<=40) (hp:p<=268435456) :
 Calls Tryz.prog 97 #[.agg (szV a),.int .i64 (p:Int)] w fun e w'=>e=.returned (.agg (szV (a*p)))/\Old w w':=by
 have HPA:=Qaa (Qag ha (by omega));have c:=fun W=>Qia a p 0 W (by omega) hp (by omega)
 rw [Nat.add_zero] at c
 have HPR:Hid ((pad (a*p)).length=80):=by
  have h1:cnt (a*p)<=41:=by
   refine Qc0 ?_
   have h2:=cnt_lt a;have h3:=Nat.pow_le_pow_right Qba ha
   have h4:a*p<LB^40*LB:=by
    rcases Nat.eq_zero_or_pos p with h0 | h0
    ·subst h0;simp;exact Nat.mul_pos (pw 40) Qba
    ·exact Nat.mul_lt_mul_of_lt_of_le (by omega) hp Qba
   rw [Nat.pow_succ];exact h4
  exact Qag h1 (by omega)
 have H1:Hid (Sz ((w.alloc (.cells (szA (pad a) (cnt a)) 117)).alloc (.cells Tryz.zeroCells117 117)) w.heap.size (pad a) (cnt a)):=(Sz.new w _ _ HPA.out).alloc _;have HR:Hid (Sz ((w.alloc (.cells (szA (pad a) (cnt a)) 117)).alloc (.cells Tryz.zeroCells117 117)) (w.heap.size+1) (ext []) 0):=Sz.zero _ _ (by simp);have HG:Hid (Old w ((w.alloc (.cells (szA (pad a) (cnt a)) 117)).alloc (.cells Tryz.zeroCells117 117))):=((Old.refl w).alloc _).alloc _;unfold szV at *;generalize a*p=r at *;go_enter Tryz.func97,Tryz.ntmps97;go_wp2_with (first | ((with_reducible refine Qay H1.out ?_ ?_);exact rfl;simp only [Act.put,List.setIfInBounds_toArray,List.set_cons_succ,List.set_cons_zero]) | (go_at_call 98;refine (c _).mono ?_;rintro e w5 ⟨rfl,g5⟩;have HR5:=Qaa (HR.out.old g5);have HG5:=Qaa (Old.trans HG.out g5);clear g5) | ((with_reducible refine Qa2 HR5.out (pad r) (cnt r) HPR.out ?_ ?_ ?_);exact rfl;exact rfl;simp only [Act.put]) | ((with_reducible refine bodyPost_ret (Qef Tryz.results97 _ _ ?_ (HR5.out.row (pad r) (cnt r) HPR.out)) ?_ ?_);exact rfl;exact rfl;exact ⟨rfl,HG5.out.row (by omega) _⟩))
theorem Q19 (ps:List Nat) (v:Value) (w:World) (hv:Row w v (toZ ps)) (hl:ps.length<=6) (hb:∀p∈ps,p<=268435456) :
 Calls Tryz.prog 96 #[.func (.func 97) #[] #[],.agg (szV 1),v] w fun e w'=>e=.returned (.agg (szV (Qap ps)))/\Old w w':=by
 have HP1:=Qaa (Qag (n:=1) (k:=3) (Qdd (by omega)) (by omega));have H1:Hid (Sz ((w.alloc (.cells (szA (pad 1) (cnt 1)) 117)).alloc (.cells Tryz.zeroCells117 117)) w.heap.size (pad 1) (cnt 1)):=(Sz.new w _ _ HP1.out).alloc _;have HZ:Hid (Sz (((w.alloc (.cells (szA (pad 1) (cnt 1)) 117)).alloc (.cells Tryz.zeroCells117 117)).alloc (.cells Tryz.zeroCells117 117)) (w.heap.size+1+1) (ext []) 0):=Sz.zero _ _ (by simp);have HY:Hid (Sz (((w.alloc (.cells (szA (pad 1) (cnt 1)) 117)).alloc (.cells Tryz.zeroCells117 117)).alloc (.cells Tryz.zeroCells117 117)) (w.heap.size+1) (ext []) 0):=(Sz.zero _ _ (by simp)).alloc _;have HG0:Hid (Old w (((w.alloc (.cells (szA (pad 1) (cnt 1)) 117)).alloc (.cells Tryz.zeroCells117 117)).alloc (.cells Tryz.zeroCells117 117))):=(((Old.refl w).alloc _).alloc _).alloc _;have HC:Hid (∀k,k<=ps.length->cnt (Qap (ps.take k))<=7):=fun k h=>Nat.le_trans (Qf1 ps hb k h) (by omega)
 have HB:=Qaa hb;have HV:=Qaa hv;obtain ⟨r,hr⟩:∃r,Qap ps=r:=⟨_,rfl⟩
 rw [hr];have HRR:=Qaa hr;clear hr;obtain ⟨va,vc,rfl⟩:∃a c,v=.slice a ps.length c:=by have:=hv.slice;rwa [Qbf] at this
 clear hb hv;unfold szV;go_enter Tryz.func96,Tryz.ntmps96;go_wp2_with (first | ((with_reducible refine Qay H1.out ?_ ?_);exact rfl;simp only [Act.put,List.setIfInBounds_toArray,List.set_cons_succ,List.set_cons_zero]) | ((with_reducible refine Qa2 HZ.out (pad 1) (cnt 1) HP1.out ?_ ?_ ?_);exact rfl;exact rfl;simp only [Act.put]))
 go_loopw [13] (fun i W=>∃k:Nat,k<=ps.length/\i=.int .i64 k/\Hid (Sz W (w.heap.size+1+1) (pad (Qap (ps.take k))) (cnt (Qap (ps.take k))))/\Hid (Sz W (w.heap.size+1) (ext []) 0)/\Hid (Old w W)) (fun i _=>ps.length - (intOf i).toNat)
 case atStart=>exact ⟨0,by omega,rfl,HZ.out.row (pad 1) (cnt 1) HP1.out,HY.out.otherRow (by omega) _,HG0.out.row (by omega) _⟩
 case round=>
  obtain ⟨k,hk,rfl,HS,HR,HG⟩:=hrel;clear H1 HZ HY HG0
  by_cases hlt:k<ps.length
  ·obtain ⟨b,o,rfl,hb,hc⟩:∃b o,va=some ⟨b,o,none⟩∧b<w.heap.size∧∀j,j<ps.length→w.cell? ⟨b,o+j,none⟩=some (.int .i64 ((ps.getD j 0:Nat):Int)):=by
    rcases HV.out with ⟨a',cap',e,e2⟩ | ⟨b,o,cap',e,hb,h0,hc⟩
    ·have:=congrArg List.length e2;rw [Qbf] at this;simp only [List.length_nil] at this;omega
    ·simp only [Value.slice.injEq] at e;rw [Qbf] at hc;exact ⟨b,o,e.1,hb,fun j hj=>by rw [hc j hj,Qc4]⟩
   have c1:=(HG.out.cell (p:=⟨b,o+k,none⟩) hb).trans (hc k hlt);have hpb:ps.getD k 0<=268435456:=HB.out _ (by simp [List.getD,hlt]);have HE:=Qaa (Qgj ps k hlt);have HC1:Hid (cnt (Qap (ps.take k))<=40):=Nat.le_trans (HC.out k hk) (by omega)
   have HC2:Hid ((pad (Qap (ps.take k)*ps.getD k 0)).length=80):=by
    have:=HC.out (k+1) hlt;rw [HE.out] at this;exact Qag this (by omega)
   have HF:Hid (∀W,Sz W (w.heap.size+1+1) (pad (Qap (ps.take k)*ps.getD k 0)) (cnt (Qap (ps.take k)*ps.getD k 0))->Sz W (w.heap.size+1+1) (pad (Qap (ps.take (k+1)))) (cnt (Qap (ps.take (k+1))))):=fun W h=>by rw [HE.out];exact h
   have ct:=fun W=>Qwa (Qap (ps.take k)) (ps.getD k 0) W HC1.out hpb
   clear hc HE HC1;generalize Qap (ps.take k)*ps.getD k 0=y at *;generalize Qap (ps.take k)=q at *;generalize ps.getD k 0=p at *;unfold szV at ct;go_wp2_with (first | ((with_reducible refine Qay HS.out ?_ ?_);exact rfl;simp only [Act.put,List.setIfInBounds_toArray,List.set_cons_succ,List.set_cons_zero]) | (go_at_call 97;refine (ct _).mono ?_;rintro e w5 ⟨rfl,g5⟩;have HS5:=Qaa (HS.out.old g5);have HR5:=Qaa (HR.out.old g5);have HG5:=Qaa (Old.trans HG.out g5);clear g5) | ((with_reducible refine Qa2 HS5.out (pad y) (cnt y) HC2.out ?_ ?_ ?_);exact rfl;exact rfl;simp only [Act.put]));exact ⟨⟨k+1,by omega,by go_num,HF.out _ (HS5.out.row (pad y) (cnt y) HC2.out),HR5.out.otherRow (by omega) _,HG5.out.row (by omega) _⟩,by simp [intOf];omega⟩
  ·have d1:decide ((k:Int)<(ps.length:Int))=false:=by simp;omega
   obtain rfl:k=ps.length:=by omega
   have HL:Hid ((pad r).length=80):=by
    have:=HC.out ps.length (Nat.le_refl _);rw [List.take_length,HRR.out] at this;exact Qag this (by omega)
   have HS2:Hid (Sz wr (w.heap.size+1+1) (pad r) (cnt r)):=by
    have:=HS.out;rw [List.take_length,HRR.out] at this;exact this
   clear HS;go_wp2_with (first | ((with_reducible refine Qay HS2.out ?_ ?_);exact rfl;simp only [Act.put,List.setIfInBounds_toArray,List.set_cons_succ,List.set_cons_zero]) | ((with_reducible refine Qa2 HR.out (pad r) (cnt r) HL.out ?_ ?_ ?_);exact rfl;exact rfl;simp only [Act.put]) | ((with_reducible refine bodyPost_ret (Qef Tryz.results96 _ _ ?_ (HR.out.row (pad r) (cnt r) HL.out)) ?_ ?_);exact rfl;exact rfl;exact ⟨rfl,HG.out.row (by omega) _⟩))
theorem Qjl (ps:List Nat) (v:Value) (w:World) (hv:Row w v (toZ ps)) (hl:ps.length<=6) (hb:∀p∈ps,p<=268435456) :
 Calls Tryz.prog 63 #[v] w fun e w'=>e=.returned (.agg (szV (Qap ps)))/\Old w w':=by
 have HV:=Qaa hv;obtain ⟨va,vc,rfl⟩:∃a c,v=.slice a ps.length c:=by have:=hv.slice;rwa [Qbf] at this
 have c1:=fun W=>Qdp 1 W (by omega)
 have c2:=fun W (h:Row W (.slice va ps.length vc) (toZ ps))=>Q19 ps _ W h hl hb
 have HL:Hid ((pad (Qap ps)).length=80):=by
  have:=Qf1 ps hb ps.length (Nat.le_refl _);rw [List.take_length] at this;exact Qag this (by omega)
 have HZ:Hid (Sz (w.alloc (.cells Tryz.zeroCells117 117)) w.heap.size (ext []) 0):=Sz.zero _ _ rfl;clear hv hb;generalize Qap ps=r at *;unfold szV at *;go_enter Tryz.func63,Tryz.ntmps63;go_wp2_with (first | (go_at_call 99;refine (c1 _).mono ?_;rintro e w1 ⟨rfl,g1⟩;have HG1:=Qaa (Old.trans ((Old.refl w).alloc _) g1);have HZ1:=Qaa (HZ.out.old g1);clear g1) | (go_at_call 96;refine (c2 _ (HV.out.old HG1.out)).mono ?_;rintro e w2 ⟨rfl,g2⟩;have HG2:=Qaa (Old.trans HG1.out g2);have HZ2:=Qaa (HZ1.out.old g2);clear g2) | ((with_reducible refine Qa2 HZ2.out (pad r) (cnt r) HL.out ?_ ?_ ?_);exact rfl;exact rfl;simp only [Act.put]) | ((with_reducible refine bodyPost_ret (Qef Tryz.results63 _ _ ?_ (HZ2.out.row (pad r) (cnt r) HL.out)) ?_ ?_);exact rfl;exact rfl;exact ⟨rfl,HG2.out.row (Nat.le_refl _) _⟩))
structure Bas (ps:List Nat):Prop where
 len1:1<=ps.length
 len6:ps.length<=6
 lo:∀p∈ps,2<=p
 hi:∀p∈ps,p<=268435456
theorem Qqa {xs:List Int} (h:Qg8 xs=true):∃ps:List Nat,xs=toZ ps/\Bas ps:=by
 simp only [Qg8,Bool.and_eq_true,decide_eq_true_eq] at h;obtain ⟨⟨h1,h2⟩,h3⟩:=h
 have h4:∀x∈xs,2<=x/\x<=268435456:=fun x hx=>by
  obtain ⟨j,hj,e⟩:=List.getElem_of_mem hx;have h5:=of_decide_eq_true h3 j hj (Nat.zero_le _);simp only [Qzd,Bool.and_eq_true,pmB] at h5;have h6:=Qbq h5.1.1;have e2:xs.getD j 0=x:=by simp [List.getD,hj,e]
  rw [e2] at h6;exact h6
 refine ⟨xs.map Int.toNat,?_,by simpa using h1,by simpa using h2,fun p hp=>?_,fun p hp=>?_⟩
 ·rw [toZ,List.map_map];refine (List.map_id xs).symm.trans (List.map_congr_left fun x hx=>?_);have:=h4 x hx;simp;omega
 ·obtain ⟨x,hx,rfl⟩:=List.mem_map.1 hp;have:=h4 x hx;omega
 ·obtain ⟨x,hx,rfl⟩:=List.mem_map.1 hp;have:=h4 x hx;omega
theorem Qz2 (w:World) (t:TypeId):Row (w.alloc (.cells #[.int .i64 1] t)) (.slice (some ⟨w.heap.size,0,none⟩) 1 1) (toI (dig 1)):=by
 have e:dig 1=[1]:=by decide +kernel
 rw [e]
 exact Or.inr ⟨w.heap.size,0,1,rfl,by simp,by simp [toI],fun j hj=>by
  have:j=0:=by simp [toI] at hj;omega
  subst this;rw [Qae _ _ _ _ _ (by simp)];rfl⟩
theorem Qmu (ps:List Nat) (v:Value) (w:World) (hv:Row w v (toZ ps)) (hl:ps.length<=6) (hb:∀p∈ps,p<=268435456) :
 Calls Tryz.prog 90 #[v] w fun e w'=>∃v',e=.returned v'/\Old w w'/\Row w' v' (toI (dig (Qap ps))):=by
 have HC:Hid (∀k,k<=ps.length->cnt (Qap (ps.take k))<=7):=fun k h=>Nat.le_trans (Qf1 ps hb k h) (by omega)
 have HB:=Qaa hb;have HV:=Qaa hv;obtain ⟨va,vc,rfl⟩:∃a c,v=.slice a ps.length c:=by have:=hv.slice;rwa [Qbf] at this
 clear hb hv;go_enter Tryz.func90,Tryz.ntmps90;go_wp2_with fail
 go_loopw [3,9] (fun x i W=>∃(k:Nat) (a:Option Addr) (n c:Nat),k<=ps.length/\i=.int .i64 k/\x=.slice a n c/\Hid (Row W (.slice a n c) (toI (dig (Qap (ps.take k)))))/\Hid (Old w W)) (fun _ i _=>ps.length - (intOf i).toNat)
 case atStart=>exact ⟨0,_,_,_,by omega,rfl,rfl,Qz2 w _,(Old.refl w).alloc _⟩
 case round=>
  obtain ⟨k,a,n,c,hk,rfl,rfl,HR,HG⟩:=hrel
  by_cases hlt:k<ps.length
  ·obtain ⟨b,o,rfl,hb,hc⟩:∃b o,va=some ⟨b,o,none⟩∧b<w.heap.size∧∀j,j<ps.length→w.cell? ⟨b,o+j,none⟩=some (.int .i64 ((ps.getD j 0:Nat):Int)):=by
    rcases HV.out with ⟨a',cap',e,e2⟩ | ⟨b,o,cap',e,hb,h0,hc⟩
    ·have:=congrArg List.length e2;rw [Qbf] at this;simp only [List.length_nil] at this;omega
    ·simp only [Value.slice.injEq] at e;rw [Qbf] at hc;exact ⟨b,o,e.1,hb,fun j hj=>by rw [hc j hj,Qc4]⟩
   have c1:=(HG.out.cell (p:=⟨b,o+k,none⟩) hb).trans (hc k hlt);have hpb:ps.getD k 0<=268435456:=HB.out _ (by simp [List.getD,hlt]);have HE:=Qaa (Qgj ps k hlt);have HC1:Hid ((dig (Qap (ps.take k))).length<=1048576):=Nat.le_trans (HC.out k hk) (by omega);have HC2:Hid ((dig (ps.getD k 0)).length<=1048576):=Nat.le_trans (Qdd (by omega)) (by omega);have HF:Hid (∀W u,Row W u (toI (dig (Qap (ps.take k)*ps.getD k 0)))->Row W u (toI (dig (Qap (ps.take (k+1)))))):=fun W u h=>by rw [HE.out];exact h
   clear hc HE;generalize Qap (ps.take k)=q at *;generalize ps.getD k 0=p at *;go_wp2_with fail;refine (Qxj p _ (by omega)).mono ?_
   rintro e w2 ⟨v2,rfl,g2,o2⟩;have HG2:=Qaa (Old.trans HG.out g2);have HR2:=Qaa (HR.out.old g2);have HP2:=Qaa (Own.row o2);obtain ⟨a2,cap2,rfl⟩:=(Own.row o2).slice;clear g2 o2;go_wp2_with fail;refine (Qyq (dig q) (dig p) _ _ _ HR2.out HP2.out (Qaz q) (Qaz p) HC1.out HC2.out).mono ?_
   rw [Qaq,Qaq];rintro e w3 ⟨v3,rfl,g3,o3⟩;have HG3:=Qaa (Old.trans HG2.out g3);have HP3:=Qaa (Own.row o3);obtain ⟨a3,cap3,rfl⟩:=(Own.row o3).slice;clear g3 o3;go_wp2_with fail;exact ⟨⟨k+1,_,_,_,by omega,by go_num,rfl,HF.out _ _ HP3.out,HG3⟩,by simp [intOf];omega⟩
  ·have d1:decide ((k:Int)<(ps.length:Int))=false:=by simp;omega
   obtain rfl:k=ps.length:=by omega
   have HF:Hid (Row wr (.slice a n c) (toI (dig (Qap ps)))):=by
    have:=HR.out;rw [List.take_length] at this;exact this
   clear HR;go_wp2_with fail;go_ret;exact ⟨_,rfl,HG.out,HF.out⟩
theorem Qz3 (w:World) (base:Nat):Own w base (.slice none 0 0) (toI []):=⟨rfl,Or.inl ⟨rfl,rfl⟩⟩
theorem Bas.cnt {ps:List Nat} (h:Bas ps):M2.cnt (Qap ps)<=7:=by
 have:=Qf1 ps h.hi ps.length (Nat.le_refl _);rw [List.take_length] at this;have:=h.len6;omega
end Go.Proofs.YtdaepfjocofkjaaGreatDoor
namespace Go.Proofs.YtdaepfjocofkjaaGreatDoor
open Go.ChangeShapes Go.WideShapes Go.ChangeAt Go.RowKit
def pwA (ls:List Nat):Array Value:=(ls.map (fun n:Nat=>Value.int .i64 (n:Int))).toArray
theorem Qce {ls:List Nat} (h:ls.length=32):(pwA ls).size=32:=by simp [pwA,h]
theorem Q2a {ls:List Nat} (h:ls.length=32) {j:Nat} (hj:j<32):(pwA ls)[j]? = some (.int .i64 ((ls.getD j 0:Nat):Int)):=by
 simp [pwA,h,hj,List.getD]
theorem Qz4 {ls:List Nat} (h:ls.length=32) {j:Nat} (hj:j<32) (y:Nat):(pwA ls).setIfInBounds j (.int .i64 (y:Int))=pwA (ls.set j y):=by
 simp only [pwA,List.setIfInBounds_toArray]
 congr 1
 simp [List.map_set]
theorem Qs9 (ls:List Nat):(pwA ls).all (·.oneCell')=true:=by
 simp [pwA,Value.oneCell']
theorem Qj2:(Tryz.prog.info? 184).map (·.size)=some 32:=by kernel_rfl
structure Pw (w:World) (g:Nat) (ls:List Nat):Prop where
 blk:w.heap[g]? = some (.cells (pwA ls) 184 (0,0))
 len:ls.length=32
theorem Pw.lt {w:World} {g:Nat} {ls:List Nat} (h:Pw w g ls):g<w.heap.size:=(Array.getElem?_eq_some_iff.1 h.blk).1
theorem Pw.at {w:World} {g:Nat} {ls:List Nat} (h:Pw w g ls) {j:Nat} (hj:j<32):w.cell? ⟨g,j,none⟩=some (.int .i64 ((ls.getD j 0:Nat):Int)):=by
 rw [cell_of_row _ _ _ _ _ _ h.blk,Q2a h.len hj]
theorem Pw.fro {w:World} {g:Nat} {ls:List Nat} (h:Pw w g ls) (j:Nat):w.frozen? ⟨g,j,none⟩=false:=frozen_of_row _ _ _ _ _ h.blk
theorem Pw.old {w w':World} {g:Nat} {ls:List Nat} (h:Pw w g ls) (o:Old w w'):Pw w' g ls:=⟨by rw [o.block g h.lt];exact h.blk,h.len⟩
theorem Pw.by_ {w w':World} {g:Nat} {ls:List Nat} {ob:Option Nat} (h:Pw w g ls) (o:w.grownBy w' ob) (hne:∀k,ob=some k->k≠g):Pw w' g ls:=⟨(o.block g h.lt (fun e=>hne g e.symm rfl)).trans h.blk,h.len⟩
theorem Pw.set {w:World} {g:Nat} {ls:List Nat} (h:Pw w g ls) {j:Nat} (hj:j<32) (y:Nat):Pw (w.setCell ⟨g,j,none⟩ (.int .i64 (y:Int))) g (ls.set j y):=
 ⟨by rw [heap_setCell_same w g j _ _ _ h.blk,Qz4 h.len hj y],by rw [List.length_set,h.len]⟩
theorem Pw.other {w:World} {g:Nat} {ls:List Nat} (h:Pw w g ls) (p:Addr) (hp:g≠p.block) (v:Value):Pw (w.setCell p v) g ls:=
 ⟨by rw [heap_setCell_other w p g v hp];exact h.blk,h.len⟩
theorem Pw.row {w:World} {g:Nat} {ls:List Nat} (h:Pw w g ls) (ls':List Nat) (hl:ls'.length=32):Pw (w.setRow g (pwA ls')) g ls':=
 ⟨setRow_heap w g _ _ _ _ h.blk,hl⟩
theorem Pw.new' (w:World) (ls:List Nat) (g:Nat) (hl:ls.length=32) (hg:g=w.heap.size):Pw (w.alloc (.cells (pwA ls) 184)) g ls:=by subst hg;exact ⟨heap_alloc_new w _,hl⟩
theorem Old.rowP {a b:World} (h:Old a b) {g:Nat} (hg:a.heap.size<=g) (cs:Array Value):Old a (b.setRow g cs):=
 ⟨h.os,h.tape,h.output,by rw [setRow_size];exact h.size,fun k hk=>by rw [setRow_other b g k cs (by omega)];exact h.block k hk⟩
section
variable {ops:Array Oper} {rest:List Oper} {a:Act} {w:World} {Q:Exit->Act->World->Prop} {ty:TypeId} {pos:String} {d:Option Tmp} {x y:Operand}
theorem Qz5 {af:Array Edge} {g:Nat} {ls:List Nat} (hs:Pw w g ls) (hx:a.eval x=.pointer (some ⟨g,0,none⟩))
 (h:wpList Tryz.prog ops Q rest (a.put d (.agg (pwA ls))) w):wpList Tryz.prog ops Q (⟨d,.load 184 x,ty,pos,af,none⟩ :: rest) a w:=
 wpList_load_row rfl 184 x rfl g hx 184 (pwA ls) (0,0) _ hs.blk Tryz.underlying184 rfl (by rw [Qce hs.len];exact Qj2) h
theorem Qwb {af:Array Edge} {g:Nat} {ls:List Nat} (hs:Pw w g ls) (ls':List Nat) (hl:ls'.length=32) (hx:a.eval x=.pointer (some ⟨g,0,none⟩)) (hy:a.eval y=.agg (pwA ls'))
 (h:wpList Tryz.prog ops Q rest (a.put d undef) (w.setRow g (pwA ls'))):wpList Tryz.prog ops Q (⟨d,.store 184 x y,ty,pos,af,none⟩ :: rest) a w:=by
 refine wpList_store_row rfl 184 x y rfl g (pwA ls') hx hy 184 (pwA ls) hs.blk (by rw [Qce hl];exact Qj2) (by rw [Qce hs.len,Qce hl]) (Qs9 _) h
end
theorem Q2b {fn:Func} {p:Tmp} (h:fn.results=#[.cell p 184]) (tmps:Array Value) (w:World) {g:Nat} {ls:List Nat} (hp:tmps.getD p undef=.pointer (some ⟨g,0,none⟩)) (hs:Pw w g ls) :
 (results fn tmps).run Tryz.prog w=.ok (.agg (pwA ls)) w:=
 results_cell_row h tmps w g 184 (pwA ls) (0,0) _ hp hs.blk Tryz.underlying184 rfl (by rw [Qce hs.len];exact Qj2)
def pwS (P R:Nat):Nat->List Nat
 | 0=>List.replicate 32 0
 | k+1=>(pwS P R k).set k (R^k%P)
theorem Qic (P R:Nat):∀k,(pwS P R k).length=32
 | 0=>by simp [pwS]
 | k+1=>by rw [pwS,List.length_set,Qic P R k]
theorem Qor (P R:Nat):∀k j,j<k->k<=32->(pwS P R k).getD j 0=R^j%P
 | 0,j,h,_=>by omega
 | k+1,j,h,h2=>by
   rw [pwS]
   by_cases hj:j=k
   ·subst hj;simp [List.getD,Qic,show j<32 by omega]
   ·have:=Qor P R k j (by omega) (by omega);simp only [List.getD] at this ⊢;rw [List.getElem?_set_ne (by omega)];exact this
theorem Qid (P N R:Nat) (w:World) (hP:2<=P/\P<=268435456) (hN:2<=N/\N<=16) (hR:R<P) :
 Calls Tryz.prog 143 #[.agg #[.int .i64 P,.int .i64 N,.int .i64 R]] w fun e w'=>e=.returned (.agg (pwA (pwS P R (2*N))))/\Old w w':=by
 have HM:Hid (∀k,R^k%P*R%P=R^(k+1)%P):=fun k=>by rw [Nat.pow_succ,Nat.mul_mod,Nat.mod_mod,<- Nat.mul_mod]
 have HXL:Hid (∀k,R^k%P<P):=fun k=>Nat.mod_lt _ (by omega)
 have H1:Hid (1=R^0%P):=by rw [Nat.pow_zero,Nat.mod_eq_of_lt (by omega)];rfl
 have HS:Hid (∀k,pwS P R (k+1)=(pwS P R k).set k (R^k%P)):=fun k=>rfl
 have HL:=Qaa (fun k=>Qic P R k);have H0:Hid (pwS P R 0=List.replicate 32 0):=rfl;generalize pwS P R=F at *;obtain ⟨E,eE⟩:∃E:Nat->Nat,E=fun k=>R^k%P:=⟨_,rfl⟩
 have HM':Hid (∀k,E k*R%P=E (k+1)):=by rw [eE];exact HM
 have HXL':Hid (∀k,E k<P):=by rw [eE];exact HXL
 have H1':Hid (1=E 0):=by rw [eE];exact H1
 have HS':Hid (∀k,F (k+1)=(F k).set k (E k)):=by rw [eE];exact HS
 clear HM HXL H1 HS eE;obtain ⟨M,hM⟩:∃M,M=2*N:=⟨_,rfl⟩
 have eM:2*(N:Int)=(M:Int):=by omega
 rw [<- hM];have hM2:M<=32:=by omega
 have hpn2:¬P=0:=by omega
 have HZ:Hid (pwA (List.replicate 32 0)=#[.int .i64 0,.int .i64 0,.int .i64 0,.int .i64 0,.int .i64 0,.int .i64 0,.int .i64 0,.int .i64 0,.int .i64 0,.int .i64 0,.int .i64 0,.int .i64 0,.int .i64 0,.int .i64 0,.int .i64 0,.int .i64 0,.int .i64 0,.int .i64 0,.int .i64 0,.int .i64 0,.int .i64 0,.int .i64 0,.int .i64 0,.int .i64 0,.int .i64 0,.int .i64 0,.int .i64 0,.int .i64 0,.int .i64 0,.int .i64 0,.int .i64 0,.int .i64 0]):=rfl;have HPA:Hid (Pw (((w.alloc (.cells #[.int .i64 P,.int .i64 N,.int .i64 R] 89)).alloc (.cells (pwA (List.replicate 32 0)) 184)).alloc (.cells (pwA (List.replicate 32 0)) 184)) (w.heap.size+1) (List.replicate 32 0)):=(Pw.new' (w.alloc (.cells #[.int .i64 P,.int .i64 N,.int .i64 R] 89)) (List.replicate 32 0) _ (by simp) (by simp)).old ((Old.refl _).alloc _);have HPB:Hid (Pw (((w.alloc (.cells #[.int .i64 P,.int .i64 N,.int .i64 R] 89)).alloc (.cells (pwA (List.replicate 32 0)) 184)).alloc (.cells (pwA (List.replicate 32 0)) 184)) (w.heap.size+1+1) (F 0)):=by rw [H0.out];exact (Pw.new' ((w.alloc (.cells #[.int .i64 P,.int .i64 N,.int .i64 R] 89)).alloc (.cells (pwA (List.replicate 32 0)) 184)) (List.replicate 32 0) _ (by simp) (by simp))
 have HRC:Hid (Rc (((w.alloc (.cells #[.int .i64 P,.int .i64 N,.int .i64 R] 89)).alloc (.cells (pwA (List.replicate 32 0)) 184)).alloc (.cells (pwA (List.replicate 32 0)) 184)) w.heap.size P N R):=(Rc.new w P N R).old (((Old.refl _).alloc _).alloc _);rw [HZ.out] at HPA HPB HRC;clear hM HZ H0;go_enter Tryz.func143,Tryz.ntmps143;go_wp2_with fail
 go_loopw [4,5,9] (fun x y i W=>∃k:Nat,k<=M/\i=.int .i64 k/\x=.int .i64 ((E k:Nat):Int)/\Hid (Pw W (w.heap.size+1) (List.replicate 32 0))/\Hid (Pw W (w.heap.size+1+1) (F k))/\Hid (Rc W w.heap.size P N R)/\Hid (Old w W)) (fun _ _ i _=>M - (intOf i).toNat)
 case atStart=>exact ⟨0,by omega,rfl,by rw [<- H1'.out];rfl,HPA,HPB,HRC,(((Old.refl _).alloc _).alloc _).alloc _⟩
 case round=>
  obtain ⟨k,hk,rfl,rfl,PA,PB,RC,HG⟩:=hrel;clear HPA HPB HRC
  by_cases hlt:k<M
  ·have i1:(k:Int)<32:=by omega
   have c1:=PB.out.at (show k<32 by omega);have c2:=PB.out.fro k;have HP2:Hid (Pw (wr.setCell ⟨w.heap.size+1+1,k,none⟩ (.int .i64 ((E k:Nat):Int))) (w.heap.size+1+1) (F (k+1))):=by rw [HS'.out];exact PB.out.set (by omega) _
   have HA2:Hid (Pw (wr.setCell ⟨w.heap.size+1+1,k,none⟩ (.int .i64 ((E k:Nat):Int))) (w.heap.size+1) (List.replicate 32 0)):=PA.out.other _ (by simp) _;have HG2:Hid (Old w (wr.setCell ⟨w.heap.size+1+1,k,none⟩ (.int .i64 ((E k:Nat):Int)))):=HG.out.own (by simp;omega) _;have HR2:Hid (Rc (wr.setCell ⟨w.heap.size+1+1,k,none⟩ (.int .i64 ((E k:Nat):Int))) w.heap.size P N R):=⟨by have:=RC.out.lt;simpa using this,by rw [World.cell?_of_block (w:=wr) (heap_setCell_other wr ⟨w.heap.size+1+1,k,none⟩ w.heap.size _ (by simp;omega))];exact RC.out.c0,by rw [World.cell?_of_block (w:=wr) (heap_setCell_other wr ⟨w.heap.size+1+1,k,none⟩ w.heap.size _ (by simp;omega))];exact RC.out.c1,by rw [World.cell?_of_block (w:=wr) (heap_setCell_other wr ⟨w.heap.size+1+1,k,none⟩ w.heap.size _ (by simp;omega))];exact RC.out.c2⟩;have z0:=HR2.out.c0;have z2:=HR2.out.c2;have hx:=HXL'.out k;have HN:=Qaa (HM'.out k);generalize (F k).getD k 0=oldv at *;generalize E k=x at *;have hmul:=Qg9 x R P hx hR hP.2;have e1:(x:Int)*(R:Int)=((x*R:Nat):Int):=by simp
   have e2:((x*R:Nat):Int)%(P:Int)=((x*R%P:Nat):Int):=by simp
   generalize x*R=s at *;generalize s%P=q at *;go_wp2_with fail;exact ⟨⟨k+1,by omega,by go_num,by rw [<- HN.out,e2],HA2,HP2,HR2,HG2⟩,by simp [intOf];omega⟩
  ·have d1:decide ((k:Int)<(M:Int))=false:=by simp;omega
   obtain rfl:k=M:=by omega
   have HL2:=Qaa (HL.out k);go_wp2_with (first | ((with_reducible refine Qz5 PB.out ?_ ?_);exact rfl;simp only [Act.put,List.setIfInBounds_toArray,List.set_cons_succ,List.set_cons_zero]) | ((with_reducible refine Qwb PA.out (F k) HL2.out ?_ ?_ ?_);exact rfl;exact rfl;simp only [Act.put]) | ((with_reducible refine bodyPost_ret (Q2b Tryz.results143 _ _ ?_ (PA.out.row (F k) HL2.out)) ?_ ?_);exact rfl;exact rfl;exact ⟨rfl,HG.out.rowP (by omega) _⟩))
end Go.Proofs.YtdaepfjocofkjaaGreatDoor
namespace Go.Proofs.YtdaepfjocofkjaaGreatDoor
open Go.ChangeShapes Go.WideShapes Go.ChangeAt Go.RowKit
open M2
def nat (xs:List Int):List Nat:=xs.map Int.toNat
theorem Qd1 (xs:List Int):(nat xs).length=xs.length:=by simp [nat]
theorem Qta (xs:List Int) (j:Nat):(nat xs).getD j 0=(xs.getD j 0).toNat:=by
 simp only [nat,List.getD,List.getElem?_map]
 cases xs[j]? <;> rfl
theorem Qz6 {xs:List Int} (h:∀j,j<xs.length->0<=xs.getD j 0):toI (nat xs)=xs:=by
 apply List.ext_getElem
 ·simp [toI,nat]
 ·intro i h1 h2;have:=h i h2;simp only [toI,nat,List.map_map,List.getElem_map,Function.comp];have e:xs.getD i 0=xs[i]:=by simp [List.getD,h2]
  rw [e] at this;omega
theorem Qos {n:Bool} {xs:List Int} (h:Good n xs):toI (nat xs)=xs/\Gw n (nat xs)/\(nat xs).length<=40:=by
 have hr:=fun j hj=>(h.2.2 j hj).1.1
 refine ⟨Qz6 hr,⟨⟨?_,?_⟩,?_⟩,by rw [Qd1];exact h.1⟩
 ·intro x hx;obtain ⟨j,hj,e⟩:=List.getElem_of_mem hx;rw [Qd1] at hj;have h2:=(h.2.2 j hj).1;have h3:=Qta xs j;have e2:(nat xs).getD j 0=x:=by rw [← e];simp [List.getD,Qd1,hj]
  rw [e2] at h3;unfold LB;omega
 ·intro hne h0
  have hl:0<xs.length:=by
   rcases Nat.eq_zero_or_pos xs.length with h1 | h1
   ·exact absurd (List.length_eq_zero_iff.1 (by rw [Qd1];exact h1)) hne
   ·exact h1
  rw [List.getLast_eq_getElem] at h0;have hj:xs.length - 1<xs.length:=by omega
  have h2:=h.2.2 (xs.length - 1) hj;have h3:=Qta xs (xs.length - 1)
  have e2:(nat xs).getD (xs.length - 1) 0=0:=by
   rw [<- h0];simp [List.getD,Qd1,hj]
  rw [e2] at h3;exact h2.2 ⟨by omega,by omega⟩
 ·intro hn he;have:xs.length=0:=by rw [← Qd1,he];rfl
  exact h.2.1 ⟨this,hn⟩
end Go.Proofs.YtdaepfjocofkjaaGreatDoor
