/- Proved: what its theorems say. -/
import Derived.Test.YthcidnnkakppcaaGreatDoorDe18
import Derived.Test.YthcidnnkakppcaaGreatDoorDe19
import Derived.Test.YthcidnnkakppcaaGreatDoorDe38
import Derived.Test.YthcidnnkakppcaaGreatDoorLenW
set_option linter.unusedVariables false
set_option linter.unusedSimpArgs false
set_option maxHeartbeats 4000000
set_option maxRecDepth 100000
namespace Go.Proofs.YthcidnnkakppcaaGreatDoor
open Go.ChangeShapes Go.WideShapes Go.ChangeAt Go.RowKit
open M2
def Qaf (ps:List Nat):Nat:=ps.foldl (fun a p=>a*p) 1
theorem Qjj (ps:List Nat) (p:Nat):Qaf (ps++[p])=Qaf ps*p:=by simp [Qaf,List.foldl_append]
theorem Qew (ps:List Nat) (k:Nat) (h:k<ps.length):Qaf (ps.take (k+1))=Qaf (ps.take k)*ps.getD k 0:=by
 rw [<- Qjj]
 congr 1
 rw [List.take_add_one]
 congr 1
 simp [List.getD,h]
theorem Qkj (ps:List Nat) (hb:∀p∈ps,p<=268435456):∀k,k<=ps.length->Qaf (ps.take k)<=LB^k
 | 0,_=>by simp [Qaf]
 | k+1,h=>by
   rw [Qew ps k (by omega),Nat.pow_succ];have h1:=Qkj ps hb k (by omega)
   have h2:ps.getD k 0<=LB:=by
    have:ps.getD k 0∈ps:=by simp [List.getD,show k<ps.length by omega]
    exact hb _ this
   exact Nat.mul_le_mul h1 h2
theorem Qfx (ps:List Nat) (hb:∀p∈ps,p<=268435456) (k:Nat) (h:k<=ps.length):cnt (Qaf (ps.take k))<=k+1:=by
 refine Qb4 (Nat.lt_of_le_of_lt (Qkj ps hb k h) ?_);rw [Nat.pow_succ];have h1:=pw k;have h2:LB^k*2<=LB^k*LB:=Nat.mul_le_mul_left _ (by decide);omega
theorem Qwv (a p:Nat) (w:World) (ha:cnt a≤40) (hp:p≤268435456) :
  Calls Tryz.prog 96 #[.agg (szV a),.int .i64 (p:Int)] w fun e w'=>e=.returned (.agg (szV (a*p)))/\Old w w':=by
 have HPA:=Qaa (Qab ha (by omega));have c:=fun W=>Qc7 a p 0 W (by omega) hp (by omega)
 rw [Nat.add_zero] at c
 have HPR:Hid ((pad (a*p)).length=80):=by
  have h1:cnt (a*p)<=41:=by
   refine Qb4 ?_
   have h2:=cnt_lt a;have h3:=Nat.pow_le_pow_right Qa2 ha
   have h4:a*p<LB^40*LB:=by
    rcases Nat.eq_zero_or_pos p with h0 | h0
    ·subst h0;simp;exact Nat.mul_pos (pw 40) Qa2
    ·exact Nat.mul_lt_mul_of_lt_of_le (by omega) hp Qa2
   rw [Nat.pow_succ];exact h4
  exact Qab h1 (by omega)
 have H1:Hid (Sz ((w.alloc (.cells (szA (pad a) (cnt a)) 103)).alloc (.cells Tryz.zeroCells103 103)) w.heap.size (pad a) (cnt a)):=(Sz.new w _ _ HPA.out).alloc _;have HR:Hid (Sz ((w.alloc (.cells (szA (pad a) (cnt a)) 103)).alloc (.cells Tryz.zeroCells103 103)) (w.heap.size+1) (ext []) 0):=Sz.zero _ _ (by simp);have HG:Hid (Old w ((w.alloc (.cells (szA (pad a) (cnt a)) 103)).alloc (.cells Tryz.zeroCells103 103))):=((Old.refl w).alloc _).alloc _;unfold szV at *;generalize a*p=r at *;go_enter Tryz.func96,Tryz.ntmps96;go_wp2_with (first | ((with_reducible refine Qaq H1.out ?_ ?_);exact rfl;simp only [Act.put,List.setIfInBounds_toArray,List.set_cons_succ,List.set_cons_zero]) | (go_at_call 97;refine (c _).mono ?_;rintro e w5 ⟨rfl,g5⟩;have HR5:=Qaa (HR.out.old g5);have HG5:=Qaa (Old.trans HG.out g5);clear g5) | ((with_reducible refine Qap HR5.out (pad r) (cnt r) HPR.out ?_ ?_ ?_);exact rfl;exact rfl;simp only [Act.put]) | ((with_reducible refine bodyPost_ret (Qdf Tryz.results96 _ _ ?_ (HR5.out.row (pad r) (cnt r) HPR.out)) ?_ ?_);exact rfl;exact rfl;exact ⟨rfl,HG5.out.row (by omega) _⟩))
theorem Q2v (ps:List Nat) (v:Value) (w:World) (hv:Row w v (toZ ps)) (hl:ps.length≤6) (hb:∀p∈ps,p≤268435456) :
  Calls Tryz.prog 95 #[.func (.func 96) #[] #[],.agg (szV 1),v] w fun e w'=>e=.returned (.agg (szV (Qaf ps)))/\Old w w':=by
 have HP1:=Qaa (Qab (n:=1) (k:=3) (Qcn (by omega)) (by omega));have H1:Hid (Sz ((w.alloc (.cells (szA (pad 1) (cnt 1)) 103)).alloc (.cells Tryz.zeroCells103 103)) w.heap.size (pad 1) (cnt 1)):=(Sz.new w _ _ HP1.out).alloc _;have HZ:Hid (Sz (((w.alloc (.cells (szA (pad 1) (cnt 1)) 103)).alloc (.cells Tryz.zeroCells103 103)).alloc (.cells Tryz.zeroCells103 103)) (w.heap.size+1+1) (ext []) 0):=Sz.zero _ _ (by simp);have HY:Hid (Sz (((w.alloc (.cells (szA (pad 1) (cnt 1)) 103)).alloc (.cells Tryz.zeroCells103 103)).alloc (.cells Tryz.zeroCells103 103)) (w.heap.size+1) (ext []) 0):=(Sz.zero _ _ (by simp)).alloc _;have HG0:Hid (Old w (((w.alloc (.cells (szA (pad 1) (cnt 1)) 103)).alloc (.cells Tryz.zeroCells103 103)).alloc (.cells Tryz.zeroCells103 103))):=(((Old.refl w).alloc _).alloc _).alloc _;have HC:Hid (∀k,k<=ps.length->cnt (Qaf (ps.take k))<=7):=fun k h=>Nat.le_trans (Qfx ps hb k h) (by omega)
 have HB:=Qaa hb;have HV:=Qaa hv;obtain ⟨r,hr⟩:∃r,Qaf ps=r:=⟨_,rfl⟩
 rw [hr];have HRR:=Qaa hr;clear hr;obtain ⟨va,vc,rfl⟩:∃a c,v=.slice a ps.length c:=by have:=hv.slice;rwa [Qau] at this
 clear hb hv;unfold szV;go_enter Tryz.func95,Tryz.ntmps95;go_wp2_with (first | ((with_reducible refine Qaq H1.out ?_ ?_);exact rfl;simp only [Act.put,List.setIfInBounds_toArray,List.set_cons_succ,List.set_cons_zero]) | ((with_reducible refine Qap HZ.out (pad 1) (cnt 1) HP1.out ?_ ?_ ?_);exact rfl;exact rfl;simp only [Act.put]))
 go_loopw [13] (fun i W=>∃k:Nat,k<=ps.length/\i=.int .i64 k/\Hid (Sz W (w.heap.size+1+1) (pad (Qaf (ps.take k))) (cnt (Qaf (ps.take k))))/\Hid (Sz W (w.heap.size+1) (ext []) 0)/\Hid (Old w W)) (fun i _=>ps.length - (intOf i).toNat)
 case atStart=>exact ⟨0,by omega,rfl,HZ.out.row (pad 1) (cnt 1) HP1.out,HY.out.otherRow (by omega) _,HG0.out.row (by omega) _⟩
 case round=>
  obtain ⟨k,hk,rfl,HS,HR,HG⟩:=hrel;clear H1 HZ HY HG0
  by_cases hlt:k<ps.length
  ·obtain ⟨b,o,rfl,hb,hc⟩:∃b o,va=some ⟨b,o,none⟩∧b<w.heap.size∧∀j,j<ps.length→w.cell? ⟨b,o+j,none⟩=some (.int .i64 ((ps.getD j 0:Nat):Int)):=by
    rcases HV.out with ⟨a',cap',e,e2⟩ | ⟨b,o,cap',e,hb,h0,hc⟩
    ·have:=congrArg List.length e2;rw [Qau] at this;simp only [List.length_nil] at this;omega
    ·simp only [Value.slice.injEq] at e;rw [Qau] at hc;exact ⟨b,o,e.1,hb,fun j hj=>by rw [hc j hj,Qcd]⟩
   have c1:=(HG.out.cell (p:=⟨b,o+k,none⟩) hb).trans (hc k hlt);have hpb:ps.getD k 0<=268435456:=HB.out _ (by simp [List.getD,hlt]);have HE:=Qaa (Qew ps k hlt);have HC1:Hid (cnt (Qaf (ps.take k))<=40):=Nat.le_trans (HC.out k hk) (by omega)
   have HC2:Hid ((pad (Qaf (ps.take k)*ps.getD k 0)).length=80):=by
    have:=HC.out (k+1) hlt;rw [HE.out] at this;exact Qab this (by omega)
   have HF:Hid (∀W,Sz W (w.heap.size+1+1) (pad (Qaf (ps.take k)*ps.getD k 0)) (cnt (Qaf (ps.take k)*ps.getD k 0))->Sz W (w.heap.size+1+1) (pad (Qaf (ps.take (k+1)))) (cnt (Qaf (ps.take (k+1))))):=fun W h=>by rw [HE.out];exact h
   have ct:=fun W=>Qwv (Qaf (ps.take k)) (ps.getD k 0) W HC1.out hpb
   clear hc HE HC1;generalize Qaf (ps.take k)*ps.getD k 0=y at *;generalize Qaf (ps.take k)=q at *;generalize ps.getD k 0=p at *;unfold szV at ct;go_wp2_with (first | ((with_reducible refine Qaq HS.out ?_ ?_);exact rfl;simp only [Act.put,List.setIfInBounds_toArray,List.set_cons_succ,List.set_cons_zero]) | (go_at_call 96;refine (ct _).mono ?_;rintro e w5 ⟨rfl,g5⟩;have HS5:=Qaa (HS.out.old g5);have HR5:=Qaa (HR.out.old g5);have HG5:=Qaa (Old.trans HG.out g5);clear g5) | ((with_reducible refine Qap HS5.out (pad y) (cnt y) HC2.out ?_ ?_ ?_);exact rfl;exact rfl;simp only [Act.put]));exact ⟨⟨k+1,by omega,by go_num,HF.out _ (HS5.out.row (pad y) (cnt y) HC2.out),HR5.out.otherRow (by omega) _,HG5.out.row (by omega) _⟩,by simp [intOf];omega⟩
  ·have d1:decide ((k:Int)<(ps.length:Int))=false:=by simp;omega
   obtain rfl:k=ps.length:=by omega
   have HL:Hid ((pad r).length=80):=by
    have:=HC.out ps.length (Nat.le_refl _);rw [List.take_length,HRR.out] at this;exact Qab this (by omega)
   have HS2:Hid (Sz wr (w.heap.size+1+1) (pad r) (cnt r)):=by
    have:=HS.out;rw [List.take_length,HRR.out] at this;exact this
   clear HS;go_wp2_with (first | ((with_reducible refine Qaq HS2.out ?_ ?_);exact rfl;simp only [Act.put,List.setIfInBounds_toArray,List.set_cons_succ,List.set_cons_zero]) | ((with_reducible refine Qap HR.out (pad r) (cnt r) HL.out ?_ ?_ ?_);exact rfl;exact rfl;simp only [Act.put]) | ((with_reducible refine bodyPost_ret (Qdf Tryz.results95 _ _ ?_ (HR.out.row (pad r) (cnt r) HL.out)) ?_ ?_);exact rfl;exact rfl;exact ⟨rfl,HG.out.row (by omega) _⟩))
theorem Qb8 (ps:List Nat) (v:Value) (w:World) (hv:Row w v (toZ ps)) (hl:ps.length≤6) (hb:∀p∈ps,p≤268435456) :
  Calls Tryz.prog 61 #[v] w fun e w'=>e=.returned (.agg (szV (Qaf ps)))/\Old w w':=by
 have HV:=Qaa hv;obtain ⟨va,vc,rfl⟩:∃a c,v=.slice a ps.length c:=by have:=hv.slice;rwa [Qau] at this
 have c1:=fun W=>Qdt 1 W (by omega)
 have c2:=fun W (h:Row W (.slice va ps.length vc) (toZ ps))=>Q2v ps _ W h hl hb
 have HL:Hid ((pad (Qaf ps)).length=80):=by
  have:=Qfx ps hb ps.length (Nat.le_refl _);rw [List.take_length] at this;exact Qab this (by omega)
 have HZ:Hid (Sz (w.alloc (.cells Tryz.zeroCells103 103)) w.heap.size (ext []) 0):=Sz.zero _ _ rfl;clear hv hb;generalize Qaf ps=r at *;unfold szV at *;go_enter Tryz.func61,Tryz.ntmps61;go_wp2_with (first | (go_at_call 98;refine (c1 _).mono ?_;rintro e w1 ⟨rfl,g1⟩;have HG1:=Qaa (Old.trans ((Old.refl w).alloc _) g1);have HZ1:=Qaa (HZ.out.old g1);clear g1) | (go_at_call 95;refine (c2 _ (HV.out.old HG1.out)).mono ?_;rintro e w2 ⟨rfl,g2⟩;have HG2:=Qaa (Old.trans HG1.out g2);have HZ2:=Qaa (HZ1.out.old g2);clear g2) | ((with_reducible refine Qap HZ2.out (pad r) (cnt r) HL.out ?_ ?_ ?_);exact rfl;exact rfl;simp only [Act.put]) | ((with_reducible refine bodyPost_ret (Qdf Tryz.results61 _ _ ?_ (HZ2.out.row (pad r) (cnt r) HL.out)) ?_ ?_);exact rfl;exact rfl;exact ⟨rfl,HG2.out.row (Nat.le_refl _) _⟩))
structure Bas (ps:List Nat):Prop where
 len1:1<=ps.length
 len6:ps.length<=6
 lo:∀p∈ps,2<=p
 hi:∀p∈ps,p<=268435456
theorem Qkk {xs:List Int} (h:Qgq xs=true):∃ps:List Nat,xs=toZ ps/\Bas ps:=by
 simp only [Qgq,Bool.and_eq_true,decide_eq_true_eq] at h;obtain ⟨⟨h1,h2⟩,h3⟩:=h
 have h4:∀x∈xs,2<=x/\x<=268435456:=fun x hx=>by
  obtain ⟨j,hj,e⟩:=List.getElem_of_mem hx;have h5:=of_decide_eq_true h3 j hj (Nat.zero_le _);simp only [Qz0,Bool.and_eq_true,pmB] at h5;have h6:=Qb0 h5.1.1;have e2:xs.getD j 0=x:=by simp [List.getD,hj,e]
  rw [e2] at h6;exact h6
 refine ⟨xs.map Int.toNat,?_,by simpa using h1,by simpa using h2,fun p hp=>?_,fun p hp=>?_⟩
 ·rw [toZ,List.map_map];refine (List.map_id xs).symm.trans (List.map_congr_left fun x hx=>?_);have:=h4 x hx;simp;omega
 ·obtain ⟨x,hx,rfl⟩:=List.mem_map.1 hp;have:=h4 x hx;omega
 ·obtain ⟨x,hx,rfl⟩:=List.mem_map.1 hp;have:=h4 x hx;omega
theorem Qt3 (w:World) (t:TypeId):Row (w.alloc (.cells #[.int .i64 1] t)) (.slice (some ⟨w.heap.size,0,none⟩) 1 1) (toI (dig 1)):=by
 have e:dig 1=[1]:=by decide +kernel
 rw [e]
 exact Or.inr ⟨w.heap.size,0,1,rfl,by simp,by simp [toI],fun j hj=>by
  have:j=0:=by simp [toI] at hj;omega
  subst this;rw [Qad _ _ _ _ _ (by simp)];rfl⟩
theorem Qek (ps:List Nat) (v:Value) (w:World) (hv:Row w v (toZ ps)) (hl:ps.length≤6) (hb:∀p∈ps,p≤268435456) :
  Calls Tryz.prog 46 #[v] w fun e w'=>∃v',e=.returned v'/\Old w w'/\Row w' v' (toI (dig (Qaf ps))):=by
 have HC:Hid (∀k,k<=ps.length->cnt (Qaf (ps.take k))<=7):=fun k h=>Nat.le_trans (Qfx ps hb k h) (by omega)
 have HB:=Qaa hb;have HV:=Qaa hv;obtain ⟨va,vc,rfl⟩:∃a c,v=.slice a ps.length c:=by have:=hv.slice;rwa [Qau] at this
 clear hb hv;go_enter Tryz.func46,Tryz.ntmps46;go_wp2_with fail
 go_loopw [3,9] (fun x i W=>∃(k:Nat) (a:Option Addr) (n c:Nat),k<=ps.length/\i=.int .i64 k/\x=.slice a n c/\Hid (Row W (.slice a n c) (toI (dig (Qaf (ps.take k)))))/\Hid (Old w W)) (fun _ i _=>ps.length - (intOf i).toNat)
 case atStart=>exact ⟨0,_,_,_,by omega,rfl,rfl,Qt3 w _,(Old.refl w).alloc _⟩
 case round=>
  obtain ⟨k,a,n,c,hk,rfl,rfl,HR,HG⟩:=hrel
  by_cases hlt:k<ps.length
  ·obtain ⟨b,o,rfl,hb,hc⟩:∃b o,va=some ⟨b,o,none⟩∧b<w.heap.size∧∀j,j<ps.length→w.cell? ⟨b,o+j,none⟩=some (.int .i64 ((ps.getD j 0:Nat):Int)):=by
    rcases HV.out with ⟨a',cap',e,e2⟩ | ⟨b,o,cap',e,hb,h0,hc⟩
    ·have:=congrArg List.length e2;rw [Qau] at this;simp only [List.length_nil] at this;omega
    ·simp only [Value.slice.injEq] at e;rw [Qau] at hc;exact ⟨b,o,e.1,hb,fun j hj=>by rw [hc j hj,Qcd]⟩
   have c1:=(HG.out.cell (p:=⟨b,o+k,none⟩) hb).trans (hc k hlt);have hpb:ps.getD k 0<=268435456:=HB.out _ (by simp [List.getD,hlt]);have HE:=Qaa (Qew ps k hlt);have HC1:Hid ((dig (Qaf (ps.take k))).length<=1048576):=Nat.le_trans (HC.out k hk) (by omega);have HC2:Hid ((dig (ps.getD k 0)).length<=1048576):=Nat.le_trans (Qcn (by omega)) (by omega);have HF:Hid (∀W u,Row W u (toI (dig (Qaf (ps.take k)*ps.getD k 0)))->Row W u (toI (dig (Qaf (ps.take (k+1)))))):=fun W u h=>by rw [HE.out];exact h
   clear hc HE;generalize Qaf (ps.take k)=q at *;generalize ps.getD k 0=p at *;go_wp2_with fail;refine (Qlv p _ (by omega)).mono ?_
   rintro e w2 ⟨v2,rfl,g2,o2⟩;have HG2:=Qaa (Old.trans HG.out g2);have HR2:=Qaa (HR.out.old g2);have HP2:=Qaa (Own.row o2);obtain ⟨a2,cap2,rfl⟩:=(Own.row o2).slice;clear g2 o2;go_wp2_with fail;refine (Qf8 (dig q) (dig p) _ _ _ HR2.out HP2.out (Qao q) (Qao p) HC1.out HC2.out).mono ?_
   rw [Qag,Qag];rintro e w3 ⟨v3,rfl,g3,o3⟩;have HG3:=Qaa (Old.trans HG2.out g3);have HP3:=Qaa (Own.row o3);obtain ⟨a3,cap3,rfl⟩:=(Own.row o3).slice;clear g3 o3;go_wp2_with fail;exact ⟨⟨k+1,_,_,_,by omega,by go_num,rfl,HF.out _ _ HP3.out,HG3⟩,by simp [intOf];omega⟩
  ·have d1:decide ((k:Int)<(ps.length:Int))=false:=by simp;omega
   obtain rfl:k=ps.length:=by omega
   have HF:Hid (Row wr (.slice a n c) (toI (dig (Qaf ps)))):=by
    have:=HR.out;rw [List.take_length] at this;exact this
   clear HR;go_wp2_with fail;go_ret;exact ⟨_,rfl,HG.out,HF.out⟩
theorem Q2w:(Tryz.prog.info? 65).map (·.size)=some 2:=by kernel_rfl
theorem Qt4 (w:World) (base:Nat):Own w base (.slice none 0 0) (toI []):=⟨rfl,Or.inl ⟨rfl,rfl⟩⟩
theorem Qh5 (ps:List Nat) (h:∀p∈ps,2<=p):∀k,k<=ps.length->0<Qaf (ps.take k)
 | 0,_=>by simp [Qaf]
 | k+1,hk=>by
   rw [Qew ps k (by omega)];have h1:=Qh5 ps h k (by omega);have h2:2<=ps.getD k 0:=h _ (by simp [List.getD,show k<ps.length by omega]);exact Nat.mul_pos h1 (by omega)
theorem Bas.pos {ps:List Nat} (h:Bas ps):Qaf ps≠0:=by
 have:=Qh5 ps h.lo ps.length (Nat.le_refl _);rw [List.take_length] at this;omega
theorem Bas.cnt {ps:List Nat} (h:Bas ps):M2.cnt (Qaf ps)<=7:=by
 have:=Qfx ps h.hi ps.length (Nat.le_refl _);rw [List.take_length] at this;have:=h.len6;omega
end Go.Proofs.YthcidnnkakppcaaGreatDoor
namespace Go.Proofs.YthcidnnkakppcaaGreatDoor
open Go.ChangeShapes Go.WideShapes Go.ChangeAt Go.RowKit
def pwA (ls:List Nat):Array Value:=(ls.map (fun n:Nat=>Value.int .i64 (n:Int))).toArray
theorem Qce {ls:List Nat} (h:ls.length=32):(pwA ls).size=32:=by simp [pwA,h]
theorem Q2x {ls:List Nat} (h:ls.length=32) {j:Nat} (hj:j<32):(pwA ls)[j]? = some (.int .i64 ((ls.getD j 0:Nat):Int)):=by
 simp [pwA,h,hj,List.getD]
theorem Q0w {ls:List Nat} (h:ls.length=32) {j:Nat} (hj:j<32) (y:Nat):(pwA ls).setIfInBounds j (.int .i64 (y:Int))=pwA (ls.set j y):=by
 simp only [pwA,List.setIfInBounds_toArray]
 congr 1
 simp [List.map_set]
theorem Qt5 (ls:List Nat):(pwA ls).all (·.oneCell')=true:=by
 simp [pwA,Value.oneCell']
theorem Qjk:(Tryz.prog.info? 180).map (·.size)=some 32:=by kernel_rfl
structure Pw (w:World) (g:Nat) (ls:List Nat):Prop where
 blk:w.heap[g]? = some (.cells (pwA ls) 180 (0,0))
 len:ls.length=32
theorem Pw.lt {w:World} {g:Nat} {ls:List Nat} (h:Pw w g ls):g<w.heap.size:=(Array.getElem?_eq_some_iff.1 h.blk).1
theorem Pw.at {w:World} {g:Nat} {ls:List Nat} (h:Pw w g ls) {j:Nat} (hj:j<32):w.cell? ⟨g,j,none⟩=some (.int .i64 ((ls.getD j 0:Nat):Int)):=by
 rw [cell_of_row _ _ _ _ _ _ h.blk,Q2x h.len hj]
theorem Pw.fro {w:World} {g:Nat} {ls:List Nat} (h:Pw w g ls) (j:Nat):w.frozen? ⟨g,j,none⟩=false:=frozen_of_row _ _ _ _ _ h.blk
theorem Pw.old {w w':World} {g:Nat} {ls:List Nat} (h:Pw w g ls) (o:Old w w'):Pw w' g ls:=⟨by rw [o.block g h.lt];exact h.blk,h.len⟩
theorem Pw.by_ {w w':World} {g:Nat} {ls:List Nat} {ob:Option Nat} (h:Pw w g ls) (o:w.grownBy w' ob) (hne:∀k,ob=some k->k≠g):Pw w' g ls:=⟨(o.block g h.lt (fun e=>hne g e.symm rfl)).trans h.blk,h.len⟩
theorem Pw.set {w:World} {g:Nat} {ls:List Nat} (h:Pw w g ls) {j:Nat} (hj:j<32) (y:Nat):Pw (w.setCell ⟨g,j,none⟩ (.int .i64 (y:Int))) g (ls.set j y):=
 ⟨by rw [heap_setCell_same w g j _ _ _ h.blk,Q0w h.len hj y],by rw [List.length_set,h.len]⟩
theorem Pw.other {w:World} {g:Nat} {ls:List Nat} (h:Pw w g ls) (p:Addr) (hp:g≠p.block) (v:Value):Pw (w.setCell p v) g ls:=
 ⟨by rw [heap_setCell_other w p g v hp];exact h.blk,h.len⟩
theorem Pw.row {w:World} {g:Nat} {ls:List Nat} (h:Pw w g ls) (ls':List Nat) (hl:ls'.length=32):Pw (w.setRow g (pwA ls')) g ls':=
 ⟨setRow_heap w g _ _ _ _ h.blk,hl⟩
theorem Pw.new' (w:World) (ls:List Nat) (g:Nat) (hl:ls.length=32) (hg:g=w.heap.size):Pw (w.alloc (.cells (pwA ls) 180)) g ls:=by subst hg;exact ⟨heap_alloc_new w _,hl⟩
theorem Old.rowP {a b:World} (h:Old a b) {g:Nat} (hg:a.heap.size<=g) (cs:Array Value):Old a (b.setRow g cs):=
 ⟨h.os,h.tape,h.output,by rw [setRow_size];exact h.size,fun k hk=>by rw [setRow_other b g k cs (by omega)];exact h.block k hk⟩
section
variable {ops:Array Oper} {rest:List Oper} {a:Act} {w:World} {Q:Exit->Act->World->Prop} {ty:TypeId} {pos:String} {d:Option Tmp} {x y:Operand}
theorem Q0x {af:Array Edge} {g:Nat} {ls:List Nat} (hs:Pw w g ls) (hx:a.eval x=.pointer (some ⟨g,0,none⟩))
  (h:wpList Tryz.prog ops Q rest (a.put d (.agg (pwA ls))) w):wpList Tryz.prog ops Q (⟨d,.load 180 x,ty,pos,af,none⟩ :: rest) a w:=
 wpList_load_row rfl 180 x rfl g hx 180 (pwA ls) (0,0) _ hs.blk Tryz.underlying180 rfl (by rw [Qce hs.len];exact Qjk) h
theorem Qww {af:Array Edge} {g:Nat} {ls:List Nat} (hs:Pw w g ls) (ls':List Nat) (hl:ls'.length=32) (hx:a.eval x=.pointer (some ⟨g,0,none⟩)) (hy:a.eval y=.agg (pwA ls'))
  (h:wpList Tryz.prog ops Q rest (a.put d undef) (w.setRow g (pwA ls'))):wpList Tryz.prog ops Q (⟨d,.store 180 x y,ty,pos,af,none⟩ :: rest) a w:=by
 refine wpList_store_row rfl 180 x y rfl g (pwA ls') hx hy 180 (pwA ls) hs.blk (by rw [Qce hl];exact Qjk) (by rw [Qce hs.len,Qce hl]) (Qt5 _) h
end
theorem Q2y {fn:Func} {p:Tmp} (h:fn.results=#[.cell p 180]) (tmps:Array Value) (w:World) {g:Nat} {ls:List Nat} (hp:tmps.getD p undef=.pointer (some ⟨g,0,none⟩)) (hs:Pw w g ls) :
  (results fn tmps).run Tryz.prog w=.ok (.agg (pwA ls)) w:=
 results_cell_row h tmps w g 180 (pwA ls) (0,0) _ hp hs.blk Tryz.underlying180 rfl (by rw [Qce hs.len];exact Qjk)
def pwS (P R:Nat):Nat->List Nat
 | 0=>List.replicate 32 0
 | k+1=>(pwS P R k).set k (R^k%P)
theorem Qh6 (P R:Nat):∀k,(pwS P R k).length=32
 | 0=>by simp [pwS]
 | k+1=>by rw [pwS,List.length_set,Qh6 P R k]
theorem Qor (P R:Nat):∀k j,j<k->k<=32->(pwS P R k).getD j 0=R^j%P
 | 0,j,h,_=>by omega
 | k+1,j,h,h2=>by
   rw [pwS]
   by_cases hj:j=k
   ·subst hj;simp [List.getD,Qh6,show j<32 by omega]
   ·have:=Qor P R k j (by omega) (by omega);simp only [List.getD] at this ⊢;rw [List.getElem?_set_ne (by omega)];exact this
theorem Qh7 (P N R:Nat) (w:World) (hP:2≤P∧P≤268435456) (hN:2≤N∧N≤16) (hR:R<P) :
  Calls Tryz.prog 148 #[.agg #[.int .i64 P,.int .i64 N,.int .i64 R]] w fun e w'=>e=.returned (.agg (pwA (pwS P R (2*N))))/\Old w w':=by
 have HM:Hid (∀k,R^k%P*R%P=R^(k+1)%P):=fun k=>by rw [Nat.pow_succ,Nat.mul_mod,Nat.mod_mod,<- Nat.mul_mod]
 have HXL:Hid (∀k,R^k%P<P):=fun k=>Nat.mod_lt _ (by omega)
 have H1:Hid (1=R^0%P):=by rw [Nat.pow_zero,Nat.mod_eq_of_lt (by omega)];rfl
 have HS:Hid (∀k,pwS P R (k+1)=(pwS P R k).set k (R^k%P)):=fun k=>rfl
 have HL:=Qaa (fun k=>Qh6 P R k);have H0:Hid (pwS P R 0=List.replicate 32 0):=rfl;generalize pwS P R=F at *;obtain ⟨E,eE⟩:∃E:Nat->Nat,E=fun k=>R^k%P:=⟨_,rfl⟩
 have HM':Hid (∀k,E k*R%P=E (k+1)):=by rw [eE];exact HM
 have HXL':Hid (∀k,E k<P):=by rw [eE];exact HXL
 have H1':Hid (1=E 0):=by rw [eE];exact H1
 have HS':Hid (∀k,F (k+1)=(F k).set k (E k)):=by rw [eE];exact HS
 clear HM HXL H1 HS eE;obtain ⟨M,hM⟩:∃M,M=2*N:=⟨_,rfl⟩
 have eM:2*(N:Int)=(M:Int):=by omega
 rw [<- hM];have hM2:M<=32:=by omega
 have hpn2:¬P=0:=by omega
 have HZ:Hid (pwA (List.replicate 32 0)=#[.int .i64 0,.int .i64 0,.int .i64 0,.int .i64 0,.int .i64 0,.int .i64 0,.int .i64 0,.int .i64 0,.int .i64 0,.int .i64 0,.int .i64 0,.int .i64 0,.int .i64 0,.int .i64 0,.int .i64 0,.int .i64 0,.int .i64 0,.int .i64 0,.int .i64 0,.int .i64 0,.int .i64 0,.int .i64 0,.int .i64 0,.int .i64 0,.int .i64 0,.int .i64 0,.int .i64 0,.int .i64 0,.int .i64 0,.int .i64 0,.int .i64 0,.int .i64 0]):=rfl;have HPA:Hid (Pw (((w.alloc (.cells #[.int .i64 P,.int .i64 N,.int .i64 R] 133)).alloc (.cells (pwA (List.replicate 32 0)) 180)).alloc (.cells (pwA (List.replicate 32 0)) 180)) (w.heap.size+1) (List.replicate 32 0)):=(Pw.new' (w.alloc (.cells #[.int .i64 P,.int .i64 N,.int .i64 R] 133)) (List.replicate 32 0) _ (by simp) (by simp)).old ((Old.refl _).alloc _);have HPB:Hid (Pw (((w.alloc (.cells #[.int .i64 P,.int .i64 N,.int .i64 R] 133)).alloc (.cells (pwA (List.replicate 32 0)) 180)).alloc (.cells (pwA (List.replicate 32 0)) 180)) (w.heap.size+1+1) (F 0)):=by rw [H0.out];exact (Pw.new' ((w.alloc (.cells #[.int .i64 P,.int .i64 N,.int .i64 R] 133)).alloc (.cells (pwA (List.replicate 32 0)) 180)) (List.replicate 32 0) _ (by simp) (by simp))
 have HRC:Hid (Rc (((w.alloc (.cells #[.int .i64 P,.int .i64 N,.int .i64 R] 133)).alloc (.cells (pwA (List.replicate 32 0)) 180)).alloc (.cells (pwA (List.replicate 32 0)) 180)) w.heap.size P N R):=(Rc.new w P N R).old (((Old.refl _).alloc _).alloc _);rw [HZ.out] at HPA HPB HRC;clear hM HZ H0;go_enter Tryz.func148,Tryz.ntmps148;go_wp2_with fail
 go_loopw [4,5,9] (fun x y i W=>∃k:Nat,k<=M/\i=.int .i64 k/\x=.int .i64 ((E k:Nat):Int)/\Hid (Pw W (w.heap.size+1) (List.replicate 32 0))/\Hid (Pw W (w.heap.size+1+1) (F k))/\Hid (Rc W w.heap.size P N R)/\Hid (Old w W)) (fun _ _ i _=>M - (intOf i).toNat)
 case atStart=>exact ⟨0,by omega,rfl,by rw [<- H1'.out];rfl,HPA,HPB,HRC,(((Old.refl _).alloc _).alloc _).alloc _⟩
 case round=>
  obtain ⟨k,hk,rfl,rfl,PA,PB,RC,HG⟩:=hrel;clear HPA HPB HRC
  by_cases hlt:k<M
  ·have i1:(k:Int)<32:=by omega
   have c1:=PB.out.at (show k<32 by omega);have c2:=PB.out.fro k;have HP2:Hid (Pw (wr.setCell ⟨w.heap.size+1+1,k,none⟩ (.int .i64 ((E k:Nat):Int))) (w.heap.size+1+1) (F (k+1))):=by rw [HS'.out];exact PB.out.set (by omega) _
   have HA2:Hid (Pw (wr.setCell ⟨w.heap.size+1+1,k,none⟩ (.int .i64 ((E k:Nat):Int))) (w.heap.size+1) (List.replicate 32 0)):=PA.out.other _ (by simp) _;have HG2:Hid (Old w (wr.setCell ⟨w.heap.size+1+1,k,none⟩ (.int .i64 ((E k:Nat):Int)))):=HG.out.own (by simp;omega) _;have HR2:Hid (Rc (wr.setCell ⟨w.heap.size+1+1,k,none⟩ (.int .i64 ((E k:Nat):Int))) w.heap.size P N R):=⟨by have:=RC.out.lt;simpa using this,by rw [World.cell?_of_block (w:=wr) (heap_setCell_other wr ⟨w.heap.size+1+1,k,none⟩ w.heap.size _ (by simp;omega))];exact RC.out.c0,by rw [World.cell?_of_block (w:=wr) (heap_setCell_other wr ⟨w.heap.size+1+1,k,none⟩ w.heap.size _ (by simp;omega))];exact RC.out.c1,by rw [World.cell?_of_block (w:=wr) (heap_setCell_other wr ⟨w.heap.size+1+1,k,none⟩ w.heap.size _ (by simp;omega))];exact RC.out.c2⟩;have z0:=HR2.out.c0;have z2:=HR2.out.c2;have hx:=HXL'.out k;have HN:=Qaa (HM'.out k);generalize (F k).getD k 0=oldv at *;generalize E k=x at *;have hmul:=Qg5 x R P hx hR hP.2;have e1:(x:Int)*(R:Int)=((x*R:Nat):Int):=by simp
   have e2:((x*R:Nat):Int)%(P:Int)=((x*R%P:Nat):Int):=by simp
   generalize x*R=s at *;generalize s%P=q at *;go_wp2_with fail;exact ⟨⟨k+1,by omega,by go_num,by rw [<- HN.out,e2],HA2,HP2,HR2,HG2⟩,by simp [intOf];omega⟩
  ·have d1:decide ((k:Int)<(M:Int))=false:=by simp;omega
   obtain rfl:k=M:=by omega
   have HL2:=Qaa (HL.out k);go_wp2_with (first | ((with_reducible refine Q0x PB.out ?_ ?_);exact rfl;simp only [Act.put,List.setIfInBounds_toArray,List.set_cons_succ,List.set_cons_zero]) | ((with_reducible refine Qww PA.out (F k) HL2.out ?_ ?_ ?_);exact rfl;exact rfl;simp only [Act.put]) | ((with_reducible refine bodyPost_ret (Q2y Tryz.results148 _ _ ?_ (PA.out.row (F k) HL2.out)) ?_ ?_);exact rfl;exact rfl;exact ⟨rfl,HG.out.rowP (by omega) _⟩))
end Go.Proofs.YthcidnnkakppcaaGreatDoor
namespace Go.Proofs.YthcidnnkakppcaaGreatDoor
open Go.ChangeShapes Go.WideShapes Go.ChangeAt Go.RowKit
open M2
theorem Qiz (x:Nat) (w:World) (h1:x<268435456) :
  Calls Tryz.prog 136 #[.int .u64 (x:Int)] w fun e w'=>e=.returned (.int .i64 (Lib.bitLen x))/\w'=w:=by
 have c:=Qg1 (x:Int) w (by omega) (by omega);rw [Int.toNat_natCast] at c;have HC:Hid (Calls Tryz.prog 156 #[.int .u64 (x:Int)] w fun e w'=>e=.returned (.int .i64 (Lib.bitLen x))/\w'=w):=c;clear c;go_enter Tryz.func136,Tryz.ntmps136;go_wp2_with (go_at_call 156;refine HC.out.mono ?_;rintro e w' ⟨rfl,rfl⟩);go_ret;exact ⟨rfl,rfl⟩
end Go.Proofs.YthcidnnkakppcaaGreatDoor
