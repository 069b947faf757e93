/- Proved: what its theorems say. -/
import Derived.Test.YtjjohooeehjjcaaGreatDoorMu10
import Derived.Deep.AppendLies
import Derived.Test.YtjjohooeehjjcaaGreatDoorMu18
set_option linter.unusedVariables false
set_option linter.unusedSimpArgs false
set_option maxHeartbeats 4000000
set_option maxRecDepth 100000
namespace Go.Proofs.YtjjohooeehjjcaaGreatDoor
open Go.ChangeShapes Go.WideShapes Go.ChangeAt Go.RowKit
theorem Qa7 (xs:List Nat):(toZ xs).length=xs.length:=by simp
theorem Qf0 (xs:List Nat) (j:Nat):(toZ xs).getD j 0=((xs.getD j 0:Nat):Int):=by
 simp [List.getD,List.getElem?_map]
 cases xs[j]? <;> rfl
theorem Row.atZ {w:World} {v:Value} {xs:List Nat} (h:Row w v (toZ xs)) (h0:0<xs.length) :
  ∃b o cap,v=.slice (some ⟨b,o,none⟩) xs.length cap/\b<w.heap.size/\∀j,j<xs.length->w.cell? ⟨b,o+j,none⟩=some (.int .i64 ((xs.getD j 0:Nat):Int)):=by
 rcases h with ⟨a,cap,e,e2⟩ | ⟨b,o,cap,e,hb,h1,hc⟩
 ·have:=congrArg List.length e2;simp at this;rw [this] at h0
  cases h0
 ·rw [Qa7] at e hc;exact ⟨b,o,cap,e,hb,fun j hj=>by rw [hc j hj,Qf0]⟩
abbrev Qf1 (w:World) (base g n:Nat) (xs:List Int):Prop:=w.ownsRow base 3 1 (.slice (some ⟨g,0,none⟩) n n) n (xs.map (Value.int .i64))
theorem Qf1.get {w:World} {base g n:Nat} {xs:List Int} (h:Qf1 w base g n xs) (hn:xs.length=n) (j:Nat) (hj:j<n):w.cell? ⟨g,j,none⟩=some (.int .i64 (xs.getD j 0)):=by
 rw [World.ownsRow.cellAt h j (by omega)];have:j<xs.length:=by omega
 simp [List.getD,this]
theorem Qf1.free {w:World} {base g n:Nat} {xs:List Int} (h:Qf1 w base g n xs) (j:Nat):w.frozen? ⟨g,j,none⟩=false:=World.ownsRow.frozenAt h j
theorem Qf1.put {w:World} {base g n:Nat} {xs:List Int} (h:Qf1 w base g n xs) (j:Nat) (y:Int):Qf1 (w.setCell ⟨g,j,none⟩ (.int .i64 y)) base g n (xs.set j y):=by
 have:=(World.ownsRow.stored h j (.int .i64 y)).1;unfold Qf1;rw [List.map_set];exact this
theorem Qf1.own {w:World} {base g n:Nat} {xs:List Int} (h:Qf1 w base g n xs) (hn:xs.length=n):Own w base (.slice (some ⟨g,0,none⟩) n n) xs:=by
 unfold Own;rw [hn];exact h
theorem Qf1.old {w w':World} {base g n:Nat} {xs:List Int} (h:Qf1 w base g n xs) (hg:Old w w'):Qf1 w' base g n xs:=by
 refine ⟨h.1,?_⟩;rcases h.2 with hn | ⟨p,cap,cur,e,hb,hgg,rest⟩
 ·exact .inl hn
 ·refine .inr ⟨p,cap,cur,e,hb,?_,rest⟩;rw [hg.block p (Array.getElem?_eq_some_iff.1 hgg).1];exact hgg
theorem one_cell (w:World) (x:Value) (t:TypeId):∀j u,[x][j]? = some u->(w.alloc (.cells #[x] t)).cell? ((⟨w.heap.size,0,none⟩:Addr).add j)=some u:=by
 intro j u h
 match j,h with
 | 0,h=>
   have:x=u:=by simpa using h
   subst this;exact Qaj w _ _ _ _ rfl
 | j+1,h=>simp at h
theorem one_one (x:Int):∀u∈[Value.int .i64 x],u.oneCell'=true:=by simp [Value.oneCell']
theorem Own.snoc {w:World} {base:Nat} {v:Value} {xs:List Int} {y:Int} (h:w.ownsRow base 3 1 v (xs.length+1) (xs.map (Value.int .i64)++[.int .i64 y])):Own w base v (xs++[y]):=by
 unfold Own;rw [List.length_append,List.map_append];exact h
theorem Own.alloc {w:World} {base:Nat} {v:Value} {xs:List Int} (h:Own w base v xs) (o:Obj):Own (w.alloc o) base v xs:=h.old ((Old.refl _).alloc _)
end Go.Proofs.YtjjohooeehjjcaaGreatDoor
namespace Go.Proofs.YtjjohooeehjjcaaGreatDoor
open Go.ChangeShapes Go.WideShapes Go.ChangeAt Go.RowKit
open M2
def Qae (ps:List Nat):Nat:=ps.foldl (fun a p=>a*p) 1
theorem Qix (ps:List Nat) (p:Nat):Qae (ps++[p])=Qae ps*p:=by simp [Qae,List.foldl_append]
theorem Qeq (ps:List Nat) (k:Nat) (h:k<ps.length):Qae (ps.take (k+1))=Qae (ps.take k)*ps.getD k 0:=by
 rw [<- Qix]
 congr 1
 rw [List.take_add_one]
 congr 1
 simp [List.getD,h]
theorem Qj3 (ps:List Nat) (hb:∀p∈ps,p<=268435456):∀k,k<=ps.length->Qae (ps.take k)<=LB^k
 | 0,_=>by simp [Qae]
 | k+1,h=>by
   rw [Qeq ps k (by omega),Nat.pow_succ];have h1:=Qj3 ps hb k (by omega)
   have h2:ps.getD k 0<=LB:=by
    have:ps.getD k 0∈ps:=by simp [List.getD,show k<ps.length by omega]
    exact hb _ this
   exact Nat.mul_le_mul h1 h2
theorem Qfo (ps:List Nat) (hb:∀p∈ps,p<=268435456) (k:Nat) (h:k<=ps.length):cnt (Qae (ps.take k))<=k+1:=by
 refine Qcd (Nat.lt_of_le_of_lt (Qj3 ps hb k h) ?_);rw [Nat.pow_succ];have h1:=pw k;have h2:LB^k*2<=LB^k*LB:=Nat.mul_le_mul_left _ (by decide);omega
theorem Quf (a p:Nat) (w:World) (ha:cnt a≤40) (hp:p≤268435456) :
  Calls Tryz.prog 81 #[.agg (szV a),.int .i64 (p:Int)] w fun e w'=>e=.returned (.agg (szV (a*p)))/\Old w w':=by
 have HPA:=Qaa (Qac ha (by omega));have c:=fun W=>Qc9 a p 0 W (by omega) hp (by omega)
 rw [Nat.add_zero] at c
 have HPR:Hid ((pad (a*p)).length=80):=by
  have h1:cnt (a*p)<=41:=by
   refine Qcd ?_
   have h2:=cnt_lt a;have h3:=Nat.pow_le_pow_right Qa3 ha
   have h4:a*p<LB^40*LB:=by
    rcases Nat.eq_zero_or_pos p with h0 | h0
    ·subst h0;simp;exact Nat.mul_pos (pw 40) Qa3
    ·exact Nat.mul_lt_mul_of_lt_of_le (by omega) hp Qa3
   rw [Nat.pow_succ];exact h4
  exact Qac h1 (by omega)
 have H1:Hid (Sz ((w.alloc (.cells (szA (pad a) (cnt a)) 98)).alloc (.cells Tryz.zeroCells98 98)) w.heap.size (pad a) (cnt a)):=(Sz.new w _ _ HPA.out).alloc _;have HR:Hid (Sz ((w.alloc (.cells (szA (pad a) (cnt a)) 98)).alloc (.cells Tryz.zeroCells98 98)) (w.heap.size+1) (ext []) 0):=Sz.zero _ _ (by simp);have HG:Hid (Old w ((w.alloc (.cells (szA (pad a) (cnt a)) 98)).alloc (.cells Tryz.zeroCells98 98))):=((Old.refl w).alloc _).alloc _;unfold szV at *;generalize a*p=r at *;go_enter Tryz.func81,Tryz.ntmps81;go_wp2_with (first | ((with_reducible refine Qat H1.out ?_ ?_);exact rfl;simp only [Act.put,List.setIfInBounds_toArray,List.set_cons_succ,List.set_cons_zero]) | (go_at_call 82;refine (c _).mono ?_;rintro e w5 ⟨rfl,g5⟩;have HR5:=Qaa (HR.out.old g5);have HG5:=Qaa (Old.trans HG.out g5);clear g5) | ((with_reducible refine Qas HR5.out (pad r) (cnt r) HPR.out ?_ ?_ ?_);exact rfl;exact rfl;simp only [Act.put]) | ((with_reducible refine bodyPost_ret (Qdd Tryz.results81 _ _ ?_ (HR5.out.row (pad r) (cnt r) HPR.out)) ?_ ?_);exact rfl;exact rfl;exact ⟨rfl,HG5.out.row (by omega) _⟩))
theorem Qy3 (ps:List Nat) (v:Value) (w:World) (hv:Row w v (toZ ps)) (hl:ps.length≤6) (hb:∀p∈ps,p≤268435456) :
  Calls Tryz.prog 80 #[.func (.func 81) #[] #[],.agg (szV 1),v] w fun e w'=>e=.returned (.agg (szV (Qae ps)))/\Old w w':=by
 have HP1:=Qaa (Qac (n:=1) (k:=3) (Qcr (by omega)) (by omega));have H1:Hid (Sz ((w.alloc (.cells (szA (pad 1) (cnt 1)) 98)).alloc (.cells Tryz.zeroCells98 98)) w.heap.size (pad 1) (cnt 1)):=(Sz.new w _ _ HP1.out).alloc _;have HZ:Hid (Sz (((w.alloc (.cells (szA (pad 1) (cnt 1)) 98)).alloc (.cells Tryz.zeroCells98 98)).alloc (.cells Tryz.zeroCells98 98)) (w.heap.size+1+1) (ext []) 0):=Sz.zero _ _ (by simp);have HY:Hid (Sz (((w.alloc (.cells (szA (pad 1) (cnt 1)) 98)).alloc (.cells Tryz.zeroCells98 98)).alloc (.cells Tryz.zeroCells98 98)) (w.heap.size+1) (ext []) 0):=(Sz.zero _ _ (by simp)).alloc _;have HG0:Hid (Old w (((w.alloc (.cells (szA (pad 1) (cnt 1)) 98)).alloc (.cells Tryz.zeroCells98 98)).alloc (.cells Tryz.zeroCells98 98))):=(((Old.refl w).alloc _).alloc _).alloc _;have HC:Hid (∀k,k<=ps.length->cnt (Qae (ps.take k))<=7):=fun k h=>Nat.le_trans (Qfo ps hb k h) (by omega)
 have HB:=Qaa hb;have HV:=Qaa hv;obtain ⟨r,hr⟩:∃r,Qae ps=r:=⟨_,rfl⟩
 rw [hr];have HRR:=Qaa hr;clear hr;obtain ⟨va,vc,rfl⟩:∃a c,v=.slice a ps.length c:=by have:=hv.slice;rwa [Qa7] at this
 clear hb hv;unfold szV;go_enter Tryz.func80,Tryz.ntmps80;go_wp2_with (first | ((with_reducible refine Qat H1.out ?_ ?_);exact rfl;simp only [Act.put,List.setIfInBounds_toArray,List.set_cons_succ,List.set_cons_zero]) | ((with_reducible refine Qas HZ.out (pad 1) (cnt 1) HP1.out ?_ ?_ ?_);exact rfl;exact rfl;simp only [Act.put]))
 go_loopw [13] (fun i W=>∃k:Nat,k<=ps.length/\i=.int .i64 k/\Hid (Sz W (w.heap.size+1+1) (pad (Qae (ps.take k))) (cnt (Qae (ps.take k))))/\Hid (Sz W (w.heap.size+1) (ext []) 0)/\Hid (Old w W)) (fun i _=>ps.length - (intOf i).toNat)
 case atStart=>exact ⟨0,by omega,rfl,HZ.out.row (pad 1) (cnt 1) HP1.out,HY.out.otherRow (by omega) _,HG0.out.row (by omega) _⟩
 case round=>
  obtain ⟨k,hk,rfl,HS,HR,HG⟩:=hrel;clear H1 HZ HY HG0
  by_cases hlt:k<ps.length
  ·obtain ⟨b,o,rfl,hb,hc⟩:∃b o,va=some ⟨b,o,none⟩∧b<w.heap.size∧∀j,j<ps.length→w.cell? ⟨b,o+j,none⟩=some (.int .i64 ((ps.getD j 0:Nat):Int)):=by
    rcases HV.out with ⟨a',cap',e,e2⟩ | ⟨b,o,cap',e,hb,h0,hc⟩
    ·have:=congrArg List.length e2;rw [Qa7] at this;simp only [List.length_nil] at this;omega
    ·simp only [Value.slice.injEq] at e;rw [Qa7] at hc;exact ⟨b,o,e.1,hb,fun j hj=>by rw [hc j hj,Qf0]⟩
   have c1:=(HG.out.cell (p:=⟨b,o+k,none⟩) hb).trans (hc k hlt);have hpb:ps.getD k 0<=268435456:=HB.out _ (by simp [List.getD,hlt]);have HE:=Qaa (Qeq ps k hlt);have HC1:Hid (cnt (Qae (ps.take k))<=40):=Nat.le_trans (HC.out k hk) (by omega)
   have HC2:Hid ((pad (Qae (ps.take k)*ps.getD k 0)).length=80):=by
    have:=HC.out (k+1) hlt;rw [HE.out] at this;exact Qac this (by omega)
   have HF:Hid (∀W,Sz W (w.heap.size+1+1) (pad (Qae (ps.take k)*ps.getD k 0)) (cnt (Qae (ps.take k)*ps.getD k 0))->Sz W (w.heap.size+1+1) (pad (Qae (ps.take (k+1)))) (cnt (Qae (ps.take (k+1))))):=fun W h=>by rw [HE.out];exact h
   have ct:=fun W=>Quf (Qae (ps.take k)) (ps.getD k 0) W HC1.out hpb
   clear hc HE HC1;generalize Qae (ps.take k)*ps.getD k 0=y at *;generalize Qae (ps.take k)=q at *;generalize ps.getD k 0=p at *;unfold szV at ct;go_wp2_with (first | ((with_reducible refine Qat HS.out ?_ ?_);exact rfl;simp only [Act.put,List.setIfInBounds_toArray,List.set_cons_succ,List.set_cons_zero]) | (go_at_call 81;refine (ct _).mono ?_;rintro e w5 ⟨rfl,g5⟩;have HS5:=Qaa (HS.out.old g5);have HR5:=Qaa (HR.out.old g5);have HG5:=Qaa (Old.trans HG.out g5);clear g5) | ((with_reducible refine Qas HS5.out (pad y) (cnt y) HC2.out ?_ ?_ ?_);exact rfl;exact rfl;simp only [Act.put]));exact ⟨⟨k+1,by omega,by go_num,HF.out _ (HS5.out.row (pad y) (cnt y) HC2.out),HR5.out.otherRow (by omega) _,HG5.out.row (by omega) _⟩,by simp [intOf];omega⟩
  ·have d1:decide ((k:Int)<(ps.length:Int))=false:=by simp;omega
   obtain rfl:k=ps.length:=by omega
   have HL:Hid ((pad r).length=80):=by
    have:=HC.out ps.length (Nat.le_refl _);rw [List.take_length,HRR.out] at this;exact Qac this (by omega)
   have HS2:Hid (Sz wr (w.heap.size+1+1) (pad r) (cnt r)):=by
    have:=HS.out;rw [List.take_length,HRR.out] at this;exact this
   clear HS;go_wp2_with (first | ((with_reducible refine Qat HS2.out ?_ ?_);exact rfl;simp only [Act.put,List.setIfInBounds_toArray,List.set_cons_succ,List.set_cons_zero]) | ((with_reducible refine Qas HR.out (pad r) (cnt r) HL.out ?_ ?_ ?_);exact rfl;exact rfl;simp only [Act.put]) | ((with_reducible refine bodyPost_ret (Qdd Tryz.results80 _ _ ?_ (HR.out.row (pad r) (cnt r) HL.out)) ?_ ?_);exact rfl;exact rfl;exact ⟨rfl,HG.out.row (by omega) _⟩))
theorem Qcf (ps:List Nat) (v:Value) (w:World) (hv:Row w v (toZ ps)) (hl:ps.length≤6) (hb:∀p∈ps,p≤268435456) :
  Calls Tryz.prog 55 #[v] w fun e w'=>e=.returned (.agg (szV (Qae ps)))/\Old w w':=by
 have HV:=Qaa hv;obtain ⟨va,vc,rfl⟩:∃a c,v=.slice a ps.length c:=by have:=hv.slice;rwa [Qa7] at this
 have c1:=fun W=>Qdo 1 W (by omega)
 have c2:=fun W (h:Row W (.slice va ps.length vc) (toZ ps))=>Qy3 ps _ W h hl hb
 have HL:Hid ((pad (Qae ps)).length=80):=by
  have:=Qfo ps hb ps.length (Nat.le_refl _);rw [List.take_length] at this;exact Qac this (by omega)
 have HZ:Hid (Sz (w.alloc (.cells Tryz.zeroCells98 98)) w.heap.size (ext []) 0):=Sz.zero _ _ rfl;clear hv hb;generalize Qae ps=r at *;unfold szV at *;go_enter Tryz.func55,Tryz.ntmps55;go_wp2_with (first | (go_at_call 83;refine (c1 _).mono ?_;rintro e w1 ⟨rfl,g1⟩;have HG1:=Qaa (Old.trans ((Old.refl w).alloc _) g1);have HZ1:=Qaa (HZ.out.old g1);clear g1) | (go_at_call 80;refine (c2 _ (HV.out.old HG1.out)).mono ?_;rintro e w2 ⟨rfl,g2⟩;have HG2:=Qaa (Old.trans HG1.out g2);have HZ2:=Qaa (HZ1.out.old g2);clear g2) | ((with_reducible refine Qas HZ2.out (pad r) (cnt r) HL.out ?_ ?_ ?_);exact rfl;exact rfl;simp only [Act.put]) | ((with_reducible refine bodyPost_ret (Qdd Tryz.results55 _ _ ?_ (HZ2.out.row (pad r) (cnt r) HL.out)) ?_ ?_);exact rfl;exact rfl;exact ⟨rfl,HG2.out.row (Nat.le_refl _) _⟩))
end Go.Proofs.YtjjohooeehjjcaaGreatDoor
