/- Proved: what its theorems say. -/
namespace Go.Proofs.YtanijpekdnkicaaGreatDoor.M2
set_option linter.unusedVariables false
def LB:Nat:=268435456
def val:List Nat→Nat
 | []=>0
 | x :: xs=>x+LB*val xs
def digF:Nat→Nat→List Nat
 | 0,_=>[]
 | f+1,n=>if n=0 then [] else (n%LB) :: digF f (n/LB)
def dig (n:Nat):List Nat:=digF n n
theorem digF_zero (f:Nat):digF f 0=[]:=by cases f <;> rfl
theorem digF_eq (f:Nat):∀g n,n≤f→n≤g→digF f n=digF g n:=by
 induction f with
 | zero=>intro g n h k;obtain rfl:n=0:=by omega
         rw [digF_zero,digF_zero]
 | succ f ih=>
   intro g n h k
   by_cases hn:n=0
   ·subst hn;rw [digF_zero,digF_zero]
   ·obtain ⟨g',rfl⟩:∃g',g=g'+1:=⟨g - 1,by omega⟩
    have hd:n/LB<n:=Nat.div_lt_self (by omega) (by decide)
    have e1:digF (f+1) n=(n%LB) :: digF f (n/LB):=by rw [digF,if_neg hn]
    have e2:digF (g'+1) n=(n%LB) :: digF g' (n/LB):=by rw [digF,if_neg hn]
    rw [e1,e2,ih g' (n/LB) (by omega) (by omega)]
theorem dig_zero:dig 0=[]:=rfl
theorem dig_pos (n:Nat) (h:n≠0):dig n=(n%LB) :: dig (n/LB):=by
 obtain ⟨m,rfl⟩:∃m,n=m+1:=⟨n - 1,by omega⟩
 have hd:(m+1)/LB<m+1:=Nat.div_lt_self (by omega) (by decide)
 have e1:digF (m+1) (m+1)=((m+1)%LB) :: digF m ((m+1)/LB):=by rw [digF,if_neg h]
 show digF (m+1) (m+1)=_
 rw [e1,digF_eq m ((m+1)/LB) ((m+1)/LB) (by omega) (Nat.le_refl _)]
 rfl
def Lim (xs:List Nat):Prop:=∀x∈xs,x<LB
def Nrm (xs:List Nat):Prop:=Lim xs∧∀h:xs≠[],xs.getLast h≠0
theorem Lim.nil:Lim []:=fun x hx=>by cases hx
theorem Lim.cons {x:Nat} {xs:List Nat} (h:x<LB) (hs:Lim xs):Lim (x :: xs):=fun y hy=>by
 rcases List.mem_cons.1 hy with rfl | h1
 ·exact h
 ·exact hs y h1
theorem Lim.head {x:Nat} {xs:List Nat} (h:Lim (x :: xs)):x<LB:=h x (List.mem_cons_self ..)
theorem Lim.tail {x:Nat} {xs:List Nat} (h:Lim (x :: xs)):Lim xs:=fun y hy=>h y (List.mem_cons_of_mem _ hy)
theorem Lim.append {xs ys:List Nat} (h:Lim xs) (k:Lim ys):Lim (xs++ys):=fun y hy=>by
 rcases List.mem_append.1 hy with h1 | h1
 ·exact h y h1
 ·exact k y h1
theorem Lim.take {xs:List Nat} (h:Lim xs) (k:Nat):Lim (xs.take k):=fun y hy=>h y (List.mem_of_mem_take hy)
theorem Lim.getD {xs:List Nat} (h:Lim xs) (k:Nat):xs.getD k 0<LB:=by
 by_cases hk:k<xs.length
 ·have e:xs.getD k 0=xs[k]:=by simp [List.getD,hk]
  rw [e];exact h _ (List.getElem_mem hk)
 ·have e:xs.getD k 0=0:=by simp [List.getD,List.getElem?_eq_none (Nat.le_of_not_lt hk)]
  rw [e];decide
theorem LB_pos:0<LB:=by decide
theorem val_dig (n:Nat):val (dig n)=n:=by
 induction n using Nat.strongRecOn with
 | _ n ih=>
   by_cases h:n=0
   ·subst h;rw [dig_zero];rfl
   ·rw [dig_pos n h]
    show n%LB+LB*val (dig (n/LB))=n
    rw [ih (n/LB) (Nat.div_lt_self (by omega) (by decide))]
    exact Nat.mod_add_div n LB
theorem dig_lim (n:Nat):Lim (dig n):=by
 induction n using Nat.strongRecOn with
 | _ n ih=>
   by_cases h:n=0
   ·subst h;rw [dig_zero];exact Lim.nil
   ·rw [dig_pos n h]
    exact Lim.cons (Nat.mod_lt _ LB_pos) (ih _ (Nat.div_lt_self (by omega) (by decide)))
theorem dig_nil {n:Nat} (h:dig n=[]):n=0:=by
 have:=val_dig n
 rw [h] at this
 exact this.symm
theorem dig_ne {n:Nat} (h:n≠0):dig n≠[]:=fun e=>h (dig_nil e)
theorem dig_nrm (n:Nat):Nrm (dig n):=by
 refine ⟨dig_lim n,?_⟩
 induction n using Nat.strongRecOn with
 | _ n ih=>
   intro hne
   have h:n≠0:=by rintro rfl;exact hne dig_zero
   have e:=dig_pos n h
   by_cases h2:n/LB=0
   ·have e2:dig n=[n%LB]:=by rw [e,h2,dig_zero]
    have hlt:n<LB:=by
     by_cases hl:n<LB
     ·exact hl
     ·have:=Nat.div_pos (Nat.le_of_not_lt hl) LB_pos
      omega
    have:(dig n).getLast hne=n%LB:=by simp [e2]
    rw [this,Nat.mod_eq_of_lt hlt]
    exact h
   ·have h3:=ih (n/LB) (Nat.div_lt_self (by omega) (by decide)) (dig_ne h2)
    have:(dig n).getLast hne=(dig (n/LB)).getLast (dig_ne h2):=by
     simp only [e]
     rw [List.getLast_cons (dig_ne h2)]
    rw [this]
    exact h3
theorem val_zero_of {xs:List Nat} (h:Nrm xs) (hv:val xs=0):xs=[]:=by
 induction xs with
 | nil=>rfl
 | cons x xs ih=>
   exfalso
   have hv':x+LB*val xs=0:=hv
   have hp:=LB_pos
   have hx:x=0:=by omega
   have hs:val xs=0:=by
    have:LB*val xs=0:=by omega
    rcases Nat.mul_eq_zero.1 this with h1 | h1
    ·omega
    ·exact h1
   by_cases hxs:xs=[]
   ·subst hxs
    exact h.2 (by simp) (by simpa using hx)
   ·have:xs=[]:=ih ⟨h.1.tail,fun hne=>by
     have:=h.2 (by simp)
     rw [List.getLast_cons hne] at this
     exact this⟩ hs
    exact hxs this
theorem dig_val {xs:List Nat} (h:Nrm xs):dig (val xs)=xs:=by
 induction xs with
 | nil=>exact dig_zero
 | cons x xs ih=>
   have hne:val (x :: xs)≠0:=fun e=>by cases val_zero_of h e
   have hx:=h.1.head
   have ht:Nrm xs:=⟨h.1.tail,fun hne=>by
    have:=h.2 (by simp)
    rw [List.getLast_cons hne] at this
    exact this⟩
   rw [dig_pos _ hne]
   have e1:val (x :: xs)%LB=x:=by
    show (x+LB*val xs)%LB=x
    rw [Nat.add_mul_mod_self_left,Nat.mod_eq_of_lt hx]
   have e2:val (x :: xs)/LB=val xs:=by
    show (x+LB*val xs)/LB=val xs
    rw [Nat.add_mul_div_left _ _ LB_pos,Nat.div_eq_of_lt hx,Nat.zero_add]
   rw [e1,e2,ih ht]
theorem val_append:∀(xs ys:List Nat),val (xs++ys)=val xs+LB^xs.length*val ys
 | [],ys=>by simp [val]
 | x :: xs,ys=>by
   show x+LB*val (xs++ys)=x+LB*val xs+LB^(xs.length+1)*val ys
   rw [val_append xs ys,Nat.pow_succ,Nat.mul_add]
   grind
theorem val_snoc (xs:List Nat) (x:Nat):val (xs++[x])=val xs+LB^xs.length*x:=by
 rw [val_append];simp [val]
theorem val_lt:∀{xs:List Nat},Lim xs→val xs<LB^xs.length
 | [],_=>by simp [val]
 | x :: xs,h=>by
   have h1:=val_lt h.tail
   have h2:=h.head
   show x+LB*val xs<LB^(xs.length+1)
   rw [Nat.pow_succ,Nat.mul_comm (LB^xs.length)]
   have h3:LB*(val xs+1)≤LB*LB^xs.length:=Nat.mul_le_mul (Nat.le_refl _) h1
   rw [Nat.mul_add] at h3
   omega
theorem take_succ_getD (xs:List Nat) (k:Nat) (h:k<xs.length):xs.take (k+1)=xs.take k++[xs.getD k 0]:=by
 rw [List.take_add_one]
 simp [List.getD,h]
theorem val_take_succ (xs:List Nat) (k:Nat):val (xs.take (k+1))=val (xs.take k)+LB^k*xs.getD k 0:=by
 by_cases h:k<xs.length
 ·rw [take_succ_getD xs k h,val_snoc,List.length_take,Nat.min_eq_left (Nat.le_of_lt h)]
 ·have h':=Nat.le_of_not_lt h
  rw [List.take_of_length_le (by omega),List.take_of_length_le h']
  simp [List.getD,List.getElem?_eq_none h']
theorem dig_len_le {n k:Nat} (h:n<LB^k):(dig n).length≤k:=by
 by_cases hl:(dig n).length≤k
 ·exact hl
 ·exfalso
  have hn:=dig_nrm n
  have hne:dig n≠[]:=by intro e;rw [e] at hl;simp at hl
  have e:=List.dropLast_concat_getLast hne
  have hv:=val_dig n
  rw [← e,val_snoc,List.length_dropLast] at hv
  have h0:=hn.2 hne
  have h1:LB^k≤LB^((dig n).length - 1):=Nat.pow_le_pow_right LB_pos (by omega)
  have h2:LB^((dig n).length - 1)*1≤LB^((dig n).length - 1)*(dig n).getLast hne:=Nat.mul_le_mul (Nat.le_refl _) (by omega)
  omega
theorem split_pow (i c:Nat):LB^i*(c%LB)+LB^(i+1)*(c/LB)=LB^i*c:=by
 rw [Nat.pow_succ,Nat.mul_assoc,← Nat.mul_add,Nat.mod_add_div]
end Go.Proofs.YtanijpekdnkicaaGreatDoor.M2
namespace Go.Proofs.YtanijpekdnkicaaGreatDoor.M1
def lr (p sq:Nat):Nat→Nat→Nat→Nat
 | 0,_,b=>b
 | k+1,x,b=>lr p sq k (x*sq%p) (min b (x*sq%p))
def powM (a e p:Nat):Nat:=a^e%p
theorem mm (a b p:Nat):a%p*(b%p)%p=a*b%p:=(Nat.mul_mod a b p).symm
theorem ml (a b p:Nat):(a%p*b)%p=a*b%p:=by rw [Nat.mul_mod,Nat.mod_mod,← Nat.mul_mod]
theorem mrr (a b p:Nat):(a*(b%p))%p=a*b%p:=by rw [Nat.mul_mod,Nat.mod_mod,← Nat.mul_mod]
theorem pow_half_even (a e:Nat) (h:e%2=0):(a*a)^(e/2)=a^e:=by
 rw [← Nat.pow_two,← Nat.pow_mul];congr 1;omega
theorem pow_half_odd (a e:Nat) (h:e%2=1):a*(a*a)^(e/2)=a^e:=by
 rw [← Nat.pow_two,← Nat.pow_mul,Nat.mul_comm,← Nat.pow_succ];congr 1;omega
theorem step_even (r a e p:Nat) (h:e%2=0):r*(a*a%p)^(e/2)%p=r*a^e%p:=by
 rw [← mrr,← Nat.pow_mod,mrr,pow_half_even a e h]
theorem step_odd (r a e p:Nat) (h:e%2=1):(r*a%p)*(a*a%p)^(e/2)%p=r*a^e%p:=by
 rw [ml,← mrr,← Nat.pow_mod,mrr,Nat.mul_assoc,pow_half_odd a e h]
theorem powM_lt (a e p:Nat) (h:0<p):powM a e p<p:=Nat.mod_lt _ h
theorem uniq (a i j m:Nat) (hi:i<m) (hj:j<m) (h1:a*i%m=1) (h2:a*j%m=1):i=j:=by
 have e1:i*(a*j)%m=i:=by rw [Nat.mul_mod,h2,Nat.mul_one,Nat.mod_mod,Nat.mod_eq_of_lt hi]
 have e2:(a*i)*j%m=j:=by rw [Nat.mul_mod,h1,Nat.one_mul,Nat.mod_mod,Nat.mod_eq_of_lt hj]
 have:i*(a*j)=(a*i)*j:=by rw [← Nat.mul_assoc,Nat.mul_comm i a]
 rw [this] at e1;omega
def invM (a m:Nat):Nat:=((List.range m).find? (fun i=>a*i%m==1)).getD 0
theorem invM_of (a i m:Nat) (hi:i<m) (h:a*i%m=1):invM a m=i:=by
 unfold invM
 cases hf:(List.range m).find? (fun i=>a*i%m==1) with
 | none=>
   have:=List.find?_eq_none.1 hf i (List.mem_range.2 hi)
   simp [h] at this
 | some j=>
   have h1:=List.find?_some hf
   have h2:=List.mem_of_find?_eq_some hf
   simp at h1 h2
   simp
   exact uniq a j i m h2 hi h1 h
theorem invM_no (a m:Nat) (h:Nat.gcd a m≠1):invM a m=0:=by
 unfold invM
 cases hf:(List.range m).find? (fun i=>a*i%m==1) with
 | none=>rfl
 | some j=>
   exfalso;apply h
   have h1:=List.find?_some hf
   simp at h1
   have d1:Nat.gcd a m ∣ a*j:=Nat.dvd_trans (Nat.gcd_dvd_left a m) (Nat.dvd_mul_right a j)
   have d2:Nat.gcd a m ∣ m:=Nat.gcd_dvd_right a m
   have d3:Nat.gcd a m ∣ a*j%m:=(Nat.dvd_mod_iff d2).2 d1
   rw [h1] at d3
   exact Nat.dvd_one.1 d3
structure Eu (a m x y u v:Int):Prop where
 x0:0≤x
 xy:x<y
 ym:y≤m
 sg:(0≤u∧v≤0∧u*y - v*x=m)∨(u≤0∧0≤v∧v*x - u*y=m)
 dx:m ∣ u*a - x
 dy:m ∣ v*a - y
 g:Int.gcd x y=Int.gcd a m
 bu : -m≤u∧u≤m
 bv : -m≤v∧v≤m
theorem Eu.start (a m:Int) (h0:0≤a) (h1:a<m):Eu a m a m 1 0 where
 x0:=h0
 xy:=h1
 ym:=Int.le_refl _
 sg:=Or.inl ⟨by omega,by omega,by omega⟩
 dx:=by simp
 dy:=by simp
 g:=rfl
 bu:=by omega
 bv:=by omega
theorem Eu.step {a m x y u v:Int} (h:Eu a m x y u v) (hx:x≠0):Eu a m (y - y/x*x) x (v - y/x*u) u∧(-m≤y/x*u∧y/x*u≤m)∧(0≤y/x∧y/x≤m)∧(0≤y/x*x∧y/x*x≤y):=by
 obtain ⟨x0,xy,ym,sg,dx,dy,g,bu,bv⟩:=h
 have hq:=Int.emod_add_mul_ediv y x
 have r0:=Int.emod_nonneg y hx
 have r1:=Int.emod_lt_of_pos y (b:=x) (by omega)
 have hq0:0≤y/x:=Int.ediv_nonneg (by omega) x0
 have hq1:y/x≤y:=by
  have:=Int.mul_le_mul_of_nonneg_right (show 1≤x by omega) hq0
  have e:x*(y/x)≤y:=by omega
  omega
 have er:y - y/x*x=y%x:=by rw [Int.mul_comm];omega
 have eg:Int.gcd (y%x) x=Int.gcd a m:=by rw [← g,← er,Int.gcd_comm x y,Int.gcd_sub_mul_right_left]
 generalize hqq:y/x=q at *
 have key:(0≤v - q*u∧u≤0∧(v - q*u)*x - u*(y - q*x)=m∧0≤- (q*u)∧0≤v)∨(v - q*u≤0∧0≤u∧u*(y - q*x) - (v - q*u)*x=m∧0≤q*u∧v≤0):=by
  rcases sg with ⟨hu,hv,he⟩ | ⟨hu,hv,he⟩
  ·right
   have:=Int.mul_nonneg hq0 hu
   refine ⟨by omega,hu,by grind,this,hv⟩
  ·left
   have:=Int.mul_nonneg hq0 (show 0≤-u by omega)
   have e:q * -u = -(q*u):=by grind
   refine ⟨by omega,hu,by grind,by omega,hv⟩
 have bnd:(-m≤v - q*u∧v - q*u≤m):=by
  rcases key with ⟨h1,h2,h3,h4⟩ | ⟨h1,h2,h3,h4⟩
  ·have a1:0≤(-u)*(y - q*x):=Int.mul_nonneg (by omega) (by omega)
   have a2:(v - q*u)*1≤(v - q*u)*x:=Int.mul_le_mul_of_nonneg_left (by omega) h1
   have:(-u)*(y - q*x) = - (u*(y - q*x)):=by grind
   omega
  ·have a1:0≤u*(y - q*x):=Int.mul_nonneg (by omega) (by omega)
   have a2:(-(v - q*u))*1≤(-(v - q*u))*x:=Int.mul_le_mul_of_nonneg_left (by omega) (by omega)
   have:(-(v - q*u))*x = - ((v - q*u)*x):=by grind
   omega
 refine ⟨⟨by omega,by omega,by omega,?_,?_,dx,?_,bnd,bu⟩,?_,by omega,?_⟩
 ·rcases key with ⟨h1,h2,h3,h4⟩ | ⟨h1,h2,h3,h4⟩
  ·left;exact ⟨h1,h2,h3⟩
  ·right;exact ⟨h1,h2,h3⟩
 ·have:(v - q*u)*a - (y - q*x)=(v*a - y) - q*(u*a - x):=by grind
  rw [this];exact Int.dvd_sub dy (Int.dvd_mul_of_dvd_right dx)
 ·rw [er];exact eg
 ·rcases key with ⟨h1,h2,h3,h4⟩ | ⟨h1,h2,h3,h4⟩ <;> omega
 ·constructor
  ·exact Int.mul_nonneg hq0 x0
  ·omega
theorem Eu.done {a m y u v:Int} (h:Eu a m 0 y u v) (hm:2≤m) (ha:0≤a) :
 (if y≠1 then 0 else if Int.tmod v m<0 then Int.tmod v m+m else Int.tmod v m)=(invM a.toNat m.toNat:Int):=by
 obtain ⟨x0,xy,ym,sg,dx,dy,g,bu,bv⟩:=h
 have g':y.natAbs=Nat.gcd a.toNat m.toNat:=by
  have:Int.gcd 0 y=y.natAbs:=by simp
  rw [this] at g;rw [g];unfold Int.gcd;congr 1 <;> omega
 by_cases h1:y=1
 ·rw [if_neg (by simp [h1])]
  have hv:(if Int.tmod v m<0 then Int.tmod v m+m else Int.tmod v m)=v%m:=by
   by_cases hv0:0≤v
   ·rw [Int.tmod_eq_emod_of_nonneg hv0]
    have:=Int.emod_nonneg v (show m≠0 by omega)
    rw [if_neg (by omega)]
   ·have e:Int.tmod v m = - ((-v)%m):=by
     rw [← Int.tmod_eq_emod_of_nonneg (by omega),Int.neg_tmod,Int.neg_neg]
    have r0:=Int.emod_nonneg (-v) (show m≠0 by omega)
    have r1:=Int.emod_lt_of_pos (-v) (b:=m) (by omega)
    have s0:=Int.emod_nonneg v (show m≠0 by omega)
    have s1:=Int.emod_lt_of_pos v (b:=m) (by omega)
    have t1:=Int.emod_add_mul_ediv v m
    have t2:=Int.emod_add_mul_ediv (-v) m
    rw [e]
    by_cases hz:(-v)%m=0
    ·rw [hz];simp
     have:m ∣ v:=by have:=Int.dvd_of_emod_eq_zero hz;exact (Int.dvd_neg).1 this
     exact (Int.emod_eq_zero_of_dvd this).symm
    ·rw [if_pos (by omega)]
     have:(-v)%m=m - v%m:=by
      rw [Int.neg_emod]
      split
      ·rename_i hd;have:=Int.emod_eq_zero_of_dvd hd;exfalso;apply hz;exact Int.emod_eq_zero_of_dvd ((Int.dvd_neg).2 hd)
      ·have:(m.natAbs:Int)=m:=by omega
       omega
     omega
  rw [hv]
  have s0:=Int.emod_nonneg v (show m≠0 by omega)
  have s1:=Int.emod_lt_of_pos v (b:=m) (by omega)
  rw [invM_of a.toNat (v%m).toNat m.toNat (by omega)]
  ·omega
  ·have:((a.toNat*(v%m).toNat%m.toNat:Nat):Int)=1:=by
    have ea:((a.toNat:Nat):Int)=a:=by omega
    have ev:(((v%m).toNat:Nat):Int)=v%m:=by omega
    have em:((m.toNat:Nat):Int)=m:=by omega
    rw [Int.natCast_emod,Int.natCast_mul,ea,ev,em,Int.mul_emod,Int.emod_emod,← Int.mul_emod]
    subst h1
    obtain ⟨k,hk⟩:=dy
    have:a*v=1+m*k:=by rw [Int.mul_comm];omega
    rw [this,Int.add_mul_emod_self_left]
    exact Int.emod_eq_of_lt (by omega) (by omega)
   omega
 ·rw [if_pos h1,invM_no _ _ (by omega)];rfl
theorem tm (v m:Int) (hm:2≤m):(if Int.tmod v m<0 then Int.tmod v m+m else Int.tmod v m)=v%m:=by
 by_cases hv0:0≤v
 ·rw [Int.tmod_eq_emod_of_nonneg hv0]
  have:=Int.emod_nonneg v (show m≠0 by omega)
  rw [if_neg (by omega)]
 ·have e:Int.tmod v m = - ((-v)%m):=by
   rw [← Int.tmod_eq_emod_of_nonneg (by omega),Int.neg_tmod,Int.neg_neg]
  have r0:=Int.emod_nonneg (-v) (show m≠0 by omega)
  have r1:=Int.emod_lt_of_pos (-v) (b:=m) (by omega)
  have k:(-v)%m=if m ∣ v then 0 else m - v%m:=by
   rw [Int.neg_emod]
   have:(m.natAbs:Int)=m:=by omega
   rw [this]
  by_cases hd:m ∣ v
  ·rw [if_pos hd] at k
   have:=Int.emod_eq_zero_of_dvd hd
   rw [e,k,this];simp
  ·rw [if_neg hd] at k
   have hd':v%m≠0:=fun h=>hd (Int.dvd_of_emod_eq_zero h)
   have s0:=Int.emod_nonneg v (show m≠0 by omega)
   have s1:=Int.emod_lt_of_pos v (b:=m) (by omega)
   rw [if_pos (by omega)];omega
theorem Eu.done1 {a m u v:Int} (h:Eu a m 0 1 u v) (hm:2≤m) (ha:0≤a):v%m=(invM a.toNat m.toNat:Int):=by
 have:=h.done hm ha
 rw [if_neg (by simp),tm v m hm] at this
 exact this
theorem Eu.done0 {a m y u v:Int} (h:Eu a m 0 y u v) (hm:2≤m) (ha:0≤a) (hy:y≠1):(0:Int)=(invM a.toNat m.toNat:Int):=by
 have:=h.done hm ha
 rw [if_pos hy] at this
 exact this
structure Dig (u v y1 y0 q r:Nat):Prop where
 eq:q*y1+r=u
 ge:(u*4294967296+v)/(y1*4294967296+y0)≤q
structure Half (u v y1 y0:Nat):Prop where
 y1lo:2147483648≤y1
 y1hi:y1<4294967296
 y0hi:y0<4294967296
 vhi:v<4294967296
 ult:u<y1*4294967296+y0
theorem div_lt_K (u v Y K:Nat) (hv:v<K) (hu:u<Y):(u*K+v)/Y<K:=by
 apply Nat.div_lt_of_lt_mul
 have:(u+1)*K≤Y*K:=Nat.mul_le_mul_right _ (by omega)
 rw [Nat.add_mul] at this
 omega
theorem Half.Qlt {u v y1 y0:Nat} (h:Half u v y1 y0):(u*4294967296+v)/(y1*4294967296+y0)<4294967296:=
 div_lt_K u v _ 4294967296 h.vhi h.ult
theorem Dig.start {u v y1 y0:Nat} (h:Half u v y1 y0):Dig u v y1 y0 (u/y1) (u - u/y1*y1)∧u/y1*y1≤u∧u - u/y1*y1<4294967296∧u/y1≤4294967297:=by
 obtain ⟨h1,h2,h3,h4,h5⟩:=h
 have e:=Nat.div_add_mod u y1
 have m:=Nat.mod_lt u (show y1>0 by omega)
 rw [Nat.mul_comm] at e
 refine ⟨⟨by omega,?_⟩,by omega,by omega,?_⟩
 ·rw [Nat.le_div_iff_mul_le (by omega)]
  have hq:=Nat.div_mul_le_self (u*4294967296+v) (y1*4294967296+y0)
  generalize (u*4294967296+v)/(y1*4294967296+y0)=Q at *
  have e2:Q*(y1*4294967296+y0)=Q*y1*4294967296+Q*y0:=by grind
  generalize Q*y1=a at *
  generalize Q*y0=b at *
  omega
 ·rw [Nat.div_le_iff_le_mul_add_pred (by omega)]
  omega
theorem Dig.more {u v y1 y0 q r:Nat} (h:Half u v y1 y0) (d:Dig u v y1 y0 q r) (hc:4294967296≤q∨4294967296*r+v<q*y0):1≤q∧Dig u v y1 y0 (q - 1) (r+y1):=by
 have hQ:=h.Qlt
 have hm:1≤q∧(q - 1)*y1+(r+y1)=u∧(u*4294967296+v)/(y1*4294967296+y0)≤q - 1:=?_
 ·exact ⟨hm.1,⟨hm.2.1,hm.2.2⟩⟩
 obtain ⟨h1,h2,h3,h4,h5⟩:=h
 obtain ⟨e,g⟩:=d
 have hlt:(u*4294967296+v)/(y1*4294967296+y0)<q:=by
  rcases hc with hc | hc
  ·omega
  ·rw [Nat.div_lt_iff_lt_mul (by omega)]
   have e2:q*(y1*4294967296+y0)=q*y1*4294967296+q*y0:=by grind
   rw [e2]
   generalize q*y1=a at *
   generalize q*y0=b at *
   omega
 generalize (u*4294967296+v)/(y1*4294967296+y0)=Q at *
 refine ⟨by omega,?_,by omega⟩
 obtain ⟨q',rfl⟩:∃q',q=q'+1:=⟨q - 1,by omega⟩
 rw [Nat.add_sub_cancel,Nat.add_mul] at *
 omega
theorem Dig.done {u v y1 y0 q r:Nat} (h:Half u v y1 y0) (d:Dig u v y1 y0 q r) (hc:q*y0≤4294967296*r+v):q=(u*4294967296+v)/(y1*4294967296+y0):=by
 obtain ⟨h1,h2,h3,h4,h5⟩:=h
 obtain ⟨e,g⟩:=d
 apply Nat.le_antisymm _ g
 rw [Nat.le_div_iff_mul_le (by omega)]
 have e2:q*(y1*4294967296+y0)=q*y1*4294967296+q*y0:=by grind
 rw [e2]
 generalize q*y1=a at *
 generalize q*y0=b at *
 omega
theorem Dig.broke {u v y1 y0 q r:Nat} (h:Half u v y1 y0) (d:Dig u v y1 y0 q r) (hq:q≤4294967296) (hr:4294967296≤r):q=(u*4294967296+v)/(y1*4294967296+y0):=by
 have h':=h
 obtain ⟨h1,h2,h3,h4,h5⟩:=h'
 apply d.done h
 have:q*y0≤4294967296*y0:=Nat.mul_le_mul_right _ hq
 omega
theorem left_over (u v Y:Nat):u*4294967296+v - (u*4294967296+v)/Y*Y=(u*4294967296+v)%Y∧(u*4294967296+v)/Y*Y≤u*4294967296+v:=by
 have e:=Nat.div_add_mod (u*4294967296+v) Y
 rw [Nat.mul_comm] at e
 generalize (u*4294967296+v)/Y*Y=a at *
 omega
theorem two_digits (u v1 v0 Y:Nat):((u*4294967296+v1)%Y*4294967296+v0)%Y=(u*18446744073709551616+(v1*4294967296+v0))%Y:=by
 rw [Nat.add_mod,Nat.mul_mod,Nat.mod_mod,← Nat.mul_mod,← Nat.add_mod]
 have e2:(u*4294967296+v1)*4294967296+v0=u*18446744073709551616+(v1*4294967296+v0):=by omega
 rw [e2]
end Go.Proofs.YtanijpekdnkicaaGreatDoor.M1
namespace Go.Proofs.YtanijpekdnkicaaGreatDoor.F1
set_option linter.unusedVariables false
def Pr (n:Nat):Prop:=2≤n∧∀d,d ∣ n→d=1∨d=n
theorem least_factor (n:Nat) (hn:2≤n):∃q,2≤q∧q ∣ n∧∀d,2≤d→d ∣ n→q≤d:=by
 have key:∀k m,m≤k→2≤m→m ∣ n→∃q,2≤q∧q ∣ n∧∀d,2≤d→d ∣ n→q≤d:=by
  intro k
  induction k with
  | zero=>intro m h1 h2 _;omega
  | succ k ih=>
    intro m h1 h2 h3
    by_cases h:∃d,2≤d∧d ∣ n∧d<m
    ·obtain ⟨d,hd1,hd2,hd3⟩:=h
     exact ih d (by omega) hd1 hd2
    ·refine ⟨m,h2,h3,fun d hd1 hd2=>?_⟩
     by_cases hlt:d<m
     ·exact absurd ⟨d,hd1,hd2,hlt⟩ h
     ·omega
 exact key n n (Nat.le_refl _) hn (Nat.dvd_refl _)
theorem pr_of_least {n q:Nat} (hn:2≤n) (h2:2≤q) (hq:q ∣ n) (hl:∀d,2≤d→d ∣ n→q≤d):Pr q:=by
 refine ⟨h2,fun d hd=>?_⟩
 by_cases h1:d=1
 ·exact Or.inl h1
 ·have h0:d≠0:=by rintro rfl;have:=Nat.eq_zero_of_zero_dvd hd;omega
  have:=hl d (by omega) (Nat.dvd_trans hd hq)
  have:=Nat.le_of_dvd (by omega) hd
  exact Or.inr (by omega)
theorem not_pr {n:Nat} (hn:2≤n) (h:¬Pr n):∃q m,Pr q∧n=q*m∧2≤m∧q*q≤n:=by
 obtain ⟨q,h2,hq,hl⟩:=least_factor n hn
 obtain ⟨m,hm⟩:=hq
 have hp:=pr_of_least hn h2 ⟨m,hm⟩ hl
 have hm0:m≠0:=by rintro rfl;omega
 have hm1:m≠1:=by
  rintro rfl
  rw [Nat.mul_one] at hm
  subst hm
  exact h hp
 have hqm:q≤m:=hl m (by omega) ⟨q,by rw [hm,Nat.mul_comm]⟩
 exact ⟨q,m,hp,hm,by omega,by rw [hm];exact Nat.mul_le_mul (Nat.le_refl _) hqm⟩
theorem Pr.cop {p a:Nat} (h:Pr p) (ha:¬p ∣ a):Nat.Coprime p a:=by
 rcases h.2 _ (Nat.gcd_dvd_left p a) with h1 | h1
 ·exact h1
 ·exact absurd (h1 ▸ Nat.gcd_dvd_right p a) ha
theorem Pr.euclid {p a b:Nat} (h:Pr p) (hd:p ∣ a*b):p ∣ a∨p ∣ b:=by
 by_cases ha:p ∣ a
 ·exact Or.inl ha
 ·exact Or.inr ((h.cop ha).dvd_of_dvd_mul_left hd)
theorem not_dvd_of_lt {p a:Nat} (h0:0<a) (h1:a<p):¬p ∣ a:=fun h=>by have:=Nat.le_of_dvd h0 h;omega
theorem perm_of:∀(l1 l2:List Nat),l1.Nodup→l1 ⊆ l2→l2.length≤l1.length→l1.Perm l2
 | [],l2,_,_,h=>by
   have:l2=[]:=List.length_eq_zero_iff.1 (by simpa using h)
   rw [this]
 | a :: l,l2,hn,hs,h=>by
   have ha:a∈l2:=hs (List.mem_cons_self ..)
   have hp:=List.perm_cons_erase ha
   have hn':=List.nodup_cons.1 hn
   have hsub:l ⊆ l2.erase a:=by
    intro x hx
    have hne:x≠a:=by rintro rfl;exact hn'.1 hx
    exact (List.mem_erase_of_ne hne).2 (hs (List.mem_cons_of_mem _ hx))
   have hlen:(l2.erase a).length≤l.length:=by
    have e:=hp.length_eq
    simp at e h ⊢
    omega
   exact (List.Perm.cons a (perm_of l (l2.erase a) hn'.2 hsub hlen)).trans hp.symm
theorem sub_dvd_of_mod {p a b:Nat} (h:a%p=b%p) (hab:a≤b):p ∣ b - a:=by
 have h1:=Nat.div_add_mod a p
 have h2:=Nat.div_add_mod b p
 rw [h] at h1
 refine ⟨b/p - a/p,?_⟩
 rw [Nat.mul_sub]
 omega
theorem prod_map (a p:Nat):∀l:List Nat,(l.map (fun i=>a*i%p)).prod%p=a^l.length*l.prod%p
 | []=>by simp
 | x :: l=>by
   have ih:=prod_map a p l
   simp only [List.map_cons,List.prod_cons,List.length_cons]
   rw [Nat.mul_mod,ih,Nat.mod_mod,← Nat.mul_mod,Nat.pow_succ]
   congr 1
   grind
theorem prod_not {p:Nat} (hp:Pr p):∀l:List Nat,(∀x∈l,¬p ∣ x)→¬p ∣ l.prod
 | [],_,h=>by
   have:=Nat.le_of_dvd (by simp) h
   have:=hp.1
   simp at *
   omega
 | x :: l,hl,h=>by
   rw [List.prod_cons] at h
   rcases hp.euclid h with h1 | h1
   ·exact hl x (List.mem_cons_self ..) h1
   ·exact prod_not hp l (fun y hy=>hl y (List.mem_cons_of_mem _ hy)) h1
theorem Pr.fermat {p a:Nat} (hp:Pr p) (ha:¬p ∣ a):a^(p - 1)%p=1:=by
 have h2:=hp.1
 have hr:∀x∈List.range' 1 (p - 1),0<x∧x<p:=by
  intro x hx
  simp [List.mem_range'_1] at hx
  omega
 have hnd:((List.range' 1 (p - 1)).map (fun i=>a*i%p)).Nodup:=by
  unfold List.Nodup
  rw [List.pairwise_map]
  refine List.Pairwise.imp_of_mem ?_ (List.pairwise_lt_range' (s:=1) (n:=p - 1))
  intro x y hx hy hxy he
  have h1:=sub_dvd_of_mod he (Nat.mul_le_mul (Nat.le_refl a) (Nat.le_of_lt hxy))
  rw [← Nat.mul_sub] at h1
  rcases hp.euclid h1 with h3 | h3
  ·exact ha h3
  ·exact not_dvd_of_lt (by omega) (by have:=(hr y hy).2;omega) h3
 have hsub:(List.range' 1 (p - 1)).map (fun i=>a*i%p) ⊆ List.range' 1 (p - 1):=by
  intro y hy
  obtain ⟨x,hx,rfl⟩:=List.mem_map.1 hy
  have hlt:a*x%p<p:=Nat.mod_lt _ (by omega)
  have h0:a*x%p≠0:=by
   intro e
   rcases hp.euclid (Nat.dvd_of_mod_eq_zero e) with h3 | h3
   ·exact ha h3
   ·exact not_dvd_of_lt (hr x hx).1 (hr x hx).2 h3
  show a*x%p∈List.range' 1 (p - 1)
  rw [List.mem_range'_1]
  omega
 have hperm:=perm_of _ _ hnd hsub (by simp)
 have e:=prod_map a p (List.range' 1 (p - 1))
 rw [hperm.prod_nat,List.length_range'] at e
 have hno:=prod_not hp (List.range' 1 (p - 1)) (fun x hx=>not_dvd_of_lt (hr x hx).1 (hr x hx).2)
 generalize (List.range' 1 (p - 1)).prod=X at *
 have hapos:0<a:=by
  rcases Nat.eq_zero_or_pos a with h | h
  ·exact absurd (h ▸ Nat.dvd_zero p) ha
  ·exact h
 have hpos:1≤a^(p - 1):=Nat.one_le_pow _ _ hapos
 have hle:X≤a^(p - 1)*X:=by have:=Nat.mul_le_mul hpos (Nat.le_refl X);omega
 have h1:=sub_dvd_of_mod e hle
 have h3:a^(p - 1)*X - X=(a^(p - 1) - 1)*X:=by rw [Nat.sub_mul,Nat.one_mul]
 rw [h3] at h1
 rcases hp.euclid h1 with h4 | h4
 ·obtain ⟨c,hc⟩:=h4
  have:a^(p - 1)=1+p*c:=by omega
  rw [this,Nat.add_mul_mod_self_left,Nat.mod_eq_of_lt (by omega)]
 ·exact absurd h4 hno
theorem Pr.sq {p x y:Nat} (hp:Pr p) (h:x*x%p=y*y%p):x%p=y%p∨(x+y)%p=0:=by
 rcases Nat.le_total x y with hxy | hxy
 ·have h1:=sub_dvd_of_mod h (Nat.mul_le_mul hxy hxy)
  have e:y*y - x*x=(y - x)*(x+y):=by
   rw [Nat.sub_mul,Nat.mul_add,Nat.mul_add,Nat.mul_comm y x]
   omega
  rw [e] at h1
  rcases hp.euclid h1 with h2 | h2
  ·obtain ⟨c,hc⟩:=h2
   left
   have:y=x+p*c:=by omega
   rw [this,Nat.add_mul_mod_self_left]
  ·exact Or.inr (Nat.mod_eq_zero_of_dvd h2)
 ·have h1:=sub_dvd_of_mod h.symm (Nat.mul_le_mul hxy hxy)
  have e:x*x - y*y=(x - y)*(x+y):=by
   rw [Nat.sub_mul,Nat.mul_add,Nat.mul_add,Nat.mul_comm x y]
   omega
  rw [e] at h1
  rcases hp.euclid h1 with h2 | h2
  ·obtain ⟨c,hc⟩:=h2
   left
   have:x=y+p*c:=by omega
   rw [this,Nat.add_mul_mod_self_left]
  ·exact Or.inr (Nat.mod_eq_zero_of_dvd h2)
theorem Pr.roots {p:Nat} (hp:Pr p):∀(j r h:Nat),(r^2^j+1)%p=0→h^2^(j+1)%p=1→∃k,h%p=r^k%p
 | 0,r,h,hr,hh=>by
   have hh':h*h%p=1*1%p:=by
    have h2:=hp.1
    rw [Nat.one_mul,Nat.mod_eq_of_lt (show 1<p by omega)]
    simpa [Nat.pow_succ] using hh
   rcases hp.sq hh' with h1 | h1
   ·exact ⟨0,by simpa using h1⟩
   ·refine ⟨1,?_⟩
    simp at hr ⊢
    have e:(h+(r+1))%p=(r+(h+1))%p:=by congr 1;omega
    have e1:(h+(r+1))%p=h%p:=by rw [Nat.add_mod,hr,Nat.add_zero,Nat.mod_mod]
    have e2:(r+(h+1))%p=r%p:=by rw [Nat.add_mod,h1,Nat.add_zero,Nat.mod_mod]
    rw [← e1,e,e2]
 | j+1,r,h,hr,hh=>by
   have hr2:((r*r)^2^j+1)%p=0:=by
    rw [← hr,Nat.pow_succ 2 j,Nat.mul_comm (2^j) 2,Nat.pow_mul,Nat.pow_two]
   have hh2:(h*h)^2^(j+1)%p=1:=by
    have e:h^2^(j+1+1)=(h*h)^2^(j+1):=by rw [Nat.pow_succ 2 (j+1),Nat.mul_comm (2^(j+1)) 2,Nat.pow_mul,Nat.pow_two]
    rw [← e];exact hh
   obtain ⟨k,hk⟩:=Pr.roots hp j (r*r) (h*h) hr2 hh2
   have hk':h*h%p=r^k*r^k%p:=by rw [hk,Nat.mul_pow]
   rcases hp.sq hk' with h1 | h1
   ·exact ⟨k,h1⟩
   ·refine ⟨k+2^(j+1),?_⟩
    have h3:(r^k*(r^2^(j+1)+1))%p=0:=by rw [Nat.mul_mod,hr,Nat.mul_zero,Nat.zero_mod]
    rw [Nat.mul_add,Nat.mul_one,← Nat.pow_add] at h3
    generalize r^(k+2^(j+1))=U at *
    generalize r^k=V at *
    have e1:(h+(U+V))%p=h%p:=by rw [Nat.add_mod,h3,Nat.add_zero,Nat.mod_mod]
    have e2:(U+(h+V))%p=U%p:=by rw [Nat.add_mod,h1,Nat.add_zero,Nat.mod_mod]
    rw [← e1,← e2]
    congr 1
    omega
end Go.Proofs.YtanijpekdnkicaaGreatDoor.F1
namespace Go.Proofs.YtanijpekdnkicaaGreatDoor.F1
open Go.Proofs.YtanijpekdnkicaaGreatDoor.M1
set_option linter.unusedVariables false
def Poly:Nat→Int→(Int→Int)→Prop
 | 0,c,f=>∀x,f x=c
 | m+1,c,f=>∃g d,Poly m c g∧∀x,f x=x*g x+d
theorem Poly.div:∀(m:Nat) (c:Int) (f:Int→Int),Poly (m+1) c f→∀r,∃g,Poly m c g∧∀x,f x=(x - r)*g x+f r
 | 0,c,f,⟨g,d,hg,hf⟩,r=>by
   have hg':∀x,g x=c:=hg
   refine ⟨fun _=>c,fun _=>rfl,fun x=>?_⟩
   rw [hf x,hf r,hg' x,hg' r]
   grind
 | m+1,c,f,⟨g,d,hg,hf⟩,r=>by
   obtain ⟨g1,h1,h2⟩:=Poly.div m c g hg r
   refine ⟨fun x=>x*g1 x+g r,⟨g1,g r,h1,fun x=>rfl⟩,fun x=>?_⟩
   rw [hf x,hf r,h2 x]
   grind
theorem Pr.euclidI {p:Nat} (hp:Pr p) {a b:Int} (h:(p:Int) ∣ a*b):(p:Int) ∣ a∨(p:Int) ∣ b:=by
 rw [Int.ofNat_dvd_left,Int.natAbs_mul] at h
 rw [Int.ofNat_dvd_left,Int.ofNat_dvd_left]
 exact hp.euclid h
theorem Poly.roots {p:Nat} (hp:Pr p):∀(m:Nat) (c:Int) (f:Int→Int),Poly m c f→¬(p:Int) ∣ c→∀l:List Nat,l.Nodup→(∀x∈l,x<p∧(p:Int) ∣ f x)→l.length≤m
 | 0,c,f,hf,hc,l,hn,hl=>by
   cases l with
   | nil=>simp
   | cons r l=>
     have h1:=(hl r (List.mem_cons_self ..)).2
     have h2:f r=c:=hf r
     rw [h2] at h1
     exact absurd h1 hc
 | m+1,c,f,hf,hc,l,hn,hl=>by
   cases l with
   | nil=>simp
   | cons r l=>
     obtain ⟨g,hg,hd⟩:=Poly.div m c f hf (r:Int)
     have hn':=List.nodup_cons.1 hn
     obtain ⟨hr1,hr2⟩:=hl r (List.mem_cons_self ..)
     have:=Poly.roots hp m c g hg hc l hn'.2 (fun x hx=>by
      obtain ⟨hx1,hx2⟩:=hl x (List.mem_cons_of_mem _ hx)
      refine ⟨hx1,?_⟩
      have h3:(p:Int) ∣ ((x:Int) - r)*g x:=by
       have e:((x:Int) - r)*g x=f x - f r:=by rw [hd x];omega
       rw [e]
       exact Int.dvd_sub hx2 hr2
      rcases hp.euclidI h3 with h4 | h4
      ·exfalso
       have hne:x≠r:=by rintro rfl;exact hn'.1 hx
       rw [Int.ofNat_dvd_left] at h4
       exact not_dvd_of_lt (a:=((x:Int) - r).natAbs) (by omega) (by omega) h4
      ·exact h4)
     simp
     omega
theorem Poly.pow:∀m:Nat,Poly m 1 (fun x=>x^m)
 | 0=>fun x=>by simp
 | m+1=>⟨fun x=>x^m,0,Poly.pow m,fun x=>by show x^(m+1)=x*x^m+0;rw [Int.pow_succ];grind⟩
theorem Pr.non {p m:Nat} (hp:Pr p) (hm:1≤m) (hmp:m<p - 1):∃b,2≤b∧b<p∧b^m%p≠1:=by
 apply Classical.byContradiction
 intro hno
 have h2:=hp.1
 obtain ⟨k,rfl⟩:∃k,m=k+1:=⟨m - 1,by omega⟩
 have hpoly:Poly (k+1) 1 (fun x=>x^(k+1) - 1):=⟨fun x=>x^k,-1,Poly.pow k,fun x=>by show x^(k+1) - 1=x*x^k + -1;rw [Int.pow_succ];grind⟩
 have hc:¬(p:Int) ∣ 1:=by
  rw [Int.ofNat_dvd_left]
  exact not_dvd_of_lt (by omega) (by show 1<p;omega)
 have:=Poly.roots hp (k+1) 1 _ hpoly hc (List.range' 1 (p - 1)) List.nodup_range' (fun x hx=>by
  simp [List.mem_range'_1] at hx
  refine ⟨by omega,?_⟩
  have h1:x^(k+1)%p=1:=by
   by_cases hx1:x=1
   ·subst hx1
    rw [Nat.one_pow,Nat.mod_eq_of_lt (by omega)]
   ·apply Classical.byContradiction
    intro hne
    exact hno ⟨x,by omega,by omega,hne⟩
  have e:=Nat.div_add_mod (x^(k+1)) p
  rw [h1] at e
  refine ⟨((x^(k+1)/p:Nat):Int),?_⟩
  have e2:((x:Int))^(k+1)=((x^(k+1):Nat):Int):=by simp
  show (x:Int)^(k+1) - 1=_
  rw [e2,← Int.natCast_mul]
  omega)
 rw [List.length_range'] at this
 omega
theorem pow_one_mod {p:Nat} (hp:2≤p) (x k:Nat) (h:x%p=1):x^k%p=1:=by
 rw [Nat.pow_mod,h,Nat.one_pow,Nat.mod_eq_of_lt (by omega)]
theorem mlx (a b p:Nat):(a%p*b)%p=a*b%p:=by rw [Nat.mul_mod,Nat.mod_mod,← Nat.mul_mod]
theorem lr_le (p sq:Nat):∀(k x b:Nat),lr p sq k x b≤b∧∀i,1≤i→i≤k→lr p sq k x b≤x*sq^i%p
 | 0,x,b=>⟨Nat.le_refl _,fun i h1 h2=>by omega⟩
 | k+1,x,b=>by
   obtain ⟨h1,h2⟩:=lr_le p sq k (x*sq%p) (min b (x*sq%p))
   have e:lr p sq (k+1) x b=lr p sq k (x*sq%p) (min b (x*sq%p)):=rfl
   rw [e]
   refine ⟨by omega,fun i hi1 hi2=>?_⟩
   by_cases h:i=1
   ·subst h
    rw [Nat.pow_one]
    omega
   ·have h3:=h2 (i - 1) (by omega) (by omega)
    rw [mlx,Nat.mul_assoc,← Nat.pow_succ',show (i - 1).succ=i by omega] at h3
    exact h3
theorem lr_mem (p sq:Nat):∀(k x b:Nat),lr p sq k x b=b∨∃i,i≤k∧lr p sq k x b=x*sq^i%p
 | 0,x,b=>Or.inl rfl
 | k+1,x,b=>by
   have e:lr p sq (k+1) x b=lr p sq k (x*sq%p) (min b (x*sq%p)):=rfl
   rw [e]
   rcases lr_mem p sq k (x*sq%p) (min b (x*sq%p)) with h | ⟨i,hi,h⟩
   ·rw [h]
    rcases Nat.le_total b (x*sq%p) with hb | hb
    ·exact Or.inl (Nat.min_eq_left hb)
    ·exact Or.inr ⟨1,by omega,by rw [Nat.pow_one];exact Nat.min_eq_right hb⟩
   ·refine Or.inr ⟨i+1,by omega,?_⟩
    rw [h,mlx,Nat.mul_assoc,← Nat.pow_succ']
theorem least_root {p n j A e:Nat} (hp:Pr p) (hp3:3≤p) (hn:n=2^(j+1)) (he:e*(n/2)=(p - 1)/2) (hpm:p=2*((p - 1)/2)+1) (hA2:2≤A) (hmin:∀b,2≤b→b<A→b^((p - 1)/2)%p=1) (hA:A^((p - 1)/2)%p≠1)
 (r R:Nat) (hr:r=A^e%p) (hR:R=lr p (r*r%p) (n/2 - 1) r r) :
 R^n%p=1∧R^(n/2)%p≠1∧1≤R∧∀h,h<R→¬(h^n%p=1∧h^(n/2)%p≠1):=by
 have hn2:n/2=2^j:=by rw [hn,Nat.pow_succ,Nat.mul_div_cancel _ (by omega)]
 have hnn:n=2^j*2:=by rw [hn,Nat.pow_succ]
 have hj:1≤2^j:=Nat.one_le_two_pow
 have hAp:A<p:=by
  obtain ⟨b,hb1,hb2,hb3⟩:=hp.non (m:=(p - 1)/2) (by omega) (by omega)
  by_cases h:A≤b
  ·omega
  ·exact absurd (hmin b hb1 (by omega)) hb3
 have hfer:=hp.fermat (not_dvd_of_lt (show 0<A by omega) hAp)
 have hsq:A^((p - 1)/2)*A^((p - 1)/2)%p=1*1%p:=by
  rw [← Nat.pow_add,show (p - 1)/2+(p - 1)/2=p - 1 by omega,hfer,Nat.one_mul,Nat.mod_eq_of_lt (by omega)]
 have hneg:(A^((p - 1)/2)+1)%p=0:=by
  rcases hp.sq hsq with h | h
  ·rw [Nat.mod_eq_of_lt (show 1<p by omega)] at h
   exact absurd h hA
  ·exact h
 have hrp:r<p:=by rw [hr];exact Nat.mod_lt _ (by omega)
 have hrj:r^2^j%p=A^((p - 1)/2)%p:=by rw [hr,← Nat.pow_mod,← Nat.pow_mul,← hn2,he]
 have hr1:(r^2^j+1)%p=0:=by rw [Nat.add_mod,hrj,← Nat.add_mod];exact hneg
 have hrn:r^n%p=1:=by
  rw [hnn,Nat.pow_mul,Nat.pow_two,Nat.mul_mod,hrj,← Nat.mul_mod,hsq,Nat.one_mul,Nat.mod_eq_of_lt (by omega)]
 have hodd:∀i,r*(r*r%p)^i%p=r^(2*i+1)%p:=by
  intro i
  rw [Nat.mul_mod,← Nat.pow_mod,← Nat.mul_mod,← Nat.pow_two,← Nat.pow_mul,← Nat.pow_succ']
 have hmem:∃i,R=r^(2*i+1)%p:=by
  rcases lr_mem p (r*r%p) (n/2 - 1) r r with h | ⟨i,_,h⟩
  ·exact ⟨0,by rw [hR,h];simp [Nat.mod_eq_of_lt hrp]⟩
  ·exact ⟨i,by rw [hR,h,hodd]⟩
 have hle:∀i,i<2^j→R≤r^(2*i+1)%p:=by
  intro i hi
  obtain ⟨h1,h2⟩:=lr_le p (r*r%p) (n/2 - 1) r r
  rw [hR]
  by_cases h0:i=0
  ·subst h0
   simp [Nat.mod_eq_of_lt hrp]
   exact h1
  ·have:=h2 i (by omega) (by omega)
   rw [hodd] at this
   exact this
 obtain ⟨i,hi⟩:=hmem
 have hRh:R^(n/2)%p≠1:=by
  rw [hi,← Nat.pow_mod,← Nat.pow_mul,hn2]
  have e1:r^((2*i+1)*2^j)=(r^n)^i*r^2^j:=by
   rw [← Nat.pow_mul,← Nat.pow_add,hnn]
   congr 1
   grind
  rw [e1,Nat.mul_mod,pow_one_mod (by omega) _ i hrn,Nat.one_mul,Nat.mod_mod,hrj]
  exact hA
 refine ⟨?_,hRh,?_,?_⟩
 ·rw [hi,← Nat.pow_mod,← Nat.pow_mul,Nat.mul_comm,Nat.pow_mul]
  exact pow_one_mod (by omega) _ _ hrn
 ·rcases Nat.eq_zero_or_pos R with h0 | h0
  ·exfalso
   have h1:r^(2*i+1)%p=0:=by rw [← hi];exact h0
   have h2:(r^(2*i+1))^n%p=0:=by
    rw [Nat.pow_mod,h1,Nat.zero_pow (by omega),Nat.zero_mod]
   rw [← Nat.pow_mul,Nat.mul_comm,Nat.pow_mul,pow_one_mod (by omega) _ _ hrn] at h2
   omega
  ·exact h0
 ·rintro h hlt ⟨h1,h2⟩
  obtain ⟨k,hk⟩:=hp.roots j r h hr1 (by rw [← hn];exact h1)
  rcases Nat.mod_two_eq_zero_or_one k with hk2 | hk2
  ·refine h2 ?_
   obtain ⟨s,rfl⟩:∃s,k=2*s:=⟨k/2,by omega⟩
   rw [Nat.pow_mod,hk,← Nat.pow_mod,← Nat.pow_mul,show 2*s*(n/2)=n*s by rw [hn2,hnn];grind,Nat.pow_mul]
   exact pow_one_mod (by omega) _ _ hrn
  ·obtain ⟨s,rfl⟩:∃s,k=2*s+1:=⟨k/2,by omega⟩
   have e1:r^(2*s+1)%p=r^(2*(s%2^j)+1)%p:=by
    have e2:=Nat.div_add_mod s (2^j)
    have e3:r^(2*s+1)=(r^n)^(s/2^j)*r^(2*(s%2^j)+1):=by
     rw [← Nat.pow_mul,← Nat.pow_add,hnn]
     congr 1
     generalize s/2^j=a at *
     generalize s%2^j=b at *
     rw [← e2]
     grind
    rw [e3,Nat.mul_mod,pow_one_mod (by omega) _ _ hrn,Nat.one_mul,Nat.mod_mod]
   have h4:=hle (s%2^j) (Nat.mod_lt _ hj)
   rw [← e1,← hk] at h4
   have:=Nat.mod_le h p
   omega
end Go.Proofs.YtanijpekdnkicaaGreatDoor.F1
namespace Go.Proofs.YtanijpekdnkicaaGreatDoor.M2
set_option linter.unusedVariables false
theorem dig_snoc {n m:Nat} {out:List Nat} (h:dig n=out++dig m) (hm:m≠0):dig n=(out++[m%LB])++dig (m/LB):=by
 rw [h,dig_pos m hm,List.append_assoc]
 rfl
theorem val_set:∀(xs:List Nat) (k y:Nat),k<xs.length→val (xs.set k y)+LB^k*xs.getD k 0=val xs+LB^k*y
 | [],k,y,h=>by simp at h
 | x :: xs,0,y,h=>by
   show y+LB*val xs+LB^0*x=x+LB*val xs+LB^0*y
   rw [Nat.pow_zero]
   omega
 | x :: xs,k+1,y,h=>by
   have ih:=val_set xs k y (by simpa using h)
   show x+LB*val (xs.set k y)+LB^(k+1)*xs.getD k 0=x+LB*val xs+LB^(k+1)*y
   rw [Nat.pow_succ]
   have e:LB*(val (xs.set k y)+LB^k*xs.getD k 0)=LB*(val xs+LB^k*y):=by rw [ih]
   rw [Nat.mul_add,Nat.mul_add] at e
   have e1:LB^k*LB*xs.getD k 0=LB*(LB^k*xs.getD k 0):=by rw [Nat.mul_comm (LB^k) LB,Nat.mul_assoc]
   have e2:LB^k*LB*y=LB*(LB^k*y):=by rw [Nat.mul_comm (LB^k) LB,Nat.mul_assoc]
   omega
theorem Lim.set {xs:List Nat} (h:Lim xs) (k y:Nat) (hy:y<LB):Lim (xs.set k y):=fun z hz=>by
 rcases List.mem_or_eq_of_mem_set hz with h1 | h1
 ·exact h z h1
 ·rw [h1];exact hy
theorem lim_zeros (n:Nat):Lim (List.replicate n 0):=fun z hz=>by rw [List.eq_of_mem_replicate hz];exact LB_pos
theorem val_zeros:∀n:Nat,val (List.replicate n 0)=0
 | 0=>rfl
 | n+1=>by
   rw [List.replicate_succ]
   show 0+LB*val (List.replicate n 0)=0
   rw [val_zeros n,Nat.mul_zero]
def ext (xs:List Nat):List Nat:=xs++List.replicate (80 - xs.length) 0
theorem ext_len {xs:List Nat} (h:xs.length≤80):(ext xs).length=80:=by unfold ext;simp;omega
theorem ext_lim {xs:List Nat} (h:Lim xs):Lim (ext xs):=h.append (lim_zeros _)
theorem ext_val (xs:List Nat):val (ext xs)=val xs:=by unfold ext;rw [val_append,val_zeros];simp
theorem ext_getD (xs:List Nat) (j:Nat):(ext xs).getD j 0=xs.getD j 0:=by
 unfold ext
 by_cases h:j<xs.length
 ·simp [List.getD,List.getElem?_append_left h]
 ·simp only [List.getD,List.getElem?_append_right (Nat.le_of_not_lt h)]
  rw [List.getElem?_eq_none (Nat.le_of_not_lt h)]
  by_cases h2:j - xs.length<80 - xs.length
  ·rw [List.getElem?_replicate,if_pos h2];rfl
  ·rw [List.getElem?_replicate,if_neg h2]
theorem ext_set {xs:List Nat} (h:xs.length<80) (y:Nat):(ext xs).set xs.length y=ext (xs++[y]):=by
 unfold ext
 rw [List.set_append_right _ _ (Nat.le_refl _),Nat.sub_self]
 obtain ⟨m,hm⟩:∃m,80 - xs.length=m+1:=⟨79 - xs.length,by omega⟩
 rw [hm,List.length_append]
 have:80 - (xs.length+[y].length)=m:=by simp;omega
 rw [this]
 simp [List.replicate_succ]
theorem ext_take {xs:List Nat} (k:Nat) (h:xs.length≤k) (hk:k≤80):val ((ext xs).take k)=val xs:=by
 unfold ext
 rw [List.take_append,List.take_of_length_le h,val_append,List.take_replicate,val_zeros]
 simp
theorem lim_ext:∀{a b:List Nat},Lim a→Lim b→a.length=b.length→val a=val b→a=b
 | [],[],_,_,_,_=>rfl
 | [],_ :: _,_,_,h,_=>by simp at h
 | _ :: _,[],_,_,h,_=>by simp at h
 | x :: a,y :: b,ha,hb,hl,hv=>by
   have h1:=ha.head
   have h2:=hb.head
   have e:x+LB*val a=y+LB*val b:=hv
   have ex:x=y:=by
    have:=congrArg (·% LB) e
    simp only [Nat.add_mul_mod_self_left,Nat.mod_eq_of_lt h1,Nat.mod_eq_of_lt h2] at this
    exact this
   subst ex
   have ev:val a=val b:=Nat.eq_of_mul_eq_mul_left LB_pos (by omega)
   rw [lim_ext ha.tail hb.tail (by simpa using hl) ev]
def pad (n:Nat):List Nat:=ext (dig n)
theorem pad_val (n:Nat):val (pad n)=n:=by unfold pad;rw [ext_val,val_dig]
theorem pad_lim (n:Nat):Lim (pad n):=ext_lim (dig_lim n)
theorem pad_len {n:Nat} (h:(dig n).length≤80):(pad n).length=80:=ext_len h
theorem pad_getD (n j:Nat):(pad n).getD j 0=(dig n).getD j 0:=ext_getD _ _
theorem pad_of {xs:List Nat} (h:Lim xs) (hl:xs.length=80):xs=pad (val xs):=by
 have hd:(dig (val xs)).length≤80:=by have:=val_lt h;rw [hl] at this;exact dig_len_le this
 exact lim_ext h (pad_lim _) (by rw [hl,pad_len hd]) (by rw [pad_val])
def cnt (n:Nat):Nat:=(dig n).length
theorem cnt_zero:cnt 0=0:=by unfold cnt;rw [dig_zero];rfl
theorem cnt_pos {n:Nat} (h:n≠0):0<cnt n:=by
 unfold cnt
 have:=dig_ne h
 cases e:dig n with
 | nil=>exact absurd e this
 | cons x xs=>simp
theorem cnt_lt (n:Nat):n<LB^cnt n:=by
 have:=val_lt (dig_lim n)
 rw [val_dig] at this
 exact this
theorem cnt_le {n k:Nat} (h:n<LB^k):cnt n≤k:=dig_len_le h
theorem cnt_nrm {xs:List Nat} (h:Nrm xs):cnt (val xs)=xs.length:=by unfold cnt;rw [dig_val h]
theorem cnt_at {ls:List Nat} (h:Lim ls) (k:Nat) (hk:k≤ls.length) (hv:val (ls.take k)=val ls) (h0:k=0∨ls.getD (k - 1) 0≠0):cnt (val ls)=k:=by
 have hn:Nrm (ls.take k):=by
  refine ⟨h.take k,fun hne=>?_⟩
  have hk0:0<k:=by
   rcases Nat.eq_zero_or_pos k with e | e
   ·subst e;simp at hne
   ·exact e
  have h1:ls.getD (k - 1) 0≠0:=by
   rcases h0 with h0 | h0
   ·omega
   ·exact h0
  rw [List.getLast_eq_getElem]
  simp only [List.length_take,Nat.min_eq_left hk,List.getElem_take]
  simpa [List.getD,show k - 1<ls.length by omega] using h1
 rw [← hv,cnt_nrm hn,List.length_take,Nat.min_eq_left hk]
theorem take_zero_step {ls:List Nat} (k:Nat) (hv:val (ls.take (k+1))=val ls) (h0:ls.getD k 0=0):val (ls.take k)=val ls:=by
 rw [val_take_succ,h0,Nat.mul_zero,Nat.add_zero] at hv
 exact hv
theorem val_top:∀(k:Nat) (ls:List Nat),(∀j,k≤j→ls.getD j 0=0)→val (ls.take k)=val ls:=by
 intro k
 induction k with
 | zero=>
   intro ls
   induction ls with
   | nil=>intro _;rfl
   | cons x xs ih=>
     intro hj
     have h0:x=0:=hj 0 (by omega)
     have h1:val xs=0:=by
      have:=ih (fun j hj2=>by have:=hj (j+1) (by omega);simpa using this)
      rw [← this];simp [val]
     simp [val,h0,h1]
 | succ k ih=>
   intro ls hj
   cases ls with
   | nil=>simp [val]
   | cons x xs=>
     have:=ih xs (fun j hj2=>by have:=hj (j+1) (by omega);simpa using this)
     simp [val,this]
theorem pw (k:Nat):0<LB^k:=Nat.pow_pos LB_pos
variable {L v p m:Nat}
end Go.Proofs.YtanijpekdnkicaaGreatDoor.M2
