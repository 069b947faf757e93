set_option linter.unusedVariables false
set_option linter.unusedSimpArgs false
/- Proved: what its theorems say. -/
namespace Go.Proofs.YthcidnnkakppcaaGreatDoor.M2
def LB:Nat:=268435456
def val:List Nat->Nat
 | []=>0
 | x :: xs=>x+LB*val xs
def Qnp:Nat->Nat->List Nat
 | 0,_=>[]
 | f+1,n=>if n=0 then [] else (n%LB) :: Qnp f (n/LB)
def dig (n:Nat):List Nat:=Qnp n n
theorem Qff (f:Nat):Qnp f 0=[]:=by cases f <;> rfl
theorem Qy8 (f:Nat):∀g n,n<=f->n<=g->Qnp f n=Qnp g n:=by
 induction f with
 | zero=>intro g n h k;obtain rfl:n=0:=by omega
         rw [Qff,Qff]
 | succ f ih=>
   intro g n h k
   by_cases hn:n=0
   ·subst hn;rw [Qff,Qff]
   ·obtain ⟨g',rfl⟩:∃g',g=g'+1:=⟨g - 1,by omega⟩
    have hd:n/LB<n:=Nat.div_lt_self (by omega) (by decide);have e1:Qnp (f+1) n=(n%LB) :: Qnp f (n/LB):=by rw [Qnp,if_neg hn]
    have e2:Qnp (g'+1) n=(n%LB) :: Qnp g' (n/LB):=by rw [Qnp,if_neg hn]
    rw [e1,e2,ih g' (n/LB) (by omega) (by omega)]
theorem Qax:dig 0=[]:=rfl
theorem Qdw (n:Nat) (h:n≠0):dig n=(n%LB) :: dig (n/LB):=by
 obtain ⟨m,rfl⟩:∃m,n=m+1:=⟨n - 1,by omega⟩
 have hd:(m+1)/LB<m+1:=Nat.div_lt_self (by omega) (by decide);have e1:Qnp (m+1) (m+1)=((m+1)%LB) :: Qnp m ((m+1)/LB):=by rw [Qnp,if_neg h]
 show Qnp (m+1) (m+1)=_
 rw [e1,Qy8 m ((m+1)/LB) ((m+1)/LB) (by omega) (Nat.le_refl _)];rfl
def Lim (xs:List Nat):Prop:=∀x∈xs,x<LB
def Nrm (xs:List Nat):Prop:=Lim xs/\∀h:xs≠[],xs.getLast h≠0
theorem Lim.nil:Lim []:=fun x hx=>by cases hx
theorem Lim.cons {x:Nat} {xs:List Nat} (h:x<LB) (hs:Lim xs):Lim (x :: xs):=fun y hy=>by
 rcases List.mem_cons.1 hy with rfl | h1
 ·exact h
 ·exact hs y h1
theorem Lim.head {x:Nat} {xs:List Nat} (h:Lim (x :: xs)):x<LB:=h x (List.mem_cons_self ..)
theorem Lim.tail {x:Nat} {xs:List Nat} (h:Lim (x :: xs)):Lim xs:=fun y hy=>h y (List.mem_cons_of_mem _ hy)
theorem Lim.append {xs ys:List Nat} (h:Lim xs) (k:Lim ys):Lim (xs++ys):=fun y hy=>by
 rcases List.mem_append.1 hy with h1 | h1
 ·exact h y h1
 ·exact k y h1
theorem Lim.take {xs:List Nat} (h:Lim xs) (k:Nat):Lim (xs.take k):=fun y hy=>h y (List.mem_of_mem_take hy)
theorem Lim.getD {xs:List Nat} (h:Lim xs) (k:Nat):xs.getD k 0<LB:=by
 by_cases hk:k<xs.length
 ·have e:xs.getD k 0=xs[k]:=by simp [List.getD,hk]
  rw [e];exact h _ (List.getElem_mem hk)
 ·have e:xs.getD k 0=0:=by simp [List.getD,List.getElem?_eq_none (Nat.le_of_not_lt hk)]
  rw [e];decide
theorem Qa2:0<LB:=by decide
theorem Qag (n:Nat):val (dig n)=n:=by
 induction n using Nat.strongRecOn with
 | _ n ih=>
   by_cases h:n=0
   ·subst h;rw [Qax];rfl
   ·rw [Qdw n h]
    show n%LB+LB*val (dig (n/LB))=n
    rw [ih (n/LB) (Nat.div_lt_self (by omega) (by decide))];exact Nat.mod_add_div n LB
theorem Qao (n:Nat):Lim (dig n):=by
 induction n using Nat.strongRecOn with
 | _ n ih=>
   by_cases h:n=0
   ·subst h;rw [Qax];exact Lim.nil
   ·rw [Qdw n h];exact Lim.cons (Nat.mod_lt _ Qa2) (ih _ (Nat.div_lt_self (by omega) (by decide)))
theorem Qnq {n:Nat} (h:dig n=[]):n=0:=by
 have:=Qag n;rw [h] at this;exact this.symm
theorem Qgm {n:Nat} (h:n≠0):dig n≠[]:=fun e=>h (Qnq e)
theorem Qbm (n:Nat):Nrm (dig n):=by
 refine ⟨Qao n,?_⟩
 induction n using Nat.strongRecOn with
 | _ n ih=>
   intro hne;have h:n≠0:=by rintro rfl;exact hne Qax
   have e:=Qdw n h
   by_cases h2:n/LB=0
   ·have e2:dig n=[n%LB]:=by rw [e,h2,Qax]
    have hlt:n<LB:=by
     by_cases hl:n<LB
     ·exact hl
     ·have:=Nat.div_pos (Nat.le_of_not_lt hl) Qa2;omega
    have:(dig n).getLast hne=n%LB:=by simp [e2]
    rw [this,Nat.mod_eq_of_lt hlt];exact h
   ·have h3:=ih (n/LB) (Nat.div_lt_self (by omega) (by decide)) (Qgm h2)
    have:(dig n).getLast hne=(dig (n/LB)).getLast (Qgm h2):=by
     simp only [e];rw [List.getLast_cons (Qgm h2)]
    rw [this];exact h3
theorem Qbs {xs:List Nat} (h:Nrm xs) (hv:val xs=0):xs=[]:=by
 induction xs with
 | nil=>rfl
 | cons x xs ih=>
   exfalso;have hv':x+LB*val xs=0:=hv;have hp:=Qa2;have hx:x=0:=by omega
   have hs:val xs=0:=by
    have:LB*val xs=0:=by omega
    rcases Nat.mul_eq_zero.1 this with h1 | h1
    ·omega
    ·exact h1
   by_cases hxs:xs=[]
   ·subst hxs;exact h.2 (by simp) (by simpa using hx)
   ·have:=ih ⟨h.1.tail,fun hne=>by
     have:=h.2 (by simp);rw [List.getLast_cons hne] at this;exact this⟩ hs
    exact hxs this
theorem Qea {xs:List Nat} (h:Nrm xs):dig (val xs)=xs:=by
 induction xs with
 | nil=>exact Qax
 | cons x xs ih=>
   have hne:val (x :: xs)≠0:=fun e=>by cases Qbs h e
   have hx:=h.1.head
   have ht:Nrm xs:=⟨h.1.tail,fun hne=>by
    have:=h.2 (by simp);rw [List.getLast_cons hne] at this;exact this⟩
   rw [Qdw _ hne]
   have e1:val (x :: xs)%LB=x:=by
    show (x+LB*val xs)%LB=x
    rw [Nat.add_mul_mod_self_left,Nat.mod_eq_of_lt hx]
   have e2:val (x :: xs)/LB=val xs:=by
    show (x+LB*val xs)/LB=val xs
    rw [Nat.add_mul_div_left _ _ Qa2,Nat.div_eq_of_lt hx,Nat.zero_add]
   rw [e1,e2,ih ht]
theorem val_append:∀(xs ys:List Nat),val (xs++ys)=val xs+LB^xs.length*val ys
 | [],ys=>by simp [val]
 | x :: xs,ys=>by
   show x+LB*val (xs++ys)=x+LB*val xs+LB^(xs.length+1)*val ys
   rw [val_append xs ys,Nat.pow_succ,Nat.mul_add]
   grind
theorem Qcw (xs:List Nat) (x:Nat):val (xs++[x])=val xs+LB^xs.length*x:=by
 rw [val_append];simp [val]
theorem Qbi:∀{xs:List Nat},Lim xs->val xs<LB^xs.length
 | [],_=>by simp [val]
 | x :: xs,h=>by
   have h1:=Qbi h.tail;have h2:=h.head
   show x+LB*val xs<LB^(xs.length+1)
   rw [Nat.pow_succ,Nat.mul_comm (LB^xs.length)];have h3:LB*(val xs+1)<=LB*LB^xs.length:=Nat.mul_le_mul (Nat.le_refl _) h1;rw [Nat.mul_add] at h3;omega
def Qlm (xs:List Nat):List Nat:=dig (val xs)
theorem Qvp (xs:List Nat):val (Qlm xs)=val xs:=Qag _
theorem Qik (xs:List Nat) (k:Nat) (h:k<xs.length):xs.take (k+1)=xs.take k++[xs.getD k 0]:=by
 rw [List.take_add_one];simp [List.getD,h]
theorem Qan (xs:List Nat) (k:Nat):val (xs.take (k+1))=val (xs.take k)+LB^k*xs.getD k 0:=by
 by_cases h:k<xs.length
 ·rw [Qik xs k h,Qcw,List.length_take,Nat.min_eq_left (Nat.le_of_lt h)]
 ·have h':=Nat.le_of_not_lt h;rw [List.take_of_length_le (by omega),List.take_of_length_le h'];simp [List.getD,List.getElem?_eq_none h']
theorem Qby (xs:List Nat) (k:Nat) (h:k<xs.length):val (xs.drop k)=xs.getD k 0+LB*val (xs.drop (k+1)):=by
 rw [List.drop_eq_getElem_cons h]
 show xs[k]+LB*val (xs.drop (k+1))=_
 simp [List.getD,h]
theorem Qay {n k:Nat} (h:n<LB^k):(dig n).length<=k:=by
 by_cases hl:(dig n).length<=k
 ·exact hl
 ·exfalso;have hn:=Qbm n;have hne:dig n≠[]:=by intro e;rw [e] at hl;simp at hl
  have e:=List.dropLast_concat_getLast hne;have hv:=Qag n;rw [<- e,Qcw,List.length_dropLast] at hv;have h0:=hn.2 hne;have h1:LB^k<=LB^((dig n).length - 1):=Nat.pow_le_pow_right Qa2 (by omega);have h2:LB^((dig n).length - 1)*1<=LB^((dig n).length - 1)*(dig n).getLast hne:=Nat.mul_le_mul (Nat.le_refl _) (by omega);omega
theorem Qi2 {n k:Nat} (h:LB^k<=n):k<(dig n).length:=by
 have h1:=Qbi (Qao n);rw [Qag] at h1
 by_cases hl:k<(dig n).length
 ·exact hl
 ·have:=Nat.pow_le_pow_right Qa2 (Nat.le_of_not_lt hl);omega
structure AddI (a b:List Nat) (i:Nat) (out:List Nat) (c:Nat):Prop where
 lim:Lim out
 len:out.length=i
 eq:val out+LB^i*c=val (a.take i)+val (b.take i)
 c1:c<=1
theorem AddI.start (a b:List Nat):AddI a b 0 [] 0:=⟨Lim.nil,rfl,by simp [val],by omega⟩
theorem Qfg (i c:Nat):LB^i*(c%LB)+LB^(i+1)*(c/LB)=LB^i*c:=by
 rw [Nat.pow_succ,Nat.mul_assoc,<- Nat.mul_add,Nat.mod_add_div]
theorem AddI.step {a b:List Nat} {i:Nat} {out:List Nat} {c:Nat} (h:AddI a b i out c) (ha:Lim a) (hb:Lim b) :
  AddI a b (i+1) (out++[(c+a.getD i 0+b.getD i 0)%LB]) ((c+a.getD i 0+b.getD i 0)/LB):=by
 have h1:=ha.getD i;have h2:=hb.getD i;have h3:=h.c1;refine ⟨h.lim.append (Lim.cons (Nat.mod_lt _ Qa2) Lim.nil),by simp [h.len],?_,?_⟩
 ·rw [Qcw,h.len,Qan,Qan,Nat.add_assoc,Qfg];have:=h.eq;rw [Nat.mul_add,Nat.mul_add];omega
 ·have:c+a.getD i 0+b.getD i 0<LB*2:=by omega
  have:=Nat.div_lt_of_lt_mul this;omega
theorem AddI.done {a b:List Nat} {i:Nat} {out:List Nat} {c:Nat} (h:AddI a b i out c) (ha:a.length<=i) (hb:b.length<=i) (hc:c=0):Qlm out=dig (val a+val b):=by
 have:=h.eq;rw [List.take_of_length_le ha,List.take_of_length_le hb,hc,Nat.mul_zero,Nat.add_zero] at this;unfold Qlm;rw [this]
structure SubI (a b:List Nat) (i:Nat) (out:List Nat) (c:Nat):Prop where
 lim:Lim out
 len:out.length=i
 eq:val out+val (b.take i)=val (a.take i)+LB^i*c
 c1:c<=1
theorem SubI.start (a b:List Nat):SubI a b 0 [] 0:=⟨Lim.nil,rfl,by simp [val],by omega⟩
theorem SubI.stepNo {a b:List Nat} {i:Nat} {out:List Nat} {c:Nat} (h:SubI a b i out c) (ha:Lim a) (hle:c+b.getD i 0≤a.getD i 0) :
  SubI a b (i+1) (out++[a.getD i 0 - c - b.getD i 0]) 0:=by
 have h1:=ha.getD i;refine ⟨h.lim.append (Lim.cons (by omega) Lim.nil),by simp [h.len],?_,by omega⟩;rw [Qcw,h.len,Qan,Qan,Nat.mul_zero,Nat.add_zero];have:=h.eq;obtain ⟨d,hd⟩:∃d,a.getD i 0=d+c+b.getD i 0:=⟨a.getD i 0 - c - b.getD i 0,by omega⟩
 rw [show a.getD i 0 - c - b.getD i 0=d by omega,hd,Nat.mul_add,Nat.mul_add];omega
theorem SubI.stepYes {a b:List Nat} {i:Nat} {out:List Nat} {c:Nat} (h:SubI a b i out c) (ha:Lim a) (hb:Lim b) (hlt:a.getD i 0<c+b.getD i 0) :
  SubI a b (i+1) (out++[a.getD i 0+LB - c - b.getD i 0]) 1:=by
 have h2:=hb.getD i;have h3:=h.c1;refine ⟨h.lim.append (Lim.cons (by omega) Lim.nil),by simp [h.len],?_,by omega⟩;rw [Qcw,h.len,Qan,Qan,Nat.mul_one,Nat.pow_succ];have:=h.eq;obtain ⟨d,hd⟩:∃d,a.getD i 0+LB=d+c+b.getD i 0:=⟨a.getD i 0+LB - c - b.getD i 0,by omega⟩
 rw [show a.getD i 0+LB - c - b.getD i 0=d by omega];have e:LB^i*(a.getD i 0+LB)=LB^i*(d+c+b.getD i 0):=by rw [hd]
 rw [Nat.mul_add,Nat.mul_add,Nat.mul_add] at e;omega
theorem SubI.done {a b:List Nat} {i:Nat} {out:List Nat} {c:Nat} (h:SubI a b i out c) (ha:a.length=i) (hb:b.length<=i) (hle:val b<=val a):Qlm out=dig (val a - val b):=by
 have h1:=h.eq;rw [List.take_of_length_le hb,List.take_of_length_le (show a.length<=i by omega)] at h1;have h2:=Qbi h.lim;rw [h.len] at h2;have h3:=h.c1
 have hc:c=0:=by
  rcases Nat.eq_zero_or_pos c with h4 | h4
  ·exact h4
  ·exfalso;have:c=1:=by omega
   subst this;omega
 subst hc;unfold Qlm
 congr 1
 omega
theorem Qi3 {a b:List Nat} (ha:Nrm a) (hb:Nrm b) (h:val b<=val a):b.length<=a.length:=by
 have h1:=Qbi ha.1;have h2:=Qay (n:=val b) (k:=a.length) (by omega);rw [Qea hb] at h2;exact h2
def Qb3 (x y:Nat):Int:=if x<y then -1 else if y<x then 1 else 0
theorem Qfh {a b:List Nat} (ha:Nrm a) (hb:Nrm b) (h:a.length<b.length):val a<val b:=by
 by_cases hlt:val a<val b
 ·exact hlt
 ·have:=Qi3 ha hb (by omega);omega
theorem Qph {a b:List Nat} {i:Nat} (ha:Lim a) (hi:i<a.length) (hl:a.length=b.length) (he:a.drop (i+1)=b.drop (i+1)) (h:a.getD i 0<b.getD i 0):val a<val b:=by
 have e1:val a=val (a.take i)+LB^i*val (a.drop i):=by
  have:=val_append (a.take i) (a.drop i);rw [List.take_append_drop,List.length_take,Nat.min_eq_left (Nat.le_of_lt hi)] at this;exact this
 have e2:val b=val (b.take i)+LB^i*val (b.drop i):=by
  have:=val_append (b.take i) (b.drop i);rw [List.take_append_drop,List.length_take,Nat.min_eq_left (by omega)] at this;exact this
 have h1:=Qbi (ha.take i);rw [List.length_take,Nat.min_eq_left (Nat.le_of_lt hi)] at h1;rw [e1,e2,Qby a i hi,Qby b i (by omega),he];have h2:LB^i*(a.getD i 0+LB*val (b.drop (i+1))+1)<=LB^i*(b.getD i 0+LB*val (b.drop (i+1))):=Nat.mul_le_mul (Nat.le_refl _) (by omega);rw [Nat.mul_add _ _ 1] at h2;omega
theorem Qln {a b:List Nat} {i:Nat} (hi:i<a.length) (hl:a.length=b.length) (he:a.drop (i+1)=b.drop (i+1)) (h:a.getD i 0=b.getD i 0):a.drop i=b.drop i:=by
 rw [List.drop_eq_getElem_cons hi,List.drop_eq_getElem_cons (show i<b.length by omega),he]
 congr 1
 simpa [List.getD,hi,show i<b.length by omega] using h
end Go.Proofs.YthcidnnkakppcaaGreatDoor.M2
namespace Go.Proofs.YthcidnnkakppcaaGreatDoor.M1
def lr (p sq:Nat):Nat->Nat->Nat->Nat
 | 0,_,b=>b
 | k+1,x,b=>lr p sq k (x*sq%p) (min b (x*sq%p))
def Qeb (a e p:Nat):Nat:=a^e%p
theorem mm (a b p:Nat):a%p*(b%p)%p=a*b%p:=(Nat.mul_mod a b p).symm
theorem ml (a b p:Nat):(a%p*b)%p=a*b%p:=by rw [Nat.mul_mod,Nat.mod_mod,<- Nat.mul_mod]
theorem mrr (a b p:Nat):(a*(b%p))%p=a*b%p:=by rw [Nat.mul_mod,Nat.mod_mod,<- Nat.mul_mod]
theorem Qjv (a e:Nat) (h:e%2=0):(a*a)^(e/2)=a^e:=by
 rw [<- Nat.pow_two,<- Nat.pow_mul];congr 1;omega
theorem Qlo (a e:Nat) (h:e%2=1):a*(a*a)^(e/2)=a^e:=by
 rw [<- Nat.pow_two,<- Nat.pow_mul,Nat.mul_comm,<- Nat.pow_succ];congr 1;omega
theorem Qhd (r a e p:Nat) (h:e%2=0):r*(a*a%p)^(e/2)%p=r*a^e%p:=by
 rw [<- mrr,<- Nat.pow_mod,mrr,Qjv a e h]
theorem Qjw (r a e p:Nat) (h:e%2=1):(r*a%p)*(a*a%p)^(e/2)%p=r*a^e%p:=by
 rw [ml,<- mrr,<- Nat.pow_mod,mrr,Nat.mul_assoc,Qlo a e h]
theorem Qjx (a e p:Nat) (h:0<p):Qeb a e p<p:=Nat.mod_lt _ h
theorem uniq (a i j m:Nat) (hi:i<m) (hj:j<m) (h1:a*i%m=1) (h2:a*j%m=1):i=j:=by
 have e1:i*(a*j)%m=i:=by rw [Nat.mul_mod,h2,Nat.mul_one,Nat.mod_mod,Nat.mod_eq_of_lt hi]
 have e2:(a*i)*j%m=j:=by rw [Nat.mul_mod,h1,Nat.one_mul,Nat.mod_mod,Nat.mod_eq_of_lt hj]
 have:i*(a*j)=(a*i)*j:=by rw [<- Nat.mul_assoc,Nat.mul_comm i a]
 rw [this] at e1;omega
def invM (a m:Nat):Nat:=((List.range m).find? (fun i=>a*i%m==1)).getD 0
theorem Qnr (a i m:Nat) (hi:i<m) (h:a*i%m=1):invM a m=i:=by
 unfold invM
 cases hf:(List.range m).find? (fun i=>a*i%m==1) with
 | none=>
   have:=List.find?_eq_none.1 hf i (List.mem_range.2 hi)
   simp [h] at this
 | some j=>
   have h1:=List.find?_some hf
   have h2:=List.mem_of_find?_eq_some hf
   simp at h1 h2;simp;exact uniq a j i m h2 hi h1 h
theorem Qy9 (a m:Nat) (h:Nat.gcd a m≠1):invM a m=0:=by
 unfold invM
 cases hf:(List.range m).find? (fun i=>a*i%m==1) with
 | none=>rfl
 | some j=>
   exfalso;apply h;have h1:=List.find?_some hf
   simp at h1;have d1:=Nat.dvd_trans (Nat.gcd_dvd_left a m) (Nat.dvd_mul_right a j);have d2:=Nat.gcd_dvd_right a m;have d3:=(Nat.dvd_mod_iff d2).2 d1;rw [h1] at d3;exact Nat.dvd_one.1 d3
structure Eu (a m x y u v:Int):Prop where
 x0:0<=x
 xy:x<y
 ym:y<=m
 sg:(0<=u/\v<=0/\u*y - v*x=m)∨(u<=0/\0<=v/\v*x - u*y=m)
 dx:m ∣ u*a - x
 dy:m ∣ v*a - y
 g:Int.gcd x y=Int.gcd a m
 bu : -m<=u/\u<=m
 bv : -m<=v/\v<=m
theorem Eu.start (a m:Int) (h0:0<=a) (h1:a<m):Eu a m a m 1 0 where
 x0:=h0
 xy:=h1
 ym:=Int.le_refl _
 sg:=Or.inl ⟨by omega,by omega,by omega⟩
 dx:=by simp
 dy:=by simp
 g:=rfl
 bu:=by omega
 bv:=by omega
theorem Eu.step {a m x y u v:Int} (h:Eu a m x y u v) (hx:x≠0):Eu a m (y - y/x*x) x (v - y/x*u) u/\(-m<=y/x*u/\y/x*u<=m)/\(0<=y/x/\y/x<=m)/\(0<=y/x*x/\y/x*x<=y):=by
 obtain ⟨x0,xy,ym,sg,dx,dy,g,bu,bv⟩:=h;have hq:=Int.emod_add_mul_ediv y x;have r0:=Int.emod_nonneg y hx;have r1:=Int.emod_lt_of_pos y (b:=x) (by omega);have hq0:0<=y/x:=Int.ediv_nonneg (by omega) x0
 have hq1:y/x<=y:=by
  have:=Int.mul_le_mul_of_nonneg_right (show 1<=x by omega) hq0;have e:x*(y/x)<=y:=by omega
  omega
 have er:y - y/x*x=y%x:=by rw [Int.mul_comm];omega
 have eg:Int.gcd (y%x) x=Int.gcd a m:=by rw [<- g,<- er,Int.gcd_comm x y,Int.gcd_sub_mul_right_left]
 generalize hqq:y/x=q at *
 have key:(0<=v - q*u/\u<=0/\(v - q*u)*x - u*(y - q*x)=m/\0<=- (q*u)/\0<=v)∨(v - q*u<=0/\0<=u/\u*(y - q*x) - (v - q*u)*x=m/\0<=q*u/\v<=0):=by
  rcases sg with ⟨hu,hv,he⟩ | ⟨hu,hv,he⟩
  ·right
   have:=Int.mul_nonneg hq0 hu;refine ⟨by omega,hu,by grind,this,hv⟩
  ·left
   have:=Int.mul_nonneg hq0 (show 0<=-u by omega);have e:q * -u = -(q*u):=by grind
   refine ⟨by omega,hu,by grind,by omega,hv⟩
 have bnd:(-m<=v - q*u/\v - q*u<=m):=by
  rcases key with ⟨h1,h2,h3,h4⟩ | ⟨h1,h2,h3,h4⟩
  ·have a1:0≤(-u)*(y - q*x):=Int.mul_nonneg (by omega) (by omega);have a2:(v - q*u)*1≤(v - q*u)*x:=Int.mul_le_mul_of_nonneg_left (by omega) h1;have:(-u)*(y - q*x) = - (u*(y - q*x)):=by grind
   omega
  ·have a1:0≤u*(y - q*x):=Int.mul_nonneg (by omega) (by omega);have a2:(-(v - q*u))*1≤(-(v - q*u))*x:=Int.mul_le_mul_of_nonneg_left (by omega) (by omega);have:(-(v - q*u))*x = - ((v - q*u)*x):=by grind
   omega
 refine ⟨⟨by omega,by omega,by omega,?_,?_,dx,?_,bnd,bu⟩,?_,by omega,?_⟩
 ·rcases key with ⟨h1,h2,h3,h4⟩ | ⟨h1,h2,h3,h4⟩
  ·left;exact ⟨h1,h2,h3⟩
  ·right;exact ⟨h1,h2,h3⟩
 ·have:(v - q*u)*a - (y - q*x)=(v*a - y) - q*(u*a - x):=by grind
  rw [this];exact Int.dvd_sub dy (Int.dvd_mul_of_dvd_right dx)
 ·rw [er];exact eg
 ·rcases key with ⟨h1,h2,h3,h4⟩ | ⟨h1,h2,h3,h4⟩ <;> omega
 ·constructor
  ·exact Int.mul_nonneg hq0 x0
  ·omega
theorem Eu.done {a m y u v:Int} (h:Eu a m 0 y u v) (hm:2≤m) (ha:0≤a) :
  (if y≠1 then 0 else if Int.tmod v m<0 then Int.tmod v m+m else Int.tmod v m)=(invM a.toNat m.toNat:Int):=by
 obtain ⟨x0,xy,ym,sg,dx,dy,g,bu,bv⟩:=h
 have g':y.natAbs=Nat.gcd a.toNat m.toNat:=by
  have:Int.gcd 0 y=y.natAbs:=by simp
  rw [this] at g;rw [g];unfold Int.gcd;congr 1 <;> omega
 by_cases h1:y=1
 ·rw [if_neg (by simp [h1])]
  have hv:(if Int.tmod v m<0 then Int.tmod v m+m else Int.tmod v m)=v%m:=by
   by_cases hv0:0<=v
   ·rw [Int.tmod_eq_emod_of_nonneg hv0];have:=Int.emod_nonneg v (show m≠0 by omega);rw [if_neg (by omega)]
   ·have e:Int.tmod v m = - ((-v)%m):=by
     rw [<- Int.tmod_eq_emod_of_nonneg (by omega),Int.neg_tmod,Int.neg_neg]
    have r0:=Int.emod_nonneg (-v) (show m≠0 by omega);have t1:=Int.emod_add_mul_ediv v m;have t2:=Int.emod_add_mul_ediv (-v) m;rw [e]
    by_cases hz:(-v)%m=0
    ·rw [hz];simp;have:m ∣ v:=by have:=Int.dvd_of_emod_eq_zero hz;exact (Int.dvd_neg).1 this
     exact (Int.emod_eq_zero_of_dvd this).symm
    ·rw [if_pos (by omega)]
     have:(-v)%m=m - v%m:=by
      rw [Int.neg_emod];split
      ·rename_i hd;exfalso;apply hz;exact Int.emod_eq_zero_of_dvd ((Int.dvd_neg).2 hd)
      ·have:(m.natAbs:Int)=m:=by omega
       omega
     omega
  rw [hv];have s0:=Int.emod_nonneg v (show m≠0 by omega);have s1:=Int.emod_lt_of_pos v (b:=m) (by omega);rw [Qnr a.toNat (v%m).toNat m.toNat (by omega)]
  ·omega
  ·have:((a.toNat*(v%m).toNat%m.toNat:Nat):Int)=1:=by
    have ea:((a.toNat:Nat):Int)=a:=by omega
    have ev:(((v%m).toNat:Nat):Int)=v%m:=by omega
    have em:((m.toNat:Nat):Int)=m:=by omega
    rw [Int.natCast_emod,Int.natCast_mul,ea,ev,em,Int.mul_emod,Int.emod_emod,<- Int.mul_emod];subst h1;obtain ⟨k,hk⟩:=dy;have:a*v=1+m*k:=by rw [Int.mul_comm];omega
    rw [this,Int.add_mul_emod_self_left];exact Int.emod_eq_of_lt (by omega) (by omega)
   omega
 ·rw [if_pos h1,Qy9 _ _ (by omega)];rfl
theorem tm (v m:Int) (hm:2<=m):(if Int.tmod v m<0 then Int.tmod v m+m else Int.tmod v m)=v%m:=by
 by_cases hv0:0<=v
 ·rw [Int.tmod_eq_emod_of_nonneg hv0];have:=Int.emod_nonneg v (show m≠0 by omega);rw [if_neg (by omega)]
 ·have e:Int.tmod v m = - ((-v)%m):=by
   rw [<- Int.tmod_eq_emod_of_nonneg (by omega),Int.neg_tmod,Int.neg_neg]
  have r0:=Int.emod_nonneg (-v) (show m≠0 by omega)
  have k:(-v)%m=if m ∣ v then 0 else m - v%m:=by
   rw [Int.neg_emod];have:(m.natAbs:Int)=m:=by omega
   rw [this]
  by_cases hd:m ∣ v
  ·rw [if_pos hd] at k;have:=Int.emod_eq_zero_of_dvd hd;rw [e,k,this];simp
  ·rw [if_neg hd] at k;have s1:=Int.emod_lt_of_pos v (b:=m) (by omega);rw [if_pos (by omega)];omega
theorem Eu.done1 {a m u v:Int} (h:Eu a m 0 1 u v) (hm:2<=m) (ha:0<=a):v%m=(invM a.toNat m.toNat:Int):=by
 have:=h.done hm ha;rw [if_neg (by simp),tm v m hm] at this;exact this
theorem Eu.done0 {a m y u v:Int} (h:Eu a m 0 y u v) (hm:2<=m) (ha:0<=a) (hy:y≠1):(0:Int)=(invM a.toNat m.toNat:Int):=by
 have:=h.done hm ha;rw [if_pos hy] at this;exact this
structure Dig (u v y1 y0 q r:Nat):Prop where
 eq:q*y1+r=u
 ge:(u*4294967296+v)/(y1*4294967296+y0)<=q
structure Half (u v y1 y0:Nat):Prop where
 y1lo:2147483648<=y1
 y1hi:y1<4294967296
 y0hi:y0<4294967296
 vhi:v<4294967296
 ult:u<y1*4294967296+y0
theorem Qvq (u v Y K:Nat) (hv:v<K) (hu:u<Y):(u*K+v)/Y<K:=by
 apply Nat.div_lt_of_lt_mul;have:(u+1)*K<=Y*K:=Nat.mul_le_mul_right _ (by omega);rw [Nat.add_mul] at this;omega
theorem Half.Qlt {u v y1 y0:Nat} (h:Half u v y1 y0):(u*4294967296+v)/(y1*4294967296+y0)<4294967296:=
 Qvq u v _ 4294967296 h.vhi h.ult
theorem Dig.start {u v y1 y0:Nat} (h:Half u v y1 y0):Dig u v y1 y0 (u/y1) (u - u/y1*y1)/\u/y1*y1<=u/\u - u/y1*y1<4294967296/\u/y1<=4294967297:=by
 obtain ⟨h1,h2,h3,h4,h5⟩:=h;have e:=Nat.div_add_mod u y1;have m:=Nat.mod_lt u (show y1>0 by omega);rw [Nat.mul_comm] at e;refine ⟨⟨by omega,?_⟩,by omega,by omega,?_⟩
 ·rw [Nat.le_div_iff_mul_le (by omega)];have hq:=Nat.div_mul_le_self (u*4294967296+v) (y1*4294967296+y0);generalize (u*4294967296+v)/(y1*4294967296+y0)=Q at *;have e2:Q*(y1*4294967296+y0)=Q*y1*4294967296+Q*y0:=by grind
  generalize Q*y1=a at *;generalize Q*y0=b at *;omega
 ·rw [Nat.div_le_iff_le_mul_add_pred (by omega)];omega
theorem Dig.more {u v y1 y0 q r:Nat} (h:Half u v y1 y0) (d:Dig u v y1 y0 q r) (hc:4294967296<=q∨4294967296*r+v<q*y0):1<=q/\Dig u v y1 y0 (q - 1) (r+y1):=by
 have hQ:=h.Qlt;have hm:1<=q/\(q - 1)*y1+(r+y1)=u/\(u*4294967296+v)/(y1*4294967296+y0)<=q - 1:=?_
 ·exact ⟨hm.1,⟨hm.2.1,hm.2.2⟩⟩
 obtain ⟨h1,h2,h3,h4,h5⟩:=h;obtain ⟨e,g⟩:=d
 have hlt:(u*4294967296+v)/(y1*4294967296+y0)<q:=by
  rcases hc with hc | hc
  ·omega
  ·rw [Nat.div_lt_iff_lt_mul (by omega)];have e2:q*(y1*4294967296+y0)=q*y1*4294967296+q*y0:=by grind
   rw [e2];generalize q*y1=a at *;generalize q*y0=b at *;omega
 generalize (u*4294967296+v)/(y1*4294967296+y0)=Q at *;refine ⟨by omega,?_,by omega⟩;obtain ⟨q',rfl⟩:∃q',q=q'+1:=⟨q - 1,by omega⟩
 rw [Nat.add_sub_cancel,Nat.add_mul] at *;omega
theorem Dig.done {u v y1 y0 q r:Nat} (h:Half u v y1 y0) (d:Dig u v y1 y0 q r) (hc:q*y0<=4294967296*r+v):q=(u*4294967296+v)/(y1*4294967296+y0):=by
 obtain ⟨h1,h2,h3,h4,h5⟩:=h;obtain ⟨e,g⟩:=d;apply Nat.le_antisymm _ g;rw [Nat.le_div_iff_mul_le (by omega)];have e2:q*(y1*4294967296+y0)=q*y1*4294967296+q*y0:=by grind
 rw [e2];generalize q*y1=a at *;generalize q*y0=b at *;omega
theorem Dig.broke {u v y1 y0 q r:Nat} (h:Half u v y1 y0) (d:Dig u v y1 y0 q r) (hq:q<=4294967296) (hr:4294967296<=r):q=(u*4294967296+v)/(y1*4294967296+y0):=by
 have h':=h;obtain ⟨h1,h2,h3,h4,h5⟩:=h';apply d.done h;have:q*y0<=4294967296*y0:=Nat.mul_le_mul_right _ hq;omega
theorem Qlp (u v Y:Nat):u*4294967296+v - (u*4294967296+v)/Y*Y=(u*4294967296+v)%Y/\(u*4294967296+v)/Y*Y<=u*4294967296+v:=by
 have e:=Nat.div_add_mod (u*4294967296+v) Y;rw [Nat.mul_comm] at e;generalize (u*4294967296+v)/Y*Y=a at *;omega
theorem Qq4 (u v1 v0 Y:Nat):((u*4294967296+v1)%Y*4294967296+v0)%Y=(u*18446744073709551616+(v1*4294967296+v0))%Y:=by
 rw [Nat.add_mod,Nat.mul_mod,Nat.mod_mod,<- Nat.mul_mod,<- Nat.add_mod];have e2:(u*4294967296+v1)*4294967296+v0=u*18446744073709551616+(v1*4294967296+v0):=by omega
 rw [e2]
end Go.Proofs.YthcidnnkakppcaaGreatDoor.M1
namespace Go.Proofs.YthcidnnkakppcaaGreatDoor.F1
def Pr (n:Nat):Prop:=2<=n/\∀d,d ∣ n->d=1∨d=n
theorem Qlq (n:Nat) (hn:2<=n):∃q,2<=q/\q ∣ n/\∀d,2<=d->d ∣ n->q<=d:=by
 have key:∀k m,m<=k->2<=m->m ∣ n->∃q,2<=q/\q ∣ n/\∀d,2<=d->d ∣ n->q<=d:=by
  intro k
  induction k with
  | zero=>intro m h1 h2 _;omega
  | succ k ih=>
    intro m h1 h2 h3
    by_cases h:∃d,2<=d/\d ∣ n/\d<m
    ·obtain ⟨d,hd1,hd2,hd3⟩:=h;exact ih d (by omega) hd1 hd2
    ·refine ⟨m,h2,h3,fun d hd1 hd2=>?_⟩
     by_cases hlt:d<m
     ·exact absurd ⟨d,hd1,hd2,hlt⟩ h
     ·omega
 exact key n n (Nat.le_refl _) hn (Nat.dvd_refl _)
theorem Qns {n q:Nat} (hn:2<=n) (h2:2<=q) (hq:q ∣ n) (hl:∀d,2<=d->d ∣ n->q<=d):Pr q:=by
 refine ⟨h2,fun d hd=>?_⟩
 by_cases h1:d=1
 ·exact Or.inl h1
 ·have h0:d≠0:=by rintro rfl;omega
  have:=hl d (by omega) (Nat.dvd_trans hd hq);have:=Nat.le_of_dvd (by omega) hd;exact Or.inr (by omega)
theorem Q1y {n:Nat} (hn:2<=n) (h:¬Pr n):∃q m,Pr q/\n=q*m/\2<=m/\q*q<=n:=by
 obtain ⟨q,h2,hq,hl⟩:=Qlq n hn;obtain ⟨m,hm⟩:=hq;have hp:=Qns hn h2 ⟨m,hm⟩ hl;have hm0:m≠0:=by rintro rfl;omega
 have hm1:m≠1:=by
  rintro rfl;rw [Nat.mul_one] at hm;subst hm;exact h hp
 have hqm:=hl m (by omega) ⟨q,by rw [hm,Nat.mul_comm]⟩;exact ⟨q,m,hp,hm,by omega,by rw [hm];exact Nat.mul_le_mul (Nat.le_refl _) hqm⟩
theorem Pr.cop {p a:Nat} (h:Pr p) (ha:¬p ∣ a):Nat.Coprime p a:=by
 rcases h.2 _ (Nat.gcd_dvd_left p a) with h1 | h1
 ·exact h1
 ·exact absurd (h1 ▸ Nat.gcd_dvd_right p a) ha
theorem Pr.euclid {p a b:Nat} (h:Pr p) (hd:p ∣ a*b):p ∣ a∨p ∣ b:=by
 by_cases ha:p ∣ a
 ·exact Or.inl ha
 ·exact Or.inr ((h.cop ha).dvd_of_dvd_mul_left hd)
theorem Qbz {p a:Nat} (h0:0<a) (h1:a<p):¬p ∣ a:=fun h=>by have:=Nat.le_of_dvd h0 h;omega
theorem Qsd:∀(l1 l2:List Nat),l1.Nodup->l1 ⊆ l2->l2.length<=l1.length->l1.Perm l2
 | [],l2,_,_,h=>by
   have:=List.length_eq_zero_iff.1 (by simpa using h);rw [this]
 | a :: l,l2,hn,hs,h=>by
   have ha:=hs (List.mem_cons_self ..);have hp:=List.perm_cons_erase ha;have hn':=List.nodup_cons.1 hn
   have hsub:l ⊆ l2.erase a:=by
    intro x hx;have hne:x≠a:=by rintro rfl;exact hn'.1 hx
    exact (List.mem_erase_of_ne hne).2 (hs (List.mem_cons_of_mem _ hx))
   have hlen:(l2.erase a).length<=l.length:=by
    have e:=hp.length_eq;simp at e h ⊢;omega
   exact (List.Perm.cons a (Qsd l (l2.erase a) hn'.2 hsub hlen)).trans hp.symm
theorem Qcj {p a b:Nat} (h:a%p=b%p) (hab:a<=b):p ∣ b - a:=by
 have h1:=Nat.div_add_mod a p;have h2:=Nat.div_add_mod b p;rw [h] at h1;refine ⟨b/p - a/p,?_⟩;rw [Nat.mul_sub];omega
theorem Qpi (a p:Nat):∀l:List Nat,(l.map (fun i=>a*i%p)).prod%p=a^l.length*l.prod%p
 | []=>by simp
 | x :: l=>by
   have ih:=Qpi a p l;simp only [List.map_cons,List.prod_cons,List.length_cons];rw [Nat.mul_mod,ih,Nat.mod_mod,<- Nat.mul_mod,Nat.pow_succ]
   congr 1
   grind
theorem Qpj {p:Nat} (hp:Pr p):∀l:List Nat,(∀x∈l,¬p ∣ x)->¬p ∣ l.prod
 | [],_,h=>by
   have:=Nat.le_of_dvd (by simp) h;have:=hp.1;simp at *;omega
 | x :: l,hl,h=>by
   rw [List.prod_cons] at h;rcases hp.euclid h with h1 | h1
   ·exact hl x (List.mem_cons_self ..) h1
   ·exact Qpj hp l (fun y hy=>hl y (List.mem_cons_of_mem _ hy)) h1
theorem Pr.fermat {p a:Nat} (hp:Pr p) (ha:¬p ∣ a):a^(p - 1)%p=1:=by
 have h2:=hp.1
 have hr:∀x∈List.range' 1 (p - 1),0<x/\x<p:=by
  intro x hx;simp [List.mem_range'_1] at hx;omega
 have hnd:((List.range' 1 (p - 1)).map (fun i=>a*i%p)).Nodup:=by
  unfold List.Nodup;rw [List.pairwise_map];refine List.Pairwise.imp_of_mem ?_ (List.pairwise_lt_range' (s:=1) (n:=p - 1))
  intro x y hx hy hxy he;have h1:=Qcj he (Nat.mul_le_mul (Nat.le_refl a) (Nat.le_of_lt hxy));rw [<- Nat.mul_sub] at h1;rcases hp.euclid h1 with h3 | h3
  ·exact ha h3
  ·exact Qbz (by omega) (by have:=(hr y hy).2;omega) h3
 have hsub:(List.range' 1 (p - 1)).map (fun i=>a*i%p) ⊆ List.range' 1 (p - 1):=by
  intro y hy;obtain ⟨x,hx,rfl⟩:=List.mem_map.1 hy;have hlt:a*x%p<p:=Nat.mod_lt _ (by omega)
  have h0:a*x%p≠0:=by
   intro e;rcases hp.euclid (Nat.dvd_of_mod_eq_zero e) with h3 | h3
   ·exact ha h3
   ·exact Qbz (hr x hx).1 (hr x hx).2 h3
  show a*x%p∈List.range' 1 (p - 1)
  rw [List.mem_range'_1];omega
 have hperm:=Qsd _ _ hnd hsub (by simp);have e:=Qpi a p (List.range' 1 (p - 1));rw [hperm.prod_nat,List.length_range'] at e;have hno:=Qpj hp (List.range' 1 (p - 1)) (fun x hx=>Qbz (hr x hx).1 (hr x hx).2);generalize (List.range' 1 (p - 1)).prod=X at *
 have hapos:0<a:=by
  rcases Nat.eq_zero_or_pos a with h | h
  ·exact absurd (h ▸ Nat.dvd_zero p) ha
  ·exact h
 have hpos:1<=a^(p - 1):=Nat.one_le_pow _ _ hapos;have hle:X<=a^(p - 1)*X:=by have:=Nat.mul_le_mul hpos (Nat.le_refl X);omega
 have h1:=Qcj e hle;have h3:a^(p - 1)*X - X=(a^(p - 1) - 1)*X:=by rw [Nat.sub_mul,Nat.one_mul]
 rw [h3] at h1;rcases hp.euclid h1 with h4 | h4
 ·obtain ⟨c,hc⟩:=h4;have:a^(p - 1)=1+p*c:=by omega
  rw [this,Nat.add_mul_mod_self_left,Nat.mod_eq_of_lt (by omega)]
 ·exact absurd h4 hno
theorem Pr.sq {p x y:Nat} (hp:Pr p) (h:x*x%p=y*y%p):x%p=y%p∨(x+y)%p=0:=by
 rcases Nat.le_total x y with hxy | hxy
 ·have h1:=Qcj h (Nat.mul_le_mul hxy hxy)
  have e:y*y - x*x=(y - x)*(x+y):=by
   rw [Nat.sub_mul,Nat.mul_add,Nat.mul_add,Nat.mul_comm y x];omega
  rw [e] at h1;rcases hp.euclid h1 with h2 | h2
  ·obtain ⟨c,hc⟩:=h2
   left
   have:y=x+p*c:=by omega
   rw [this,Nat.add_mul_mod_self_left]
  ·exact Or.inr (Nat.mod_eq_zero_of_dvd h2)
 ·have h1:=Qcj h.symm (Nat.mul_le_mul hxy hxy)
  have e:x*x - y*y=(x - y)*(x+y):=by
   rw [Nat.sub_mul,Nat.mul_add,Nat.mul_add,Nat.mul_comm x y];omega
  rw [e] at h1;rcases hp.euclid h1 with h2 | h2
  ·obtain ⟨c,hc⟩:=h2
   left
   have:x=y+p*c:=by omega
   rw [this,Nat.add_mul_mod_self_left]
  ·exact Or.inr (Nat.mod_eq_zero_of_dvd h2)
theorem Pr.roots {p:Nat} (hp:Pr p):∀(j r h:Nat),(r^2^j+1)%p=0->h^2^(j+1)%p=1->∃k,h%p=r^k%p
 | 0,r,h,hr,hh=>by
   have hh':h*h%p=1*1%p:=by
    have h2:=hp.1;rw [Nat.one_mul,Nat.mod_eq_of_lt (show 1<p by omega)]
    simpa [Nat.pow_succ] using hh
   rcases hp.sq hh' with h1 | h1
   ·exact ⟨0,by simpa using h1⟩
   ·refine ⟨1,?_⟩;simp at hr ⊢;have e:(h+(r+1))%p=(r+(h+1))%p:=by congr 1;omega
    have e1:(h+(r+1))%p=h%p:=by rw [Nat.add_mod,hr,Nat.add_zero,Nat.mod_mod]
    have e2:(r+(h+1))%p=r%p:=by rw [Nat.add_mod,h1,Nat.add_zero,Nat.mod_mod]
    rw [<- e1,e,e2]
 | j+1,r,h,hr,hh=>by
   have hr2:((r*r)^2^j+1)%p=0:=by
    rw [<- hr,Nat.pow_succ 2 j,Nat.mul_comm (2^j) 2,Nat.pow_mul,Nat.pow_two]
   have hh2:(h*h)^2^(j+1)%p=1:=by
    have e:h^2^(j+1+1)=(h*h)^2^(j+1):=by rw [Nat.pow_succ 2 (j+1),Nat.mul_comm (2^(j+1)) 2,Nat.pow_mul,Nat.pow_two]
    rw [<- e];exact hh
   obtain ⟨k,hk⟩:=Pr.roots hp j (r*r) (h*h) hr2 hh2;have hk':h*h%p=r^k*r^k%p:=by rw [hk,Nat.mul_pow]
   rcases hp.sq hk' with h1 | h1
   ·exact ⟨k,h1⟩
   ·refine ⟨k+2^(j+1),?_⟩;have h3:(r^k*(r^2^(j+1)+1))%p=0:=by rw [Nat.mul_mod,hr,Nat.mul_zero,Nat.zero_mod]
    rw [Nat.mul_add,Nat.mul_one,<- Nat.pow_add] at h3;generalize r^(k+2^(j+1))=U at *;generalize r^k=V at *;have e1:(h+(U+V))%p=h%p:=by rw [Nat.add_mod,h3,Nat.add_zero,Nat.mod_mod]
    have e2:(U+(h+V))%p=U%p:=by rw [Nat.add_mod,h1,Nat.add_zero,Nat.mod_mod]
    rw [<- e1,<- e2]
    congr 1
    omega
end Go.Proofs.YthcidnnkakppcaaGreatDoor.F1
namespace Go.Proofs.YthcidnnkakppcaaGreatDoor.F1
open Go.Proofs.YthcidnnkakppcaaGreatDoor.M1
def Qnt:Nat->Int->(Int->Int)->Prop
 | 0,c,f=>∀x,f x=c
 | m+1,c,f=>∃g d,Qnt m c g/\∀x,f x=x*g x+d
theorem Qnt.div:∀(m:Nat) (c:Int) (f:Int->Int),Qnt (m+1) c f->∀r,∃g,Qnt m c g/\∀x,f x=(x - r)*g x+f r
 | 0,c,f,⟨g,d,hg,hf⟩,r=>by
   have hg':∀x,g x=c:=hg
   refine ⟨fun _=>c,fun _=>rfl,fun x=>?_⟩;rw [hf x,hf r,hg' x,hg' r]
   grind
 | m+1,c,f,⟨g,d,hg,hf⟩,r=>by
   obtain ⟨g1,h1,h2⟩:=Qnt.div m c g hg r;refine ⟨fun x=>x*g1 x+g r,⟨g1,g r,h1,fun x=>rfl⟩,fun x=>?_⟩;rw [hf x,hf r,h2 x]
   grind
theorem Pr.euclidI {p:Nat} (hp:Pr p) {a b:Int} (h:(p:Int) ∣ a*b):(p:Int) ∣ a∨(p:Int) ∣ b:=by
 rw [Int.ofNat_dvd_left,Int.natAbs_mul] at h;rw [Int.ofNat_dvd_left,Int.ofNat_dvd_left];exact hp.euclid h
theorem Qnt.roots {p:Nat} (hp:Pr p):∀(m:Nat) (c:Int) (f:Int->Int),Qnt m c f->¬(p:Int) ∣ c->∀l:List Nat,l.Nodup->(∀x∈l,x<p/\(p:Int) ∣ f x)->l.length<=m
 | 0,c,f,hf,hc,l,hn,hl=>by
   cases l with
   | nil=>simp
   | cons r l=>
     have h1:=(hl r (List.mem_cons_self ..)).2;have h2:=hf r;rw [h2] at h1;exact absurd h1 hc
 | m+1,c,f,hf,hc,l,hn,hl=>by
   cases l with
   | nil=>simp
   | cons r l=>
     obtain ⟨g,hg,hd⟩:=Qnt.div m c f hf (r:Int);have hn':=List.nodup_cons.1 hn;obtain ⟨hr1,hr2⟩:=hl r (List.mem_cons_self ..)
     have:=Qnt.roots hp m c g hg hc l hn'.2 (fun x hx=>by
      obtain ⟨hx1,hx2⟩:=hl x (List.mem_cons_of_mem _ hx);refine ⟨hx1,?_⟩
      have h3:(p:Int) ∣ ((x:Int) - r)*g x:=by
       have e:((x:Int) - r)*g x=f x - f r:=by rw [hd x];omega
       rw [e];exact Int.dvd_sub hx2 hr2
      rcases hp.euclidI h3 with h4 | h4
      ·exfalso;have hne:x≠r:=by rintro rfl;exact hn'.1 hx
       rw [Int.ofNat_dvd_left] at h4;exact Qbz (a:=((x:Int) - r).natAbs) (by omega) (by omega) h4
      ·exact h4)
     simp;omega
theorem Qnt.pow:∀m:Nat,Qnt m 1 (fun x=>x^m)
 | 0=>fun x=>by simp
 | m+1=>⟨fun x=>x^m,0,Qnt.pow m,fun x=>by show x^(m+1)=x*x^m+0;rw [Int.pow_succ];grind⟩
theorem Pr.non {p m:Nat} (hp:Pr p) (hm:1<=m) (hmp:m<p - 1):∃b,2<=b/\b<p/\b^m%p≠1:=by
 apply Classical.byContradiction;intro hno;have h2:=hp.1;obtain ⟨k,rfl⟩:∃k,m=k+1:=⟨m - 1,by omega⟩
 have hpoly:Qnt (k+1) 1 (fun x=>x^(k+1) - 1):=⟨fun x=>x^k,-1,Qnt.pow k,fun x=>by show x^(k+1) - 1=x*x^k + -1;rw [Int.pow_succ];grind⟩
 have hc:¬(p:Int) ∣ 1:=by
  rw [Int.ofNat_dvd_left];exact Qbz (by omega) (by show 1<p;omega)
 have:=Qnt.roots hp (k+1) 1 _ hpoly hc (List.range' 1 (p - 1)) List.nodup_range' (fun x hx=>by
  simp [List.mem_range'_1] at hx;refine ⟨by omega,?_⟩
  have h1:x^(k+1)%p=1:=by
   by_cases hx1:x=1
   ·subst hx1;rw [Nat.one_pow,Nat.mod_eq_of_lt (by omega)]
   ·apply Classical.byContradiction;intro hne;exact hno ⟨x,by omega,by omega,hne⟩
  have e:=Nat.div_add_mod (x^(k+1)) p;rw [h1] at e;refine ⟨((x^(k+1)/p:Nat):Int),?_⟩;have e2:((x:Int))^(k+1)=((x^(k+1):Nat):Int):=by simp
  show (x:Int)^(k+1) - 1=_
  rw [e2,<- Int.natCast_mul];omega)
 rw [List.length_range'] at this;omega
theorem Qc1 {p:Nat} (hp:2<=p) (x k:Nat) (h:x%p=1):x^k%p=1:=by
 rw [Nat.pow_mod,h,Nat.one_pow,Nat.mod_eq_of_lt (by omega)]
theorem mlx (a b p:Nat):(a%p*b)%p=a*b%p:=by rw [Nat.mul_mod,Nat.mod_mod,<- Nat.mul_mod]
theorem Q1z (p sq:Nat):∀(k x b:Nat),lr p sq k x b<=b/\∀i,1<=i->i<=k->lr p sq k x b<=x*sq^i%p
 | 0,x,b=>⟨Nat.le_refl _,fun i h1 h2=>by omega⟩
 | k+1,x,b=>by
   obtain ⟨h1,h2⟩:=Q1z p sq k (x*sq%p) (min b (x*sq%p));have e:lr p sq (k+1) x b=lr p sq k (x*sq%p) (min b (x*sq%p)):=rfl;rw [e];refine ⟨by omega,fun i hi1 hi2=>?_⟩
   by_cases h:i=1
   ·subst h;rw [Nat.pow_one];omega
   ·have h3:=h2 (i - 1) (by omega) (by omega);rw [mlx,Nat.mul_assoc,<- Nat.pow_succ',show (i - 1).succ=i by omega] at h3;exact h3
theorem Qx3 (p sq:Nat):∀(k x b:Nat),lr p sq k x b=b∨∃i,i<=k/\lr p sq k x b=x*sq^i%p
 | 0,x,b=>Or.inl rfl
 | k+1,x,b=>by
   have e:lr p sq (k+1) x b=lr p sq k (x*sq%p) (min b (x*sq%p)):=rfl;rw [e];rcases Qx3 p sq k (x*sq%p) (min b (x*sq%p)) with h | ⟨i,hi,h⟩
   ·rw [h];rcases Nat.le_total b (x*sq%p) with hb | hb
    ·exact Or.inl (Nat.min_eq_left hb)
    ·exact Or.inr ⟨1,by omega,by rw [Nat.pow_one];exact Nat.min_eq_right hb⟩
   ·refine Or.inr ⟨i+1,by omega,?_⟩;rw [h,mlx,Nat.mul_assoc,<- Nat.pow_succ']
theorem least_root {p n j A e:Nat} (hp:Pr p) (hp3:3≤p) (hn:n=2^(j+1)) (he:e*(n/2)=(p - 1)/2) (hpm:p=2*((p - 1)/2)+1) (hA2:2≤A) (hmin:∀b,2≤b→b<A→b^((p - 1)/2)%p=1) (hA:A^((p - 1)/2)%p≠1)
  (r R:Nat) (hr:r=A^e%p) (hR:R=lr p (r*r%p) (n/2 - 1) r r) :
  R^n%p=1/\R^(n/2)%p≠1/\1<=R/\∀h,h<R->¬(h^n%p=1/\h^(n/2)%p≠1):=by
 have hn2:n/2=2^j:=by rw [hn,Nat.pow_succ,Nat.mul_div_cancel _ (by omega)]
 have hnn:n=2^j*2:=by rw [hn,Nat.pow_succ]
 have hj:1<=2^j:=Nat.one_le_two_pow
 have hAp:A<p:=by
  obtain ⟨b,hb1,hb2,hb3⟩:=hp.non (m:=(p - 1)/2) (by omega) (by omega)
  by_cases h:A<=b
  ·omega
  ·exact absurd (hmin b hb1 (by omega)) hb3
 have hfer:=hp.fermat (Qbz (show 0<A by omega) hAp)
 have hsq:A^((p - 1)/2)*A^((p - 1)/2)%p=1*1%p:=by
  rw [<- Nat.pow_add,show (p - 1)/2+(p - 1)/2=p - 1 by omega,hfer,Nat.one_mul,Nat.mod_eq_of_lt (by omega)]
 have hneg:(A^((p - 1)/2)+1)%p=0:=by
  rcases hp.sq hsq with h | h
  ·rw [Nat.mod_eq_of_lt (show 1<p by omega)] at h;exact absurd h hA
  ·exact h
 have hrp:r<p:=by rw [hr];exact Nat.mod_lt _ (by omega)
 have hrj:r^2^j%p=A^((p - 1)/2)%p:=by rw [hr,<- Nat.pow_mod,<- Nat.pow_mul,<- hn2,he]
 have hr1:(r^2^j+1)%p=0:=by rw [Nat.add_mod,hrj,<- Nat.add_mod];exact hneg
 have hrn:r^n%p=1:=by
  rw [hnn,Nat.pow_mul,Nat.pow_two,Nat.mul_mod,hrj,<- Nat.mul_mod,hsq,Nat.one_mul,Nat.mod_eq_of_lt (by omega)]
 have hodd:∀i,r*(r*r%p)^i%p=r^(2*i+1)%p:=by
  intro i;rw [Nat.mul_mod,<- Nat.pow_mod,<- Nat.mul_mod,<- Nat.pow_two,<- Nat.pow_mul,<- Nat.pow_succ']
 have hmem:∃i,R=r^(2*i+1)%p:=by
  rcases Qx3 p (r*r%p) (n/2 - 1) r r with h | ⟨i,_,h⟩
  ·exact ⟨0,by rw [hR,h];simp [Nat.mod_eq_of_lt hrp]⟩
  ·exact ⟨i,by rw [hR,h,hodd]⟩
 have hle:∀i,i<2^j->R<=r^(2*i+1)%p:=by
  intro i hi;obtain ⟨h1,h2⟩:=Q1z p (r*r%p) (n/2 - 1) r r;rw [hR]
  by_cases h0:i=0
  ·subst h0;simp [Nat.mod_eq_of_lt hrp];exact h1
  ·have:=h2 i (by omega) (by omega);rw [hodd] at this;exact this
 obtain ⟨i,hi⟩:=hmem
 have hRh:R^(n/2)%p≠1:=by
  rw [hi,<- Nat.pow_mod,<- Nat.pow_mul,hn2]
  have e1:r^((2*i+1)*2^j)=(r^n)^i*r^2^j:=by
   rw [<- Nat.pow_mul,<- Nat.pow_add,hnn]
   congr 1
   grind
  rw [e1,Nat.mul_mod,Qc1 (by omega) _ i hrn,Nat.one_mul,Nat.mod_mod,hrj];exact hA
 refine ⟨?_,hRh,?_,?_⟩
 ·rw [hi,<- Nat.pow_mod,<- Nat.pow_mul,Nat.mul_comm,Nat.pow_mul];exact Qc1 (by omega) _ _ hrn
 ·rcases Nat.eq_zero_or_pos R with h0 | h0
  ·exfalso;have h1:r^(2*i+1)%p=0:=by rw [← hi];exact h0
   have h2:(r^(2*i+1))^n%p=0:=by
    rw [Nat.pow_mod,h1,Nat.zero_pow (by omega),Nat.zero_mod]
   rw [<- Nat.pow_mul,Nat.mul_comm,Nat.pow_mul,Qc1 (by omega) _ _ hrn] at h2;omega
  ·exact h0
 ·rintro h hlt ⟨h1,h2⟩;obtain ⟨k,hk⟩:=hp.roots j r h hr1 (by rw [← hn];exact h1);rcases Nat.mod_two_eq_zero_or_one k with hk2 | hk2
  ·refine h2 ?_
   obtain ⟨s,rfl⟩:∃s,k=2*s:=⟨k/2,by omega⟩
   rw [Nat.pow_mod,hk,<- Nat.pow_mod,<- Nat.pow_mul,show 2*s*(n/2)=n*s by rw [hn2,hnn];grind,Nat.pow_mul];exact Qc1 (by omega) _ _ hrn
  ·obtain ⟨s,rfl⟩:∃s,k=2*s+1:=⟨k/2,by omega⟩
   have e1:r^(2*s+1)%p=r^(2*(s%2^j)+1)%p:=by
    have e2:=Nat.div_add_mod s (2^j)
    have e3:r^(2*s+1)=(r^n)^(s/2^j)*r^(2*(s%2^j)+1):=by
     rw [<- Nat.pow_mul,<- Nat.pow_add,hnn]
     congr 1
     generalize s/2^j=a at *;generalize s%2^j=b at *;rw [<- e2]
     grind
    rw [e3,Nat.mul_mod,Qc1 (by omega) _ _ hrn,Nat.one_mul,Nat.mod_mod]
   have h4:=hle (s%2^j) (Nat.mod_lt _ hj);rw [<- e1,<- hk] at h4;have:=Nat.mod_le h p;omega
end Go.Proofs.YthcidnnkakppcaaGreatDoor.F1
namespace Go.Proofs.YthcidnnkakppcaaGreatDoor.M2
theorem Qse {xs:List Nat} (h:Lim xs) (hv:xs.length≠0->LB^(xs.length - 1)<=val xs):Nrm xs:=by
 refine ⟨h,fun hne h0=>?_⟩;have e:=List.dropLast_concat_getLast hne;have hl:xs.length≠0:=fun h0=>hne (List.length_eq_zero_iff.1 h0)
 have h1:=hv hl;rw [<- e,h0,Qcw,Nat.mul_zero,Nat.add_zero] at h1;have h2:=Qbi (fun x hx=>h x (List.dropLast_subset xs hx));have e2:(xs.dropLast++[0]).length - 1=xs.dropLast.length:=by simp
 rw [e2] at h1;omega
theorem Qx4 {xs:List Nat} (h:Nrm xs) (h0:xs.length≠0):LB^(xs.length - 1)<=val xs:=by
 by_cases hlt:val xs<LB^(xs.length - 1)
 ·have:=Qay hlt;rw [Qea h] at this;omega
 ·omega
theorem Qpk {n m:Nat} {out:List Nat} (h:dig n=out++dig m) (hm:m≠0):dig n=(out++[m%LB])++dig (m/LB):=by
 rw [h,Qdw m hm,List.append_assoc];rfl
theorem Qsf (xs:List Nat) (k m:Nat) (h:k<xs.length):(val (xs.drop (k+1))%m*LB+xs.getD k 0)%m=val (xs.drop k)%m:=by
 rw [Qby xs k h,Nat.add_mod,Nat.mul_mod,Nat.mod_mod,<- Nat.mul_mod,<- Nat.add_mod,Nat.add_comm,Nat.mul_comm]
structure ShI (xs:List Nat) (bit k:Nat) (out:List Nat) (c:Nat):Prop where
 lim:Lim out
 len:out.length=k
 eq:val out+LB^k*c=2*val (xs.take k)+bit
 c1:c<=1
theorem ShI.start (xs:List Nat) (bit:Nat) (hb:bit<=1):ShI xs bit 0 [] bit:=⟨Lim.nil,rfl,by simp [val],hb⟩
theorem ShI.step {xs:List Nat} {bit k:Nat} {out:List Nat} {c:Nat} (h:ShI xs bit k out c) (hx:Lim xs):ShI xs bit (k+1) (out++[(c+2*xs.getD k 0)%LB]) ((c+2*xs.getD k 0)/LB):=by
 have h1:=hx.getD k;have h3:=h.c1;refine ⟨h.lim.append (Lim.cons (Nat.mod_lt _ Qa2) Lim.nil),by simp [h.len],?_,?_⟩
 ·rw [Qcw,h.len,Qan,Nat.add_assoc,Qfg];have:=h.eq;have e:LB^k*(c+2*xs.getD k 0)=LB^k*c+2*(LB^k*xs.getD k 0):=by rw [Nat.mul_add,Nat.mul_left_comm]
  rw [e,Nat.mul_add];omega
 ·have:c+2*xs.getD k 0<LB*2:=by omega
  have:=Nat.div_lt_of_lt_mul this;omega
theorem ShI.no {xs:List Nat} {bit:Nat} {out:List Nat} {c:Nat} (h:ShI xs bit xs.length out c) (hx:Nrm xs) (hc:c=0):out=dig (2*val xs+bit):=by
 have h1:=h.eq;rw [List.take_length,hc,Nat.mul_zero,Nat.add_zero] at h1;rw [<- h1];refine (Qea (Qse h.lim (fun h0=>?_))).symm;rw [h.len] at h0 ⊢;have:=Qx4 hx h0;omega
theorem ShI.yes {xs:List Nat} {bit:Nat} {out:List Nat} {c:Nat} (h:ShI xs bit xs.length out c) (hc:0<c):out++[c]=dig (2*val xs+bit):=by
 have h1:=h.eq;rw [List.take_length] at h1;have h3:=h.c1;have hLB:(1:Nat)<LB:=by decide
 have e:val (out++[c])=2*val xs+bit:=by rw [Qcw,h.len];exact h1
 rw [<- e];refine (Qea ⟨h.lim.append (Lim.cons (by omega) Lim.nil),fun hne=>?_⟩).symm;simp;omega
theorem Qdx:∀(xs:List Nat) (k y:Nat),k<xs.length->val (xs.set k y)+LB^k*xs.getD k 0=val xs+LB^k*y
 | [],k,y,h=>by simp at h
 | x :: xs,0,y,h=>by
   show y+LB*val xs+LB^0*x=x+LB*val xs+LB^0*y
   rw [Nat.pow_zero];omega
 | x :: xs,k+1,y,h=>by
   have ih:=Qdx xs k y (by simpa using h)
   show x+LB*val (xs.set k y)+LB^(k+1)*xs.getD k 0=x+LB*val xs+LB^(k+1)*y
   rw [Nat.pow_succ];have e:LB*(val (xs.set k y)+LB^k*xs.getD k 0)=LB*(val xs+LB^k*y):=by rw [ih]
   rw [Nat.mul_add,Nat.mul_add] at e;have e1:LB^k*LB*xs.getD k 0=LB*(LB^k*xs.getD k 0):=by rw [Nat.mul_comm (LB^k) LB,Nat.mul_assoc]
   have e2:LB^k*LB*y=LB*(LB^k*y):=by rw [Nat.mul_comm (LB^k) LB,Nat.mul_assoc]
   omega
theorem Lim.set {xs:List Nat} (h:Lim xs) (k y:Nat) (hy:y<LB):Lim (xs.set k y):=fun z hz=>by
 rcases List.mem_or_eq_of_mem_set hz with h1 | h1
 ·exact h z h1
 ·rw [h1];exact hy
theorem Qhe (n:Nat):Lim (List.replicate n 0):=fun z hz=>by rw [List.eq_of_mem_replicate hz];exact Qa2
theorem Qfi:∀n:Nat,val (List.replicate n 0)=0
 | 0=>rfl
 | n+1=>by
   rw [List.replicate_succ]
   show 0+LB*val (List.replicate n 0)=0
   rw [Qfi n,Nat.mul_zero]
structure MulI (n p T:Nat) (out:List Nat) (c:Nat):Prop where
 lim:Lim out
 len:out.length=n
 eq:val out+LB^p*c=T
 c1:c<LB
theorem MulI.step {n p T:Nat} {out:List Nat} {c:Nat} (h:MulI n p T out c) (z:Nat) (hz:z≤(LB - 1)*(LB - 1)) (hp:p<n) :
  MulI n (p+1) (T+LB^p*z) (out.set p ((c+(out.getD p 0+z))%LB)) ((c+(out.getD p 0+z))/LB):=by
 have h1:=h.lim.getD p;have h2:=h.c1;refine ⟨h.lim.set _ _ (Nat.mod_lt _ Qa2),by simp [h.len],?_,?_⟩
 ·have e:=Qdx out p ((c+(out.getD p 0+z))%LB) (by rw [h.len];exact hp);have e2:=Qfg p (c+(out.getD p 0+z));have e3:=h.eq;rw [Nat.mul_add,Nat.mul_add] at e2;omega
 ·refine Nat.div_lt_of_lt_mul ?_
  have:LB*LB=(LB - 1)*(LB - 1)+2*(LB - 1)+1:=by decide
  omega
theorem MulI.carry {n p T:Nat} {out:List Nat} {c:Nat} (h:MulI n p T out c) (hT:T<LB^n) (hc:0<c):p<n:=by
 by_cases hp:p<n
 ·exact hp
 ·exfalso;have h1:=h.eq;have h2:LB^n<=LB^p:=Nat.pow_le_pow_right Qa2 (by omega);have h3:LB^p*1<=LB^p*c:=Nat.mul_le_mul (Nat.le_refl _) hc;omega
theorem MulI.next {n p T:Nat} {out:List Nat} {c:Nat} (h:MulI n p T out c) (hp:p<n) :
  MulI n (p+1) T (out.set p ((c+out.getD p 0)%LB)) ((c+out.getD p 0)/LB):=by
 have:=h.step 0 (Nat.zero_le _) hp
 simpa using this
theorem MulI.zero {n p T:Nat} {out:List Nat} {c:Nat} (h:MulI n p T out c) (hc:c=0) (p':Nat):MulI n p' T out 0:=by
 have:=h.eq;rw [hc,Nat.mul_zero,Nat.add_zero] at this;exact ⟨h.lim,h.len,by rw [Nat.mul_zero,Nat.add_zero];exact this,Qa2⟩
theorem Qza (A X P J T y k j:Nat) (hJ:P*J=LB^(k+j)):A+P*X*T+LB^(k+j)*(X*y)=A+P*X*(T+J*y):=by
 rw [<- hJ]
 grind
theorem Qgn (xs ys:List Nat) (x k j:Nat):val (xs.take k)*val ys+LB^k*x*val (ys.take j)+LB^(k+j)*(x*ys.getD j 0)=val (xs.take k)*val ys+LB^k*x*val (ys.take (j+1)):=by
 rw [Qan];exact Qza _ _ _ _ _ _ k j (Nat.pow_add LB k j).symm
structure DivI (xs:List Nat) (d k:Nat) (out:List Nat) (r:Nat):Prop where
 qs:∃qs,out=List.replicate k 0++qs/\Lim qs/\k+qs.length=xs.length/\val qs=val (xs.drop k)/d
 r_eq:r=val (xs.drop k)%d
theorem DivI.start (xs:List Nat) (d:Nat):DivI xs d xs.length (List.replicate xs.length 0) 0:=
 ⟨⟨[],by simp,Lim.nil,by simp,by simp [val]⟩,by simp [val]⟩
theorem DivI.len {xs:List Nat} {d k:Nat} {out:List Nat} {r:Nat} (h:DivI xs d k out r):out.length=xs.length:=by
 obtain ⟨qs,e,_,hl,_⟩:=h.qs;rw [e];simp;omega
theorem DivI.lim {xs:List Nat} {d k:Nat} {out:List Nat} {r:Nat} (h:DivI xs d k out r):Lim out:=by
 obtain ⟨qs,e,hq,_,_⟩:=h.qs;rw [e];exact (Qhe k).append hq
theorem Qvr (j y:Nat) (qs:List Nat):(List.replicate (j+1) 0++qs).set j y=List.replicate j 0++y :: qs:=by
 rw [show List.replicate (j+1) 0=List.replicate j 0++[0] by rw [<- List.replicate_append_replicate];rfl,List.append_assoc,List.set_append_right _ _ (by simp),List.length_replicate,Nat.sub_self];rfl
theorem Qlr (V d x:Nat) (hd:0<d):(x+LB*V)/d=LB*(V/d)+(V%d*LB+x)/d/\(x+LB*V)%d=(V%d*LB+x)%d:=by
 have e:x+LB*V=(V%d*LB+x)+d*(LB*(V/d)):=by
  have:=Nat.div_add_mod V d;have h2:LB*(d*(V/d)+V%d)=LB*V:=by rw [this]
  rw [Nat.mul_add] at h2;have h3:d*(LB*(V/d))=LB*(d*(V/d)):=Nat.mul_left_comm _ _ _;rw [Nat.mul_comm (V%d) LB];omega
 rw [e];refine ⟨?_,Nat.add_mul_mod_self_left _ _ _⟩;rw [Nat.add_mul_div_left _ _ hd,Nat.add_comm]
theorem DivI.step {xs:List Nat} {d j:Nat} {out:List Nat} {r:Nat} (h:DivI xs d (j+1) out r) (hd:0<d) (hj:j<xs.length) (hx:Lim xs) :
  DivI xs d j (out.set j ((r*LB+xs.getD j 0)/d)) ((r*LB+xs.getD j 0)%d)/\(r*LB+xs.getD j 0)/d<LB:=by
 obtain ⟨qs,e,hq,hl,hv⟩:=h.qs;have hr:=h.r_eq
 have hlt:(r*LB+xs.getD j 0)/d<LB:=by
  refine Nat.div_lt_of_lt_mul ?_
  have h1:r<d:=by rw [hr];exact Nat.mod_lt _ hd
  have h2:=hx.getD j;have h3:(r+1)*LB<=d*LB:=Nat.mul_le_mul h1 (Nat.le_refl _);rw [Nat.add_mul] at h3;omega
 have f:=Qlr (val (xs.drop (j+1))) d (xs.getD j 0) hd;rw [<- Qby xs j hj,<- hr] at f;refine ⟨⟨⟨(r*LB+xs.getD j 0)/d :: qs,?_,Lim.cons hlt hq,by simp;omega,?_⟩,f.2.symm⟩,hlt⟩
 ·rw [e,Qvr]
 ·rw [f.1]
  show (r*LB+xs.getD j 0)/d+LB*val qs=_
  rw [hv,Nat.add_comm]
theorem DivI.done {xs:List Nat} {d:Nat} {out:List Nat} {r:Nat} (h:DivI xs d 0 out r):Qlm out=dig (val xs/d)/\r=val xs%d:=by
 obtain ⟨qs,e,hq,hl,hv⟩:=h.qs;refine ⟨?_,h.r_eq⟩;unfold Qlm;rw [e];simp at hv ⊢;rw [hv]
theorem Qzb (r:Nat) (h0:r≠0) (h:r<LB):dig r=[r]:=by
 rw [Qdw r h0,Nat.mod_eq_of_lt h,Nat.div_eq_of_lt h,Qax]
def down (V x t:Nat):Nat:=V*2^(28 - t)+x/2^t
theorem Qi4 (V x:Nat) (hx:x<LB):down V x 28=V:=by
 unfold down;have e:(2:Nat)^28=LB:=by decide
 rw [e,Nat.div_eq_of_lt hx];simp
theorem Qpl (V x:Nat):down V x 0=x+LB*V:=by
 unfold down;simp;rw [show (268435456:Nat)=LB from rfl,Nat.mul_comm V LB];omega
theorem Qls (V x t:Nat) (ht:t<28):down V x t=2*down V x (t+1)+x/2^t%2:=by
 unfold down
 have e1:(2:Nat)^(28 - t)=2*2^(28 - (t+1)):=by
  rw [show 28 - t=(28 - (t+1))+1 by omega,Nat.pow_succ,Nat.mul_comm]
 have e2:x/2^(t+1)=x/2^t/2:=by rw [Nat.pow_succ,Nat.div_div_eq_div_mul]
 rw [e1,e2];have e3:V*(2*2^(28 - (t+1)))=2*(V*2^(28 - (t+1))):=Nat.mul_left_comm _ _ _;rw [e3];omega
structure BitI (xs:List Nat) (D j t:Nat) (qs:List Nat) (o R:Nat):Prop where
 lim:Lim qs
 len:j+1+qs.length=xs.length
 q:val qs=val (xs.drop (j+1))/D
 r:R=down (val (xs.drop (j+1))) (xs.getD j 0) t%D
 oq:LB*val qs+o=down (val (xs.drop (j+1))) (xs.getD j 0) t/D*2^t
theorem BitI.start {xs:List Nat} {D j:Nat} {out:List Nat} {R:Nat} (h:DivI xs D (j+1) out R) (hx:Lim xs):∃qs,out=List.replicate j 0++0 :: qs/\BitI xs D j 28 qs 0 R:=by
 obtain ⟨qs,e,hq,hl,hv⟩:=h.qs;refine ⟨qs,?_,hq,hl,hv,?_,?_⟩
 ·rw [e,show List.replicate (j+1) 0=List.replicate j 0++[0] by rw [<- List.replicate_append_replicate];rfl,List.append_assoc];rfl
 ·rw [Qi4 _ _ (hx.getD j)];exact h.r_eq
 ·rw [Qi4 _ _ (hx.getD j),<- hv,Nat.add_zero,Nat.mul_comm];rfl
theorem Qi5 (H D b:Nat) (hD:0<D) (hb:b≤1) :
  (2*(H%D)+b<D->(2*H+b)/D=2*(H/D)/\(2*H+b)%D=2*(H%D)+b)/\
  (¬2*(H%D)+b<D->(2*H+b)/D=2*(H/D)+1/\(2*H+b)%D=2*(H%D)+b - D):=by
 have e:=Nat.div_add_mod H D;have hm:H%D<D:=Nat.mod_lt _ hD;generalize H/D=Q at *;generalize H%D=M at *
 have e1:2*H+b=D*(2*Q)+(2*M+b):=by
  rw [<- e,Nat.mul_add,Nat.mul_left_comm];omega
 constructor
 ·intro h;rw [e1];exact ⟨by rw [Nat.mul_add_div hD,Nat.div_eq_of_lt h,Nat.add_zero],by rw [Nat.mul_add_mod,Nat.mod_eq_of_lt h]⟩
 ·intro h
  have e2:2*H+b=D*(2*Q+1)+(2*M+b - D):=by
   rw [Nat.mul_add,Nat.mul_one];omega
  have h3:2*M+b - D<D:=by omega
  rw [e2];exact ⟨by rw [Nat.mul_add_div hD,Nat.div_eq_of_lt h3,Nat.add_zero],by rw [Nat.mul_add_mod,Nat.mod_eq_of_lt h3]⟩
theorem BitI.no {xs:List Nat} {D j t:Nat} {qs:List Nat} {o R:Nat} (h:BitI xs D j (t+1) qs o R) (hD:0<D) (ht:t<28) (hlt:2*R+xs.getD j 0/2^t%2<D) :
  BitI xs D j t qs o (2*R+xs.getD j 0/2^t%2):=by
 have f:=(Qi5 (down (val (xs.drop (j+1))) (xs.getD j 0) (t+1)) D (xs.getD j 0/2^t%2) hD (by omega)).1 (by rw [<- h.r];exact hlt);rw [<- Qls _ _ t ht,<- h.r] at f;refine ⟨h.lim,h.len,h.q,f.2.symm,?_⟩;rw [f.1,h.oq,Nat.pow_succ]
 grind
theorem BitI.yes {xs:List Nat} {D j t:Nat} {qs:List Nat} {o R:Nat} (h:BitI xs D j (t+1) qs o R) (hD:0<D) (ht:t<28) (hge:¬2*R+xs.getD j 0/2^t%2<D) :
  BitI xs D j t qs (o+2^t) (2*R+xs.getD j 0/2^t%2 - D):=by
 have f:=(Qi5 (down (val (xs.drop (j+1))) (xs.getD j 0) (t+1)) D (xs.getD j 0/2^t%2) hD (by omega)).2 (by rw [<- h.r];exact hge);rw [<- Qls _ _ t ht,<- h.r] at f;refine ⟨h.lim,h.len,h.q,f.2.symm,?_⟩;have:=h.oq;rw [f.1,Nat.add_mul,Nat.one_mul,<- Nat.add_assoc,this,Nat.pow_succ]
 grind
theorem BitI.lt {xs:List Nat} {D j t:Nat} {qs:List Nat} {o R:Nat} (h:BitI xs D j t qs o R) (hD:0<D) (ht:t<=28) (hx:Lim xs):o<LB:=by
 have h1:=h.oq;have h2:=h.q;have hxj:=hx.getD j;generalize val (xs.drop (j+1))=V at *;generalize xs.getD j 0=x at *;have b1:down V x t/D*D<=down V x t:=Nat.div_mul_le_self _ _
 have b2:down V x t*2^t<=V*LB+x:=by
  unfold down;rw [Nat.add_mul,Nat.mul_assoc,<- Nat.pow_add,show 28 - t+t=28 by omega];have:=Nat.div_mul_le_self x (2^t);have e:(2:Nat)^28=LB:=by decide
  rw [e];omega
 have b3:V+1<=(V/D+1)*D:=by
  have:=Nat.div_add_mod V D;have:=Nat.mod_lt V hD;rw [Nat.add_mul,Nat.one_mul,Nat.mul_comm (V/D) D];omega
 have b4:(V+1)*LB<=(V/D+1)*D*LB:=Nat.mul_le_mul b3 (Nat.le_refl _);have b5:down V x t/D*D*2^t<=down V x t*2^t:=Nat.mul_le_mul b1 (Nat.le_refl _);rw [Nat.add_mul,Nat.one_mul] at b4
 have b6:down V x t/D*2^t*D<(V/D+1)*LB*D:=by
  have e1:down V x t/D*2^t*D=down V x t/D*D*2^t:=by grind
  have e2:(V/D+1)*LB*D=(V/D+1)*D*LB:=by grind
  rw [e1,e2];omega
 have b7:=Nat.lt_of_mul_lt_mul_right b6;rw [<- h1,h2,Nat.add_mul,Nat.one_mul,Nat.mul_comm LB] at b7;omega
theorem BitI.done {xs:List Nat} {D j:Nat} {qs:List Nat} {o R:Nat} (h:BitI xs D j 0 qs o R) (hD:0<D) (hx:Lim xs):DivI xs D j (List.replicate j 0++o :: qs) R:=by
 have hj:j<xs.length:=by have:=h.len;omega
 have hlt:=h.lt hD (by omega) hx;have e:=Qby xs j hj;refine ⟨⟨o :: qs,rfl,Lim.cons hlt h.lim,by have:=h.len;simp;omega,?_⟩,?_⟩
 ·have:=h.oq;rw [Qpl,← e,Nat.pow_zero,Nat.mul_one] at this;rw [← this]
  show o+LB*val qs=LB*val qs+o
  omega
 ·rw [h.r,Qpl,e]
theorem Qzc (j o:Nat) (qs:List Nat):(List.replicate j 0++o :: qs).getD j 0=o:=by
 simp [List.getD]
theorem set_mid (j o y:Nat) (qs:List Nat):(List.replicate j 0++o :: qs).set j y=List.replicate j 0++y :: qs:=by
 rw [List.set_append_right _ _ (by simp),List.length_replicate,Nat.sub_self];rfl
def ext (xs:List Nat):List Nat:=xs++List.replicate (80 - xs.length) 0
theorem Qdy {xs:List Nat} (h:xs.length<=80):(ext xs).length=80:=by unfold ext;simp;omega
theorem Qjy {xs:List Nat} (h:Lim xs):Lim (ext xs):=h.append (Qhe _)
theorem Qjz (xs:List Nat):val (ext xs)=val xs:=by unfold ext;rw [val_append,Qfi];simp
theorem Qpm (xs:List Nat) (j:Nat):(ext xs).getD j 0=xs.getD j 0:=by
 unfold ext
 by_cases h:j<xs.length
 ·simp [List.getD,List.getElem?_append_left h]
 ·simp only [List.getD,List.getElem?_append_right (Nat.le_of_not_lt h)];rw [List.getElem?_eq_none (Nat.le_of_not_lt h)]
  by_cases h2:j - xs.length<80 - xs.length
  ·rw [List.getElem?_replicate,if_pos h2];rfl
  ·rw [List.getElem?_replicate,if_neg h2]
theorem Qe6 {xs:List Nat} (h:xs.length<80) (y:Nat):(ext xs).set xs.length y=ext (xs++[y]):=by
 unfold ext;rw [List.set_append_right _ _ (Nat.le_refl _),Nat.sub_self];obtain ⟨m,hm⟩:∃m,80 - xs.length=m+1:=⟨79 - xs.length,by omega⟩
 rw [hm,List.length_append];have:80 - (xs.length+[y].length)=m:=by simp;omega
 rw [this];simp [List.replicate_succ]
theorem Qvs {xs:List Nat} (k:Nat) (h:xs.length<=k) (hk:k<=80):val ((ext xs).take k)=val xs:=by
 unfold ext;rw [List.take_append,List.take_of_length_le h,val_append,List.take_replicate,Qfi];simp
theorem Qsg:∀{a b:List Nat},Lim a->Lim b->a.length=b.length->val a=val b->a=b
 | [],[],_,_,_,_=>rfl
 | [],_ :: _,_,_,h,_=>by simp at h
 | _ :: _,[],_,_,h,_=>by simp at h
 | x :: a,y :: b,ha,hb,hl,hv=>by
   have h1:=ha.head;have h2:=hb.head;have e:x+LB*val a=y+LB*val b:=hv
   have ex:x=y:=by
    have:=congrArg (·% LB) e;simp only [Nat.add_mul_mod_self_left,Nat.mod_eq_of_lt h1,Nat.mod_eq_of_lt h2] at this;exact this
   subst ex;have ev:val a=val b:=Nat.eq_of_mul_eq_mul_left Qa2 (by omega);rw [Qsg ha.tail hb.tail (by simpa using hl) ev]
def pad (n:Nat):List Nat:=ext (dig n)
theorem Qe7 (n:Nat):val (pad n)=n:=by unfold pad;rw [Qjz,Qag]
theorem Qf4 (n:Nat):Lim (pad n):=Qjy (Qao n)
theorem Qe8 {n:Nat} (h:(dig n).length<=80):(pad n).length=80:=Qdy h
theorem Qck (n j:Nat):(pad n).getD j 0=(dig n).getD j 0:=Qpm _ _
theorem Qhf {xs:List Nat} (h:Lim xs) (hl:xs.length=80):xs=pad (val xs):=by
 have hd:(dig (val xs)).length<=80:=by have:=Qbi h;rw [hl] at this;exact Qay this
 exact Qsg h (Qf4 _) (by rw [hl,Qe8 hd]) (by rw [Qe7])
def cnt (n:Nat):Nat:=(dig n).length
theorem Qda:cnt 0=0:=by unfold cnt;rw [Qax];rfl
theorem Qf5 {n:Nat} (h:n≠0):0<cnt n:=by
 unfold cnt;have:=Qgm h
 cases e:dig n with
 | nil=>exact absurd e this
 | cons x xs=>simp
theorem cnt_lt (n:Nat):n<LB^cnt n:=by
 have:=Qbi (Qao n);rw [Qag] at this;exact this
theorem Qx5 {n:Nat} (h:n≠0):LB^(cnt n - 1)<=n:=by
 have:=Qx4 (Qbm n) (by have:=Qf5 h;unfold cnt at this;omega);rw [Qag] at this;exact this
theorem Qb4 {n k:Nat} (h:n<LB^k):cnt n<=k:=Qay h
theorem cnt_mono {n m:Nat} (h:n<=m):cnt n<=cnt m:=Qb4 (Nat.lt_of_le_of_lt h (cnt_lt m))
theorem Qc2 {xs:List Nat} (h:Nrm xs):cnt (val xs)=xs.length:=by unfold cnt;rw [Qea h]
theorem Qx6 {ls:List Nat} (h:Lim ls) (k:Nat) (hk:k<=ls.length) (hv:val (ls.take k)=val ls) (h0:k=0∨ls.getD (k - 1) 0≠0):cnt (val ls)=k:=by
 have hn:Nrm (ls.take k):=by
  refine ⟨h.take k,fun hne=>?_⟩
  have hk0:0<k:=by
   rcases Nat.eq_zero_or_pos k with e | e
   ·subst e;simp at hne
   ·exact e
  have h1:ls.getD (k - 1) 0≠0:=by
   rcases h0 with h0 | h0
   ·omega
   ·exact h0
  rw [List.getLast_eq_getElem];simp only [List.length_take,Nat.min_eq_left hk,List.getElem_take]
  simpa [List.getD,show k - 1<ls.length by omega] using h1
 rw [<- hv,Qc2 hn,List.length_take,Nat.min_eq_left hk]
theorem Qil {ls:List Nat} (k:Nat) (hv:val (ls.take (k+1))=val ls) (h0:ls.getD k 0=0):val (ls.take k)=val ls:=by
 rw [Qan,h0,Nat.mul_zero,Nat.add_zero] at hv;exact hv
theorem Qzd:∀(k:Nat) (ls:List Nat),(∀j,k<=j->ls.getD j 0=0)->val (ls.take k)=val ls:=by
 intro k
 induction k with
 | zero=>
   intro ls
   induction ls with
   | nil=>intro _;rfl
   | cons x xs ih=>
     intro hj;have h0:x=0:=hj 0 (by omega)
     have h1:val xs=0:=by
      have:=ih (fun j hj2=>by have:=hj (j+1) (by omega);simpa using this);rw [<- this];simp [val]
     simp [val,h0,h1]
 | succ k ih=>
   intro ls hj
   cases ls with
   | nil=>simp [val]
   | cons x xs=>
     have:=ih xs (fun j hj2=>by have:=hj (j+1) (by omega);simpa using this);simp [val,this]
theorem Qpn:∀(j n:Nat),(dig n).getD j 0=n/LB^j%LB
 | 0,n=>by
   by_cases h:n=0
   ·subst h;rw [Qax];simp
   ·rw [Qdw n h];simp
 | j+1,n=>by
   by_cases h:n=0
   ·subst h;rw [Qax];simp
   ·rw [Qdw n h,List.getD_cons_succ,Qpn j (n/LB),Nat.div_div_eq_div_mul,Nat.pow_succ,Nat.mul_comm LB]
theorem Qgo (n j:Nat):(pad n).getD j 0=n/LB^j%LB:=by rw [Qck,Qpn]
theorem Q3t {U v P d r f s t q:Nat} (hP:0<P) (hv:(f*LB+s)*P<=v) (hU:U<((d*f+r)*LB+t+1)*P) (hq:q*v<=U) (ht:r*LB+t<d*s):q<d:=by
 apply Classical.byContradiction;intro hn;have hdq:=Nat.le_of_not_lt hn;have h1:d*v<=q*v:=Nat.mul_le_mul_right _ hdq;have h2:d*((f*LB+s)*P)<=d*v:=Nat.mul_le_mul_left _ hv;rw [<- Nat.mul_assoc] at h2;have h3:d*(f*LB+s)*P<((d*f+r)*LB+t+1)*P:=by omega
 have h4:=Nat.lt_of_mul_lt_mul_right h3;have h5:d*(f*LB+s)=d*f*LB+d*s:=by rw [Nat.mul_add,Nat.mul_assoc]
 have h6:(d*f+r)*LB=d*f*LB+r*LB:=by rw [Nat.add_mul]
 omega
theorem g_a {U v P d r f s t q:Nat} (hd:d<=LB) (ht:d*s<=r*LB+t) (hv:v<(f*LB+s+1)*P) (hU:((d*f+r)*LB+t)*P<=U) (hP:LB*P<=v) (hq:U<(q+1)*v):d<=q+1:=by
 have h1:d*v<=d*((f*LB+s+1)*P):=Nat.mul_le_mul_left _ (Nat.le_of_lt hv);rw [<- Nat.mul_assoc] at h1;have h2:d*(f*LB+s+1)=d*f*LB+d*s+d:=by rw [Nat.mul_add,Nat.mul_add,Nat.mul_assoc,Nat.mul_one]
 have h3:(d*f+r)*LB=d*f*LB+r*LB:=by rw [Nat.add_mul]
 have h4:d*(f*LB+s+1)*P<=((d*f+r)*LB+t+d)*P:=Nat.mul_le_mul_right _ (by omega);rw [Nat.add_mul ((d*f+r)*LB+t) d P] at h4;have h5:d*P<=LB*P:=Nat.mul_le_mul_right _ hd
 have h6:d*v<(q+2)*v:=by
  have:(q+2)*v=(q+1)*v+v:=by rw [show q+2=(q+1)+1 from rfl,Nat.add_mul (q+1) 1 v,Nat.one_mul]
  omega
 have:=Nat.lt_of_mul_lt_mul_right h6;omega
theorem g_b {U v P d r f s t q:Nat} (hd:d<=LB) (hr:LB<=r) (hs:s<LB) (hv:v<(f*LB+s+1)*P) (hU:((d*f+r)*LB+t)*P<=U) (hv0:0<v) (hq:U<(q+1)*v):d<=q+1:=by
 have h1:d*v<=d*((f*LB+s+1)*P):=Nat.mul_le_mul_left _ (Nat.le_of_lt hv);rw [<- Nat.mul_assoc] at h1;have h2:d*(f*LB+s+1)<=d*(f*LB+LB):=Nat.mul_le_mul_left _ (by omega);have h3:d*(f*LB+LB)=(d*f+d)*LB:=by rw [Nat.mul_add,Nat.add_mul,Nat.mul_assoc]
 have h4:(d*f+d)*LB<=(d*f+r)*LB:=Nat.mul_le_mul_right _ (by omega);have h5:d*(f*LB+s+1)*P<=((d*f+r)*LB+t)*P:=Nat.mul_le_mul_right _ (by omega);have h6:d*v<(q+1)*v:=by omega
 have:=Nat.lt_of_mul_lt_mul_right h6;omega
theorem Q10 (n k:Nat):n/LB^k/LB=n/LB^(k+1):=by rw [Nat.div_div_eq_div_mul,Nat.pow_succ]
theorem Qhg (n k:Nat):n/LB^(k+1)*LB+n/LB^k%LB=n/LB^k:=by
 rw [<- Q10,Nat.mul_comm];exact Nat.div_add_mod _ _
theorem pw (k:Nat):0<LB^k:=Nat.pow_pos Qa2
theorem Qsh (n k:Nat):n/LB^k*LB^k<=n:=Nat.div_mul_le_self _ _
theorem Qpo (n k:Nat):n<(n/LB^k+1)*LB^k:=by
 have:=Nat.lt_div_mul_add (a:=n) (pw k);rw [Nat.add_mul,Nat.one_mul];exact this
structure Long (L v p m:Nat):Prop where
 hi:v<LB^(m+2)
 lo:LB/2<=v/LB^(m+1)
 lt:L<v*LB^(p+1)
variable {L v p m:Nat}
theorem Long.first (h:Long L v p m):v/LB^(m+1)<LB:=Nat.div_lt_of_lt_mul (by rw [<- Nat.pow_succ];exact h.hi)
theorem Long.pos (h:Long L v p m):0<v:=by
 rcases Nat.eq_zero_or_pos v with e | e
 ·have:=h.lo;rw [e,Nat.zero_div] at this;exact absurd this (by decide)
 ·exact e
theorem Long.f0 (h:Long L v p m):0<v/LB^(m+1):=Nat.lt_of_lt_of_le (by decide) h.lo
theorem Long.big (h:Long L v p m):L<LB^(p+m+3):=by
 have h1:=h.lt;have h2:v*LB^(p+1)<=LB^(m+2)*LB^(p+1):=Nat.mul_le_mul_right _ (Nat.le_of_lt h.hi);rw [<- Nat.pow_add,show m+2+(p+1)=p+m+3 by omega] at h2;omega
theorem Long.top (h:Long L v p m):L/LB^(p+m+2)%LB=L/LB^(p+m+2):=Nat.mod_eq_of_lt (Nat.div_lt_of_lt_mul (by rw [<- Nat.pow_succ];exact h.big))
theorem Long.seen (h:Long L v p m):L/LB^(p+m+2)%LB*LB+L/LB^(p+m+1)%LB=L/LB^(p+m+1):=by
 rw [h.top];exact Qhg _ _
theorem Long.V0 (h:Long L v p m):0<v*LB^p:=Nat.mul_pos h.pos (pw p)
theorem Long.q_lt (h:Long L v p m):L/(v*LB^p)<LB:=by
 refine Nat.div_lt_of_lt_mul ?_
 have:=h.lt;rw [Nat.pow_succ,<- Nat.mul_assoc] at this;exact this
theorem Long.A1 (h:Long L v p m):(v/LB^(m+1)*LB+v/LB^m%LB)*LB^(p+m)<=v*LB^p:=by
 rw [Qhg,Nat.pow_add,Nat.mul_comm (LB^p),<- Nat.mul_assoc];exact Nat.mul_le_mul_right _ (Qsh v m)
theorem Long.A2 (h:Long L v p m):v*LB^p<(v/LB^(m+1)*LB+v/LB^m%LB+1)*LB^(p+m):=by
 rw [Qhg,Nat.pow_add,Nat.mul_comm (LB^p),<- Nat.mul_assoc];exact Nat.mul_lt_mul_of_pos_right (Qpo v m) (pw p)
theorem Long.A3 (h:Long L v p m):(L/LB^(p+m+1)*LB+L/LB^(p+m)%LB)*LB^(p+m)<=L:=by
 rw [Qhg];exact Qsh _ _
theorem Long.A4 (h:Long L v p m):L<(L/LB^(p+m+1)*LB+L/LB^(p+m)%LB+1)*LB^(p+m):=by
 rw [Qhg];exact Qpo _ _
theorem Long.A5 (h:Long L v p m):LB*LB^(p+m)<=v*LB^p:=by
 refine Nat.le_trans ?_ h.A1
 refine Nat.mul_le_mul_right _ ?_
 have:1*LB<=v/LB^(m+1)*LB:=Nat.mul_le_mul_right _ h.f0;omega
theorem Long.q1 (h:Long L v p m):L/(v*LB^p)*(v*LB^p)<=L:=Nat.div_mul_le_self _ _
theorem Long.q2 (h:Long L v p m):L<(L/(v*LB^p)+1)*(v*LB^p):=by
 have:=Nat.lt_div_mul_add (a:=L) h.V0;rw [Nat.add_mul,Nat.one_mul];exact this
structure Gs (L v p m d r:Nat):Prop where
 eq:d*(v/LB^(m+1))+r=L/LB^(p+m+1)
 ge:L/(v*LB^p)<=d
 le:d<=LB+1
theorem Gs.start (h:Long L v p m):Gs L v p m (L/LB^(p+m+1)/(v/LB^(m+1))) (L/LB^(p+m+1)%(v/LB^(m+1))):=by
 have hf:=h.f0;refine ⟨by rw [Nat.mul_comm];exact Nat.div_add_mod _ _,?_,?_⟩
 ·refine (Nat.le_div_iff_mul_le hf).2 ((Nat.le_div_iff_mul_le (pw _)).2 ?_);refine Nat.le_trans ?_ h.q1
  rw [Nat.mul_assoc];refine Nat.mul_le_mul_left _ (Nat.le_trans ?_ h.A1);generalize v/LB^(m+1)=f;generalize v/LB^m%LB=s;rw [show p+m+1=(p+m)+1 from rfl,Nat.pow_succ,Nat.mul_comm (LB^(p+m)) LB,<- Nat.mul_assoc];exact Nat.mul_le_mul_right _ (Nat.le_add_right _ _)
 ·have h1:L/LB^(p+m+1)<(v/LB^(m+1)+1)*LB:=by
   refine Nat.div_lt_of_lt_mul ?_
   have a:=h.lt;have b:=Qpo v (m+1);have c:=Nat.mul_lt_mul_of_pos_right b (pw (p+1))
   have e:(v/LB^(m+1)+1)*LB^(m+1)*LB^(p+1)=LB^(p+m+1)*((v/LB^(m+1)+1)*LB):=by
    generalize v/LB^(m+1)+1=f;rw [Nat.mul_assoc,<- Nat.pow_add,show m+1+(p+1)=(p+m+1)+1 by omega,Nat.pow_succ,Nat.mul_comm (LB^(p+m+1)) LB,<- Nat.mul_assoc,Nat.mul_comm]
   omega
  have h2:=h.lo;generalize v/LB^(m+1)=f at *;generalize L/LB^(p+m+1)=S at *;refine Nat.le_of_lt_succ ((Nat.div_lt_iff_lt_mul hf).2 ?_);have e1:(LB+1+1)*f=f*LB+2*f:=by rw [Nat.add_assoc,Nat.add_mul,Nat.mul_comm LB f]
  have e2:(f+1)*LB=f*LB+LB:=by rw [Nat.add_mul,Nat.one_mul]
  have e3:LB<=2*f:=by
   have:LB/2*2=LB:=by decide
   omega
  show S<(LB+1+1)*f
  omega
theorem Gs.big {d r:Nat} (g:Gs L v p m d r) (h:Long L v p m) (hd:LB<=d):Gs L v p m (d - 1) (r+v/LB^(m+1))/\d - 1<=LB:=by
 have hq:=h.q_lt;have e:=g.eq;have l:=g.le;have hd0:0<d:=Nat.lt_of_lt_of_le (by decide) hd;refine ⟨⟨?_,by omega,by omega⟩,by omega⟩;obtain ⟨c,rfl⟩:∃c,d=c+1:=⟨d - 1,by omega⟩
 rw [Nat.add_mul,Nat.one_mul] at e;simp only [Nat.add_sub_cancel];omega
theorem Gs.dec {d r:Nat} (g:Gs L v p m d r) (h:Long L v p m) (ht:r*LB+L/LB^(p+m)%LB<d*(v/LB^m%LB)):Gs L v p m (d - 1) (r+v/LB^(m+1))/\d - 1<=LB:=by
 have a4:=h.A4;have e:=g.eq;rw [<- e] at a4;have hq:=Q3t (pw _) h.A1 a4 h.q1 ht;have hd0:=Nat.lt_of_le_of_lt (Nat.zero_le _) hq;have l:=g.le;refine ⟨⟨?_,by omega,by omega⟩,by omega⟩;obtain ⟨c,rfl⟩:∃c,d=c+1:=⟨d - 1,by omega⟩
 rw [Nat.add_mul,Nat.one_mul] at e;simp only [Nat.add_sub_cancel];omega
theorem Gs.enda {d r:Nat} (g:Gs L v p m d r) (h:Long L v p m) (hd:d<LB) (ht:d*(v/LB^m%LB)<=r*LB+L/LB^(p+m)%LB):d<=L/(v*LB^p)+1:=by
 have a3:=h.A3;rw [<- g.eq] at a3;exact g_a (Nat.le_of_lt hd) ht h.A2 a3 h.A5 h.q2
theorem Gs.endb {d r:Nat} (g:Gs L v p m d r) (h:Long L v p m) (hd:d<=LB) (hr:LB<=r):d<=L/(v*LB^p)+1:=by
 have a3:=h.A3;rw [<- g.eq] at a3;exact g_b hd hr (Nat.mod_lt _ Qa2) h.A2 a3 h.V0 h.q2
theorem Long.next {q:Nat} (h:Long L v p m) (p':Nat) (hp:p=p'+1) (hq:q=L/(v*LB^p)):Long (L - q*(v*LB^p)) v p' m:=by
 refine ⟨h.hi,h.lo,?_⟩;subst hp;have h1:=h.q1;have h2:=h.q2;rw [<- hq] at h1 h2;rw [Nat.add_mul,Nat.one_mul] at h2;omega
theorem Long.last {q:Nat} (h:Long L v 0 m) (hq:q=L/(v*LB^0)):L - q*(v*LB^0)<v:=by
 have h1:=h.q1;have h2:=h.q2;rw [<- hq] at h1 h2;rw [Nat.add_mul,Nat.one_mul,Nat.pow_zero,Nat.mul_one] at h2;rw [Nat.pow_zero,Nat.mul_one] at *;omega
structure TkI (M:Nat) (ds:List Nat) (o:Int) (p i:Nat) (cur:List Nat) (c:Int):Prop where
 lim:Lim cur
 len:cur.length=80
 eq:(val cur:Int)+(LB^(p+i):Nat)*c=(M:Int) - o*((LB^p*val (ds.take i):Nat):Int)
 lo : -((LB:Int)+2)<=c
 hi:c<=1
 up:∀j,p+i<=j->cur.getD j 0=M/LB^j%LB
theorem TkI.start (M:Nat) (ds:List Nat) (o:Int) (p:Nat) (hM:cnt M<=80):TkI M ds o p 0 (pad M) 0:=
 ⟨Qf4 M,Qe8 hM,by rw [Qe7];simp [val],by decide,by decide,fun j _=>Qgo M j⟩
theorem LBi:(LB:Int)=268435456:=rfl
theorem TkI.step {M:Nat} {ds:List Nat} {o:Int} {p i:Nat} {cur:List Nat} {c:Int} (h:TkI M ds o p i cur c) (hd:Lim ds) (ho1 : -1≤o) (ho2:o≤(LB:Int)+1) (hp:p+i<80) :
  TkI M ds o p (i+1) (cur.set (p+i) ((c+(cur.getD (p+i) 0:Int) - o*(ds.getD i 0:Int))%268435456).toNat) ((c+(cur.getD (p+i) 0:Int) - o*(ds.getD i 0:Int))/268435456):=by
 have hl:=h.lim.getD (p+i);have hx:=hd.getD i;have hlo:=h.lo;have hhi:=h.hi;have hlen:=h.len;have hxl:LB=268435456:=rfl
 have hoLo : -(ds.getD i 0:Int)<=o*(ds.getD i 0:Int):=by
  have:=Int.mul_le_mul_of_nonneg_right ho1 (Int.natCast_nonneg (ds.getD i 0));omega
 have hoHi:o*(ds.getD i 0:Int)<=((LB:Int)+1)*((LB:Int) - 1):=by
  have h1:=Int.mul_le_mul_of_nonneg_right ho2 (Int.natCast_nonneg (ds.getD i 0));have h2:((LB:Int)+1)*(ds.getD i 0:Int)<=((LB:Int)+1)*((LB:Int) - 1):=Int.mul_le_mul_of_nonneg_left (by omega) (by omega);omega
 have hLL:((LB:Int)+1)*((LB:Int) - 1)=72057594037927935:=by decide
 rw [hLL] at hoHi;have hnn:0<=(c+(cur.getD (p+i) 0:Int) - o*(ds.getD i 0:Int))%268435456:=Int.emod_nonneg _ (by decide);have hlt:(c+(cur.getD (p+i) 0:Int) - o*(ds.getD i 0:Int))%268435456<268435456:=Int.emod_lt_of_pos _ (by decide);have hdm:=Int.mul_ediv_add_emod (c+(cur.getD (p+i) 0:Int) - o*(ds.getD i 0:Int)) 268435456;have heq:=h.eq;have hvs:=Qdx cur (p+i) ((c+(cur.getD (p+i) 0:Int) - o*(ds.getD i 0:Int))%268435456).toNat (by omega);have hts:=Qan ds i;refine ⟨h.lim.set _ _ (by omega),by rw [List.length_set,hlen],?_,by omega,by omega,?_⟩
 ·have hY:=Int.toNat_of_nonneg hnn;rw [hts,show p+(i+1)=(p+i)+1 from rfl,Nat.pow_succ]
  have e1:((val (cur.set (p+i) ((c+(cur.getD (p+i) 0:Int) - o*(ds.getD i 0:Int))%268435456).toNat):Nat):Int)+((LB^(p+i):Nat):Int)*(cur.getD (p+i) 0:Int)=(val cur:Int)+((LB^(p+i):Nat):Int)*((c+(cur.getD (p+i) 0:Int) - o*(ds.getD i 0:Int))%268435456):=by
   have:=congrArg (fun z:Nat=>(z:Int)) hvs;simp only [Int.natCast_add,Int.natCast_mul] at this;rw [hY] at this;exact this
  have e2:((LB^p*(val (ds.take i)+LB^i*ds.getD i 0):Nat):Int)=((LB^p*val (ds.take i):Nat):Int)+((LB^(p+i):Nat):Int)*(ds.getD i 0:Int):=by
   rw [Nat.mul_add,<- Nat.mul_assoc,<- Nat.pow_add];simp only [Int.natCast_add,Int.natCast_mul]
  rw [e2];have e3:((LB^(p+i)*LB:Nat):Int)=((LB^(p+i):Nat):Int)*268435456:=by rw [Int.natCast_mul,LBi]
  rw [e3];generalize ((LB^(p+i):Nat):Int)=B at *;generalize ((LB^p*val (ds.take i):Nat):Int)=W at *;generalize (ds.getD i 0:Int)=x at *;generalize (cur.getD (p+i) 0:Int)=y at *;generalize ((val (cur.set (p+i) ((c+y - o*x)%268435456).toNat):Nat):Int)=A at *;generalize (val cur:Int)=C at *;generalize (c+y - o*x)%268435456=R at *;generalize (c+y - o*x)/268435456=Q at *;have e4:B*268435456*Q+B*R=B*(c+y - o*x):=by rw [<- hdm,Int.mul_add,Int.mul_assoc]
  have e5:B*(c+y - o*x)=B*c+B*y - o*(B*x):=by rw [Int.mul_sub,Int.mul_add,Int.mul_left_comm]
  rw [Int.mul_add o];omega
 ·intro j hj;rw [<- h.up j (by omega)];simp [List.getD,show ¬p+i=j by omega]
theorem TkI.done {M:Nat} {ds:List Nat} {o:Int} {p n:Nat} {cur:List Nat} {c:Int} {v:Nat} (h:TkI M ds o p n cur c) (hv:val (ds.take n)=v) (hM:M<LB^(p+n+1)) (hp:p+n<80) :
  (0<=c+(cur.getD (p+n) 0:Int)↔0<=(M:Int) - o*((LB^p*v:Nat):Int))/\
  cur.set (p+n) ((c+(cur.getD (p+n) 0:Int))%268435456).toNat=pad (((M:Int) - o*((LB^p*v:Nat):Int))%((LB^(p+n+1):Nat):Int)).toNat:=by
 have hlen:=h.len;have heq:=h.eq;rw [hv] at heq
 have hup:∀j,p+n+1<=j->cur.getD j 0=0:=fun j hj=>by
  rw [h.up j (by omega),Nat.div_eq_of_lt (Nat.lt_of_lt_of_le hM (Nat.pow_le_pow_right Qa2 hj)),Nat.zero_mod]
 -- the limbs below the topmost one
 have hz:∀k:Nat,∀ls:List Nat,(∀j,k<=j->ls.getD j 0=0)->val (ls.take k)=val ls:=by
  intro k
  induction k with
  | zero=>
    intro ls
    induction ls with
    | nil=>intro _;rfl
    | cons x xs ih=>
      intro hj;have h0:x=0:=hj 0 (by omega)
      have h1:val xs=0:=by
       have:=ih (fun j hj2=>by have:=hj (j+1) (by omega);simpa using this);rw [<- this];simp [val]
      simp [val,h0,h1]
  | succ k ih=>
    intro ls hj
    cases ls with
    | nil=>simp [val]
    | cons x xs=>
      have:=ih xs (fun j hj2=>by have:=hj (j+1) (by omega);simpa using this);simp [val,this]
 have hcur:val cur=val (cur.take (p+n))+LB^(p+n)*cur.getD (p+n) 0:=by
  rw [<- Qan,hz (p+n+1) cur hup]
 have hlow:val (cur.take (p+n))<LB^(p+n):=by
  have:=Qbi (h.lim.take (p+n));rw [List.length_take,hlen,Nat.min_eq_left (by omega)] at this;exact this
 have hnn:0<=(c+(cur.getD (p+n) 0:Int))%268435456:=Int.emod_nonneg _ (by decide);have hdm:=Int.mul_ediv_add_emod (c+(cur.getD (p+n) 0:Int)) 268435456
 have hT:(M:Int) - o*((LB^p*v:Nat):Int)=(val (cur.take (p+n)):Int)+((LB^(p+n):Nat):Int)*(c+(cur.getD (p+n) 0:Int)):=by
  rw [<- heq,hcur,Int.natCast_add,Int.natCast_mul,Int.mul_add];omega
 have hB:0<((LB^(p+n):Nat):Int):=Int.ofNat_lt.2 (pw _);refine ⟨?_,?_⟩
 ·rw [hT];constructor
  ·intro h0;have:=Int.mul_nonneg (Int.le_of_lt hB) h0;omega
  ·intro h0;apply Classical.byContradiction;intro hn;have h1:c+(cur.getD (p+n) 0:Int)≤-1:=by omega
   have h2:=Int.mul_le_mul_of_nonneg_left h1 (Int.le_of_lt hB);omega
 ·have hset:=Qdx cur (p+n) ((c+(cur.getD (p+n) 0:Int))%268435456).toNat (by omega)
  have hval:((val (cur.set (p+n) ((c+(cur.getD (p+n) 0:Int))%268435456).toNat):Nat):Int)=((M:Int) - o*((LB^p*v:Nat):Int))%((LB^(p+n+1):Nat):Int):=by
   have e1:val (cur.set (p+n) ((c+(cur.getD (p+n) 0:Int))%268435456).toNat)=val (cur.take (p+n))+LB^(p+n)*((c+(cur.getD (p+n) 0:Int))%268435456).toNat:=by omega
   have hY:=Int.toNat_of_nonneg hnn
   have e2:((val (cur.set (p+n) ((c+(cur.getD (p+n) 0:Int))%268435456).toNat):Nat):Int)=(val (cur.take (p+n)):Int)+((LB^(p+n):Nat):Int)*((c+(cur.getD (p+n) 0:Int))%268435456):=by
    rw [e1,Int.natCast_add,Int.natCast_mul,hY]
   have e3:((LB^(p+n+1):Nat):Int)=((LB^(p+n):Nat):Int)*268435456:=by rw [Nat.pow_succ,Int.natCast_mul,LBi]
   have e4:(M:Int) - o*((LB^p*v:Nat):Int)=(val (cur.set (p+n) ((c+(cur.getD (p+n) 0:Int))%268435456).toNat):Int)+((LB^(p+n+1):Nat):Int)*((c+(cur.getD (p+n) 0:Int))/268435456):=by
    rw [hT,e2,e3]
    have e5:((LB^(p+n):Nat):Int)*(c+(cur.getD (p+n) 0:Int))=((LB^(p+n):Nat):Int)*268435456*((c+(cur.getD (p+n) 0:Int))/268435456)+((LB^(p+n):Nat):Int)*((c+(cur.getD (p+n) 0:Int))%268435456):=by
     rw [Int.mul_assoc,<- Int.mul_add,hdm]
    omega
   have e6:val (cur.set (p+n) ((c+(cur.getD (p+n) 0:Int))%268435456).toNat)<LB^(p+n+1):=by
    have h1:((c+(cur.getD (p+n) 0:Int))%268435456).toNat+1<=LB:=by have:LB=268435456:=rfl;omega
    have h2:=Nat.mul_le_mul_left (LB^(p+n)) h1;rw [Nat.mul_add,Nat.mul_one] at h2;rw [e1,Nat.pow_succ];omega
   rw [e4,Int.add_mul_emod_self_left,Int.emod_eq_of_lt (Int.natCast_nonneg _) (Int.ofNat_lt.2 e6)]
  have hx:=Qhf (h.lim.set (p+n) ((c+(cur.getD (p+n) 0:Int))%268435456).toNat (by have:LB=268435456:=rfl;omega)) (by rw [List.length_set,hlen]);rw [hx]
  congr 1
  rw [<- hval,Int.toNat_natCast]
end Go.Proofs.YthcidnnkakppcaaGreatDoor.M2
