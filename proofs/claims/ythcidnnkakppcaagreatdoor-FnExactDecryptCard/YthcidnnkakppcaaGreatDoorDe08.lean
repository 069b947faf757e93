/- Proved: what its theorems say. -/
import Derived.WalkLawsBesides
import Derived.Test.YthcidnnkakppcaaGreatDoorBoth
import Derived.Test.YthcidnnkakppcaaGreatDoorDe11
set_option linter.unusedVariables false
set_option linter.unusedSimpArgs false
set_option maxHeartbeats 4000000
set_option maxRecDepth 100000
namespace Go.Proofs.YthcidnnkakppcaaGreatDoor
open Go.ChangeShapes Go.WideShapes Go.ChangeAt Go.RowKit
open M1
theorem Qg3 (a e p:Nat):Qeb (a%p) e p=a^e%p:=by unfold Qeb;rw [<- Nat.pow_mod]
theorem Qv9 (p m:Nat) (hp:2<=p) (hm:1<=m):∃A,2<=A/\A<=p/\(∀b,2<=b->b<A->Qeb (b%p) m p=1)/\Qeb (A%p) m p≠1:=by
 have key:∀k,(∃A,2<=A/\A<=p/\(∀b,2<=b->b<A->Qeb (b%p) m p=1)/\Qeb (A%p) m p≠1)∨(∀b,2<=b->b<2+k->b<=p->Qeb (b%p) m p=1):=by
  intro k
  induction k with
  | zero=>right;intro b h1 h2;omega
  | succ k ih=>
    rcases ih with h | h
    ·exact Or.inl h
    ·by_cases hk:2+k≤p
     ·by_cases h1:Qeb ((2+k)%p) m p=1
      ·right
       intro b hb1 hb2 hb3
       by_cases e:b=2+k
       ·rw [e];exact h1
       ·exact h b hb1 (by omega) hb3
      ·left
       exact ⟨2+k,by omega,hk,fun b hb1 hb2=>h b hb1 hb2 (by omega),h1⟩
     ·right
      intro b hb1 hb2 hb3;exact h b hb1 (by omega) hb3
 rcases key p with h | h
 ·exact h
 ·exfalso;have:=h p hp (by omega) (Nat.le_refl p);rw [Qg3] at this;have e:=Nat.mod_eq_zero_of_dvd (Nat.dvd_trans (by rw [Nat.pow_one];exact Nat.dvd_refl p:p ∣ p^1) (Nat.pow_dvd_pow p hm));omega
theorem Qj8 (p n m e A:Nat) (w:World) (hp3:3≤p) (hp:p≤268435456) (hm:(p - 1)/2=m) (he:(p - 1)/n=e) (hn:1≤n) (hn':n≤64) (hA2:2≤A) (hAp:A≤p)
  (hmin:∀b,2<=b->b<A->Qeb (b%p) m p=1) (hA:Qeb (A%p) m p≠1) :
  Calls Tryz.prog 145 #[.int .i64 p,.int .i64 n] w fun en w'=>en=.returned (.int .i64 (Qeb (A%p) e p))/\∃k,w'=w.drewN k:=by
 have HM:=Qaa hmin;clear hmin;have hmb:m<=p:=by omega
 have heb:e<=p:=by have:=Nat.div_le_self (p - 1) n;omega
 have c:∀(a x:Nat) (W:World),a<=p->x<=p->Calls Tryz.prog 160 #[.int .i64 a,.int .i64 x,.int .i64 p] W fun en w'=>en=.returned (.int .i64 (Qeb (a%p) x p:Nat))/\∃k,w'=W.drewN k:=by
  intro a x W ha hx;have h:=Qhl (a:Int) (x:Int) (p:Int) W ⟨by omega,by omega⟩ ⟨by omega,by omega⟩ (by simp [Q3p];omega);rw [<- Int.natCast_emod,Int.toNat_natCast,Int.toNat_natCast,Int.toNat_natCast] at h;exact h
 have r1:((p:Int) - 1)/2=(m:Int):=by omega
 have r2:((p:Int) - 1)/(n:Int)=(e:Int):=by
  rw [<- he];have:((p - 1:Nat):Int)=(p:Int) - 1:=by omega
  rw [<- this];simp
 clear hm he;have hnn:¬n=0:=by omega
 have cA:=fun W=>c A m W (by omega) hmb
 have cE:=fun W=>c A e W (by omega) heb
 have HA:((Qeb (A%p) m p:Int)==1)=false:=by simp;omega
 generalize Qeb (A%p) m p=x1 at *;generalize Qeb (A%p) e p=x2 at *;have cH:=Qaa c;clear c hA;go_enter Tryz.func145,Tryz.ntmps145;go_wp2_with fail
 go_loopw [5] (fun a W=>∃a' k:Nat,2<=a'/\a'<=A/\a=.int .i64 a'/\W=w.drewN k) (fun a _=>A - (intOf a).toNat)
 case atStart=>exact ⟨2,0,by omega,hA2,rfl,rfl⟩
 case round=>
  obtain ⟨a,k,ha2,haA,rfl,rfl⟩:=hrel
  by_cases hlt:a<A
  ·have c1:=fun W=>cH.out a m W (by omega) hmb
   rw [HM.out a ha2 hlt] at c1;clear cA cE;go_wp2_with fail;refine (c1 _).mono ?_
   rintro en w1 ⟨rfl,k1,rfl⟩;go_wp2_with fail
   go_roundw
   case rel=>exact ⟨a+1,_,by omega,by omega,by go_num,rfl⟩
   case measure=>simp [intOf];omega
  ·obtain rfl:a=A:=by omega
   go_wp2_with fail;refine (cA _).mono ?_
   rintro en w1 ⟨rfl,k1,rfl⟩;go_wp2_with fail;refine (cE _).mono ?_
   rintro en w1 ⟨rfl,k2,rfl⟩;go_wp2_with fail;go_ret;exact ⟨rfl,_,rfl⟩
theorem Qs4 (p x y:Nat) (hp:p<=268435456) (hx:x<p) (hy:y<p):(x:Int)*(y:Int)=((x*y:Nat):Int)/\x*y<=72057594037927936:=by
 refine ⟨by simp,?_⟩;have:=Nat.mul_le_mul (show x<=268435456 by omega) (show y<=268435456 by omega);omega
theorem Qiq (r p n:Nat) (w:World) (hp2:2≤p) (hp:p≤268435456) (hr:r<p) (hn:2≤n) (hn':n≤64) :
  Calls Tryz.prog 144 #[.int .i64 r,.int .i64 p,.int .i64 n] w fun en w'=>en=.returned (.int .i64 (lr p (r*r%p) (n/2 - 1) r r))/\w'=w:=by
 obtain ⟨s1,s2⟩:=Qs4 p r r hp hr hr;have hsq:r*r%p<p:=Nat.mod_lt _ (by omega);have z1:0<=(r:Int)*(r:Int):=by omega
 have z2:(r:Int)*(r:Int)<=72057594037927936:=by omega
 have q1:(r:Int)*(r:Int)%(p:Int)=((r*r%p:Nat):Int):=by rw [s1];simp
 clear s1 s2;generalize r*r%p=sq at *;obtain ⟨R,hR⟩:∃R,lr p sq (n/2 - 1) r r=R:=⟨_,rfl⟩
 rw [hR];have H0:Hid (lr p sq (n/2 - 1 - 0) r r=R):=hR;clear hR;have hpn:¬p=0:=by omega
 go_enter Tryz.func144,Tryz.ntmps144;go_wp2_with fail;rw [q1]
 go_loop [0,8,18] (fun x b i=>∃x' b' i':Nat,x'<p/\b'<p/\i'<=n/2 - 1/\Hid (lr p sq (n/2 - 1 - i') x' b'=R)/\x=.int .i64 x'/\b=.int .i64 b'/\i=.int .i64 i') (fun _ _ i=>n/2 - 1 - (intOf i).toNat)
 case atStart=>exact ⟨r,r,0,hr,hr,by omega,H0,rfl,rfl,rfl⟩
 case round=>
  obtain ⟨x,b,i,hx,hb,hi,H1,rfl,rfl,rfl⟩:=hrel;clear H0 z1 z2 q1
  by_cases hlt:i<n/2 - 1
  ·have hd:decide ((i:Int)<(n:Int)/2 - 1)=true:=by simp;omega
   obtain ⟨t1,t2⟩:=Qs4 p x sq hp hx hsq;have y1:0<=(x:Int)*(sq:Int):=by omega
   have y2:(x:Int)*(sq:Int)<=72057594037927936:=by omega
   have q2:(x:Int)*(sq:Int)%(p:Int)=((x*sq%p:Nat):Int):=by rw [t1];simp
   have hxs:x*sq%p<p:=Nat.mod_lt _ (by omega)
   have H2:Hid (lr p sq (n/2 - 1 - (i+1)) (x*sq%p) (min b (x*sq%p))=R):=by
    have:=H1.out;rw [show n/2 - 1 - i=(n/2 - 1 - (i+1))+1 by omega] at this;exact this
   clear t1 t2 H1;generalize x*sq%p=xs at *;have hmin:min b xs<p:=by omega
   go_wp2_with fail;exact ⟨⟨xs,min b xs,i+1,hxs,hmin,by omega,H2,Qa5 q2,Qa5 (by omega),by go_num⟩,by simp [intOf];omega⟩
  ·have hd:decide ((i:Int)<(n:Int)/2 - 1)=false:=by simp;omega
   obtain rfl:i=n/2 - 1:=by omega
   have HB:Hid (b=R):=by
    have:=H1.out;rw [Nat.sub_self] at this;exact this
   clear H1;go_wp2_with fail;go_ret;exact ⟨by rw [<- HB.out];rfl,rfl⟩
def inB (x lo hi:Int):Bool:=decide (lo<=x/\x<=hi)
theorem Qe9 {x lo hi:Int} (h:inB x lo hi=true):lo<=x/\x<=hi:=by simpa [inB] using h
theorem Qn4 {x lo hi:Int} (h:inB x lo hi=false):x<lo∨(lo<=x/\hi<x):=by simp [inB] at h;omega
theorem Qj9 (x lo hi:Int) (w:World) :
  Calls Tryz.prog 44 #[.int .i64 x,.int .i64 lo,.int .i64 hi] w fun e w'=>e=.returned (.bool (inB x lo hi))/\w'=w:=by
 cases h:inB x lo hi
 ·rcases Qn4 h with h1 | ⟨h1,h2⟩
  ·clear h;have d:decide (lo≤x)=false:=by simp;omega
   go_enter Tryz.func44,Tryz.ntmps44
   go_wp2
   go_ret;exact ⟨rfl,rfl⟩
  ·clear h;have d:decide (x≤hi)=false:=by simp;omega
   go_enter Tryz.func44,Tryz.ntmps44
   go_wp2
   go_ret;exact ⟨rfl,rfl⟩
 ·obtain ⟨h1,h2⟩:=Qe9 h;clear h;go_enter Tryz.func44,Tryz.ntmps44
  go_wp2
  go_ret;exact ⟨rfl,rfl⟩
def Qp0 (n:Int):Bool:=inB n 2 64&&(bits BinOp.and IntKind.i64 n (n - 1)==0)
theorem Qwa:∀n:Nat,n<65->2<=n->n &&& (n - 1)=0->n%2=0:=by decide
theorem Qn5 (a b:Nat) (ha:a<=9223372036854775807) (hb:b<=9223372036854775807):bits .and .i64 (a:Int) (b:Int)=((a &&& b:Nat):Int):=Qn0 a b ha hb
theorem Qp1 (n:Nat) (h:Qp0 (n:Int)=true):2<=n/\n<=64/\n%2=0:=by
 simp only [Qp0,Bool.and_eq_true] at h;obtain ⟨h1,h2⟩:=h;obtain ⟨h3,h4⟩:=Qe9 h1;refine ⟨by omega,by omega,Qwa n (by omega) (by omega) ?_⟩;have e:(n:Int) - 1=((n - 1:Nat):Int):=by omega
 rw [e,Qn5 n (n - 1) (by omega) (by omega)] at h2;have:=beq_iff_eq.1 h2;omega
theorem Qgp (n:Int) (w:World) :
  Calls Tryz.prog 143 #[.int .i64 n] w fun e w'=>e=.returned (.bool (Qp0 n))/\w'=w:=by
 cases h:inB n 2 64
 ·have ho:Qp0 n=false:=by simp [Qp0,h]
  rw [ho];rcases Qn4 h with h1 | ⟨h1,h2⟩
  ·clear h ho;have d:decide (2≤n)=false:=by simp;omega
   go_enter Tryz.func143,Tryz.ntmps143
   go_wp2
   go_ret;exact ⟨rfl,rfl⟩
  ·clear h ho;have d:decide (n≤64)=false:=by simp;omega
   go_enter Tryz.func143,Tryz.ntmps143
   go_wp2
   go_ret;exact ⟨rfl,rfl⟩
 ·have ho:Qp0 n=(bits BinOp.and IntKind.i64 n (n - 1)==0):=by simp [Qp0,h]
  rw [ho];obtain ⟨h1,h2⟩:=Qe9 h;clear h ho;go_enter Tryz.func143,Tryz.ntmps143
  go_wp2
  go_ret;exact ⟨rfl,rfl⟩
theorem Qhr (p:Int) (w:World) (hP:Qe0 w) (hT:Qbb w) :
  Calls Tryz.prog 129 #[.int .i64 p] w fun e w'=>e=.returned (.bool (Qi7 p&&isP p.toNat))/\∃k,w'=w.drewN k:=by
 cases h:Qi7 p
 ·have HB:Hid ((false&&isP p.toNat)=false):=rfl;generalize (false&&isP p.toNat)=B at *;clear hP hT;go_enter Tryz.func129,Tryz.ntmps129;go_wp2_with (go_at_call 72;refine (Qcl _ _).mono ?_;rintro en w' ⟨rfl,rfl⟩);go_ret;exact ⟨Qas HB.out.symm,0,rfl⟩
 ·obtain ⟨h1,h2⟩:=Qb0 h;have c:=fun W (h1:Qe0 W) (h2:Qbb W)=>Ql5 p.toNat W (by omega) h1 h2
  rw [Int.toNat_of_nonneg (by omega)] at c;rw [Bool.true_and];generalize isP p.toNat=B at *;have HP:=Qaa hP;have HT:=Qaa hT;clear hP hT;go_enter Tryz.func129,Tryz.ntmps129;go_wp2_with (go_at_call 72;refine (Qcl _ _).mono ?_;rintro en w' ⟨rfl,rfl⟩);refine (c _ HP.out HT.out).mono ?_
  rintro e w2 ⟨rfl,k,rfl⟩;go_wp2_with fail;go_ret;exact ⟨rfl,k,rfl⟩
theorem Q2c (p sq:Nat) (hp:0<p):∀(k x b:Nat),b<p->lr p sq k x b<p
 | 0,_,_,h=>h
 | k+1,x,b,h=>Q2c p sq hp k _ _ (by have:=Nat.mod_lt (x*sq) hp;omega)
structure RootOk (p n:Int):Prop where
 ord:Qp0 n=true
 md:Qi7 p=true
 pr:isP p.toNat=true
 dv:(p - 1)%n=0
theorem Qs5 {n:Int} (h:Qp0 n=true):2<=n/\n<=64:=by
 simp only [Qp0,Bool.and_eq_true] at h;exact Qe9 h.1
theorem Qir (p n:Int) (w:World) (hP:Qe0 w) (hT:Qbb w) (h:¬RootOk p n) :
  Calls Tryz.prog 132 #[.int .i64 p,.int .i64 n] w fun e w'=>e=.returned (.tuple #[.int .i64 0,.bool false])/\∃k,w'=w.drewN k:=by
 have c0:=fun W=>Qgp n W
 have c1:=fun W (h1:Qe0 W) (h2:Qbb W)=>Qhr p W h1 h2
 have HP:=Qaa hP;have HT:=Qaa hT;clear hP hT
 cases ho:Qp0 n
 ·rw [ho] at c0;clear h;go_enter Tryz.func132,Tryz.ntmps132;go_wp2_with fail;refine (c0 _).mono ?_
  rintro e w1 ⟨rfl,rfl⟩;go_wp2_with fail
  go_ret2
  exact ⟨rfl,0,rfl⟩
 ·rw [ho] at c0;obtain ⟨b1,b2⟩:=Qs5 ho
  cases hm:(Qi7 p&&isP p.toNat)
  ·rw [hm] at c1;clear h;go_enter Tryz.func132,Tryz.ntmps132;go_wp2_with fail;refine (c0 _).mono ?_
   rintro e w1 ⟨rfl,rfl⟩;go_wp2_with fail;refine (c1 _ HP.out HT.out).mono ?_
   rintro e w2 ⟨rfl,k,rfl⟩;go_wp2_with fail
   go_ret2
   exact ⟨rfl,k,rfl⟩
  ·rw [hm] at c1;simp only [Bool.and_eq_true] at hm;obtain ⟨m1,m2⟩:=Qb0 hm.1
   have hd:((p - 1)%n != 0)=true:=by
    simp only [bne_iff_ne];exact fun h4=>h ⟨ho,hm.1,hm.2,h4⟩
   have hnn:¬n=0:=by omega
   clear h hm ho;go_enter Tryz.func132,Tryz.ntmps132;go_wp2_with fail;refine (c0 _).mono ?_
   rintro e w1 ⟨rfl,rfl⟩;go_wp2_with fail;refine (c1 _ HP.out HT.out).mono ?_
   rintro e w2 ⟨rfl,k,rfl⟩;go_wp2_with fail
   go_ret2
   exact ⟨rfl,k,rfl⟩
theorem Qhs (p n r R:Nat) (w:World) (hP:Qe0 w) (hT:Qbb w) (h:RootOk p n) (hrp:r<p)
  (cs:∀W,Calls Tryz.prog 145 #[.int .i64 p,.int .i64 n] W fun en w'=>en=.returned (.int .i64 r)/\∃k,w'=W.drewN k)
  (cl:∀W,Calls Tryz.prog 144 #[.int .i64 r,.int .i64 p,.int .i64 n] W fun en w'=>en=.returned (.int .i64 R)/\w'=W) :
  Calls Tryz.prog 132 #[.int .i64 p,.int .i64 n] w fun e w'=>e=.returned (.tuple #[.int .i64 R,.bool true])/\∃k,w'=w.drewN k:=by
 obtain ⟨ho,hm,hi,hd⟩:=h;have c0:=fun W=>Qgp n W
 have c1:=fun W (h1:Qe0 W) (h2:Qbb W)=>Qhr p W h1 h2
 rw [ho] at c0;rw [hm,hi,Bool.true_and] at c1;obtain ⟨b1,b2⟩:=Qs5 ho;obtain ⟨m1,m2⟩:=Qb0 hm;have hd':(((p:Int) - 1)%(n:Int) != 0)=false:=by simp [hd]
 have hnn:¬n=0:=by omega
 have HP:=Qaa hP;have HT:=Qaa hT;clear hP hT ho hm hi hd;go_enter Tryz.func132,Tryz.ntmps132;go_wp2_with fail;refine (c0 _).mono ?_
 rintro e w1 ⟨rfl,rfl⟩;go_wp2_with fail;refine (c1 _ HP.out HT.out).mono ?_
 rintro e w2 ⟨rfl,k,rfl⟩;go_wp2_with fail;refine (cs _).mono ?_
 rintro e w3 ⟨rfl,k3,rfl⟩;go_wp2_with fail;refine (cl _).mono ?_
 rintro e w4 ⟨rfl,rfl⟩;go_wp2_with fail
 go_ret2
 exact ⟨rfl,_,rfl⟩
def rgB (n:Int):Bool:=inB n 2 16&&(bits BinOp.and IntKind.i64 n (n - 1)==0)
theorem Qzy:∀n:Nat,n<17->2<=n->n &&& (n - 1)=0->n=2∨n=4∨n=8∨n=16:=by decide
theorem Qn6 {n:Int} (h:rgB n=true):n=2∨n=4∨n=8∨n=16:=by
 simp only [rgB,Bool.and_eq_true] at h;obtain ⟨h1,h2⟩:=h;obtain ⟨h3,h4⟩:=Qe9 h1;obtain ⟨m,rfl⟩:=Int.eq_ofNat_of_zero_le (show 0<=n by omega);have e:(m:Int) - 1=((m - 1:Nat):Int):=by omega
 rw [e,Qn5 m (m - 1) (by omega) (by omega)] at h2;have h5:=beq_iff_eq.1 h2;rcases Qzy m (by omega) (by omega) (by omega) with h | h | h | h <;> omega
theorem Qya {n:Int} (h:n=2∨n=4∨n=8∨n=16):rgB n=true:=by
 rcases h with rfl | rfl | rfl | rfl <;> decide +kernel
theorem Q45 {n:Int} (h:n=2∨n=4∨n=8∨n=16):Qp0 (2*n)=true:=by
 rcases h with rfl | rfl | rfl | rfl <;> decide +kernel
theorem Qht (n:Int) (w:World) :
  Calls Tryz.prog 131 #[.int .i64 n] w fun e w'=>e=.returned (.bool (rgB n))/\w'=w:=by
 cases h:inB n 2 16
 ·have ho:rgB n=false:=by simp [rgB,h]
  rw [ho];rcases Qn4 h with h1 | ⟨h1,h2⟩
  ·clear h ho;have d:decide (2≤n)=false:=by simp;omega
   go_enter Tryz.func131,Tryz.ntmps131
   go_wp2
   go_ret;exact ⟨rfl,rfl⟩
  ·clear h ho;have d:decide (n≤16)=false:=by simp;omega
   go_enter Tryz.func131,Tryz.ntmps131
   go_wp2
   go_ret;exact ⟨rfl,rfl⟩
 ·have ho:rgB n=(bits BinOp.and IntKind.i64 n (n - 1)==0):=by simp [rgB,h]
  rw [ho];obtain ⟨h1,h2⟩:=Qe9 h;clear h ho;go_enter Tryz.func131,Tryz.ntmps131
  go_wp2
  go_ret;exact ⟨rfl,rfl⟩
theorem Qn7 (n:Int) (w:World) :
  Calls Tryz.prog 111 #[.int .i64 n] w fun e w'=>e=.returned (.bool (rgB n))/\w'=w:=by
 have c:∀W,Calls Tryz.prog 126 #[.int .i64 n,.int .i64 2,.int .i64 16] W fun e w'=>e=.returned (.bool (rgB n))/\w'=W:=by
  intro w
  cases h:inB n 2 16
  ·have ho:rgB n=false:=by simp [rgB,h]
   rw [ho];clear ho;go_enter Tryz.func126,Tryz.ntmps126;go_wp2_with (go_at_call 44;refine (Qj9 _ _ _ _).mono ?_;rintro e w' ⟨rfl,rfl⟩);go_ret;exact ⟨rfl,rfl⟩
  ·have ho:rgB n=(bits BinOp.and IntKind.i64 n (n - 1)==0):=by simp [rgB,h]
   rw [ho];obtain ⟨h1,h2⟩:=Qe9 h;clear ho;go_enter Tryz.func126,Tryz.ntmps126;go_wp2_with (go_at_call 44;refine (Qj9 _ _ _ _).mono ?_;rintro e w' ⟨rfl,rfl⟩);go_ret;exact ⟨rfl,rfl⟩
 generalize rgB n=B at *;go_enter Tryz.func111,Tryz.ntmps111;go_wp2_with fail;refine (c _).mono ?_
 rintro e w' ⟨rfl,rfl⟩;go_wp2_with fail;go_ret;exact ⟨rfl,rfl⟩
structure RingOk (p n:Int):Prop where
 sz:n=2∨n=4∨n=8∨n=16
 md:Qi7 p=true
 pr:isP p.toNat=true
 dv:(p - 1)%(2*n)=0
theorem RingOk.root {p n:Int} (h:RingOk p n):RootOk p (2*n):=⟨Q45 h.sz,h.md,h.pr,h.dv⟩
theorem RingOk.of_root {p n:Int} (hs:n=2∨n=4∨n=8∨n=16) (h:RootOk p (2*n)):RingOk p n:=⟨hs,h.md,h.pr,h.dv⟩
abbrev Qwb:Array Value:=#[.int .i64 0,.int .i64 0,.int .i64 0]
theorem Qis (p n:Int) (w:World) (hP:Qe0 w) (hT:Qbb w) (h:¬RingOk p n) :
  Calls Tryz.prog 116 #[.int .i64 p,.int .i64 n] w fun e w'=>e=.returned (.tuple #[.agg Qwb,.bool false])/\Old w w':=by
 have c0:=fun W=>Qht n W
 cases hs:rgB n
 ·rw [hs] at c0;clear h hP hT hs;go_enter Tryz.func116,Tryz.ntmps116;go_wp2_with fail;refine (c0 _).mono ?_
  rintro e w1 ⟨rfl,rfl⟩;go_wp2_with fail;exact bodyPost_ret (v:=.tuple #[.agg Qwb,.bool false]) (by simp [results,Tryz.results116,go_sem]) rfl ⟨rfl,by repeat (first | exact Old.refl _ | apply Old.alloc)⟩
 ·rw [hs] at c0;have hz:=Qn6 hs;have hb:2≤n∧n≤16:=by omega
  have c1:=fun W (h1:Qe0 W) (h2:Qbb W)=>Qir p (2*n) W h1 h2 (fun h3=>h (RingOk.of_root hz h3))
  have HP:=Qaa hP;have HT:=Qaa hT;clear h hP hT hs hz;go_enter Tryz.func116,Tryz.ntmps116;go_wp2_with fail;refine (c0 _).mono ?_
  rintro e w1 ⟨rfl,rfl⟩;go_wp2_with fail;refine (c1 _ (HP.out.old (Old.alloc (Old.refl _) _)) (HT.out.old (Old.alloc (Old.refl _) _))).mono ?_
  rintro e w1 ⟨rfl,k,rfl⟩;go_wp2_with fail;exact bodyPost_ret (v:=.tuple #[.agg Qwb,.bool false]) (by simp [results,Tryz.results116,go_sem]) rfl ⟨rfl,by repeat (first | exact Old.refl _ | apply Old.alloc | apply Old.drewN | (refine Old.own ?_ (Nat.le_refl _) _))⟩
theorem Qhu (p n R:Nat) (w:World) (hP:Qe0 w) (hT:Qbb w) (hz:(n:Int)=2∨(n:Int)=4∨(n:Int)=8∨(n:Int)=16)
  (c1:∀W,Qe0 W->Qbb W->Calls Tryz.prog 132 #[.int .i64 p,.int .i64 (2*n)] W fun e w'=>e=.returned (.tuple #[.int .i64 R,.bool true])/\∃k,w'=W.drewN k) :
  Calls Tryz.prog 116 #[.int .i64 p,.int .i64 n] w fun e w'=>e=.returned (.tuple #[.agg #[.int .i64 p,.int .i64 n,.int .i64 R],.bool true])/\Old w w':=by
 have c0:=fun W=>Qht n W
 rw [Qya hz] at c0;have hb:2<=n/\n<=16:=by omega
 have HP:=Qaa hP;have HT:=Qaa hT;clear hP hT hz;go_enter Tryz.func116,Tryz.ntmps116;go_wp2_with fail;refine (c0 _).mono ?_
 rintro e w1 ⟨rfl,rfl⟩;go_wp2_with fail;refine (c1 _ (HP.out.old (Old.alloc (Old.refl _) _)) (HT.out.old (Old.alloc (Old.refl _) _))).mono ?_
 rintro e w1 ⟨rfl,k,rfl⟩;go_wp2_with fail;exact bodyPost_ret (v:=.tuple #[.agg #[.int .i64 p,.int .i64 n,.int .i64 R],.bool true]) (by simp [results,Tryz.results116,go_sem]) rfl ⟨rfl,by repeat (first | exact Old.refl _ | apply Old.alloc | apply Old.drewN | (refine Old.own ?_ (Nat.le_refl _) _))⟩
theorem Qzz:∀n:Nat,n<65->2<=n->n &&& (n - 1)=0->∃j,j<6/\n=2^(j+1):=by decide
theorem Qwc (n:Nat) (h:Qp0 (n:Int)=true):∃j,n=2^(j+1):=by
 obtain ⟨b1,b2,b3⟩:=Qp1 n h;simp only [Qp0,Bool.and_eq_true,beq_iff_eq] at h;have e:(n:Int) - 1=((n - 1:Nat):Int):=by omega
 rw [e,Qn5 n (n - 1) (by omega) (by omega)] at h;obtain ⟨j,_,hj⟩:=Qzz n (by omega) b1 (by omega);exact ⟨j,hj⟩
structure Rt (p n R:Nat):Prop where
 pos:1<=R
 one:R^n%p=1
 neg:R^(n/2)%p=p - 1
theorem Q2d {p n R:Nat} (hp:F1.Pr p) (hp3:3<=p) (hn:n=2*(n/2)) (h1:R^n%p=1) (h2:R^(n/2)%p≠1):R^(n/2)%p=p - 1:=by
 have e:R^(n/2)*R^(n/2)%p=1*1%p:=by
  rw [<- Nat.pow_add,show n/2+n/2=n by omega,h1,Nat.mod_eq_of_lt (by omega)]
 rcases F1.Pr.sq hp e with h | h
 ·rw [Nat.mod_eq_of_lt (show 1<p by omega)] at h;exact absurd h h2
 ·have h3:=Nat.mod_lt (R^(n/2)) (show 0<p by omega);rw [Nat.add_mod,Nat.mod_eq_of_lt (show 1<p by omega)] at h;generalize R^(n/2)%p=x at *
  by_cases hx:x+1<p
  ·rw [Nat.mod_eq_of_lt hx] at h;omega
  ·omega
end Go.Proofs.YthcidnnkakppcaaGreatDoor
namespace Go.Proofs.YthcidnnkakppcaaGreatDoor
open Go.ChangeShapes Go.WideShapes Go.ChangeAt Go.RowKit
theorem Own.by_ {w w':World} {base:Nat} {v:Value} {xs:List Int} {ob:Option Nat} (h:Own w base v xs) (g:w.grownBy w' ob) (hne:∀a b,v.ownBlock=some a->ob=some b->a≠b):Own w' base v xs:=by
 refine World.ownsRow.kept h g ?_
 cases hv:v.ownBlock with
 | none=>exact Or.inl rfl
 | some a=>
   refine Or.inr (fun e=>?_);exact hne a a hv e.symm rfl
theorem Old.by_ {a w w':World} {ob:Option Nat} (h:Old a w) (g:w.grownBy w' ob) (hb:∀b,ob=some b->a.heap.size<=b):Old a w':=Below.grown h g h.size hb
structure Rc (w:World) (b:Nat) (p n r:Int):Prop where
 lt:b<w.heap.size
 c0:w.cell? ⟨b,0,none⟩=some (.int .i64 p)
 c1:w.cell? ⟨b,1,none⟩=some (.int .i64 n)
 c2:w.cell? ⟨b,2,none⟩=some (.int .i64 r)
theorem Rc.new (w:World) (p n r:Int) {t:TypeId}:Rc (w.alloc (.cells #[.int .i64 p,.int .i64 n,.int .i64 r] t)) w.heap.size p n r:=
 ⟨by simp,Qad _ _ _ _ _ rfl,Qad _ _ _ _ _ rfl,Qad _ _ _ _ _ rfl⟩
theorem Rc.old {w w':World} {b:Nat} {p n r:Int} (h:Rc w b p n r) (g:Old w w'):Rc w' b p n r:=
 ⟨Nat.lt_of_lt_of_le h.lt g.size,(g.cell (p:=⟨b,0,none⟩) h.lt).trans h.c0,(g.cell (p:=⟨b,1,none⟩) h.lt).trans h.c1,(g.cell (p:=⟨b,2,none⟩) h.lt).trans h.c2⟩
theorem Rc.by_ {w w':World} {b:Nat} {p n r:Int} {ob:Option Nat} (h:Rc w b p n r) (g:w.grownBy w' ob) (hne:∀k,ob=some k->k≠b):Rc w' b p n r:=by
 have hb:=g.block b h.lt (fun e=>hne b e.symm rfl);exact ⟨Nat.lt_of_lt_of_le h.lt g.size,(World.cell?_of_block (w:=w) (a:=⟨b,0,none⟩) hb).trans h.c0,(World.cell?_of_block (w:=w) (a:=⟨b,1,none⟩) hb).trans h.c1,(World.cell?_of_block (w:=w) (a:=⟨b,2,none⟩) hb).trans h.c2⟩
end Go.Proofs.YthcidnnkakppcaaGreatDoor
namespace Go.Proofs.YthcidnnkakppcaaGreatDoor
open Go.ChangeShapes Go.WideShapes Go.ChangeAt Go.RowKit
open M1
def pmB (p:Int):Bool:=Qi7 p&&isP p.toNat
def Qz0 (xs:List Int) (k:Nat):Bool:=pmB (xs.getD k 0) && !((xs.take k).contains (xs.getD k 0))
def gb (xs:List Int) (k:Nat):Bool:=decide (∀i,i<xs.length->k<=i->Qz0 xs i=true)
def Qgq (xs:List Int):Bool:=decide (1<=xs.length/\xs.length<=6)&&gb xs 0
theorem Qyb {xs:List Int} {k:Nat} (h:xs.length<=k):gb xs k=true:=decide_eq_true (fun i h1 h2=>by omega)
theorem Qs6 {xs:List Int} {k:Nat} (h:k<xs.length) (hk:Qz0 xs k=false):gb xs k=false:=
 decide_eq_false (fun hh=>by have:=hh k h (Nat.le_refl _);rw [hk] at this;cases this)
theorem Qyc {xs:List Int} {k:Nat} (hk:Qz0 xs k=true):gb xs k=gb xs (k+1):=by
 unfold gb
 congr 1
 refine propext ⟨fun h i h1 h2=>h i h1 (by omega),fun h i h1 h2=>?_⟩;rcases Nat.eq_or_lt_of_le h2 with e | e
 ·rw [<- e];exact hk
 ·exact h i h1 e
theorem Qp2 (xs:List Int) (p:Int) (h:∀j,j<xs.length->(p==xs.getD j 0)=false):xs.contains p=false:=by
 rw [Bool.eq_false_iff];intro hc;have hm:p∈xs:=by simpa using hc
 obtain ⟨j,hj,e⟩:=List.getElem_of_mem hm;have:=h j hj;simp [List.getD,hj,e] at this
theorem Qyd (xs:List Int) (p:Int) (j:Nat) (hj:j<xs.length) (h:(p==xs.getD j 0)=true):xs.contains p=true:=by
 have e:xs.getD j 0=xs[j]:=by simp [List.getD,hj]
 rw [e] at h;have e2:=beq_iff_eq.1 h;simp [e2]
theorem Qs7 (xs:List Int) (p:Int) (v:Value) (w:World) (hv:Row w v xs) (hl:xs.length≤9223372036854775807) :
  Calls Tryz.prog 142 #[v,.int .i64 p] w fun e w'=>(∃z:Int,e=.returned (.int .i64 z)/\decide (0<=z)=xs.contains p)/\Old w w':=by
 rcases hv with ⟨a,cap,rfl,rfl⟩ | ⟨b,o,cap,rfl,hb,h0,hc⟩
 ·go_enter Tryz.func142,Tryz.ntmps142;go_wp2_with fail;refine wp_loop_rounds 1 ?_
  rw [rounds_succ];go_wp2_with fail;go_ret;exact ⟨⟨_,rfl,rfl⟩,Old.refl _⟩
 ·have HC:=Qaa hc;clear hc;go_enter Tryz.func142,Tryz.ntmps142;go_wp2_with fail
  go_loopw [5,8] (fun x i W=>∃k:Nat,k<=xs.length/\i=.int .i64 k/\Hid (∀j,j<k->(p==xs.getD j 0)=false)/\Hid (Old w W)) (fun _ i _=>xs.length - (intOf i).toNat)
  case atStart=>exact ⟨0,by omega,rfl,fun j hj=>by omega,Old.refl _⟩
  case round=>
   obtain ⟨k,hk,rfl,H1,HG⟩:=hrel
   by_cases hlt:k<xs.length
   ·have d1:decide ((k:Int)<(xs.length:Int))=true:=by simp;omega
    have c1:=(HG.out.cell (p:=⟨b,o+k,none⟩) hb).trans (HC.out k hlt)
    cases hx:(p==xs.getD k 0)
    ·have H2:Hid (∀j,j<k+1→(p==xs.getD j 0)=false):=fun j hj=>by
      rcases Nat.lt_or_ge j k with h | h
      ·exact H1.out j h
      ·obtain rfl:j=k:=by omega
       exact hx
     clear H1;generalize xs.getD k 0=x at *;go_wp2_with fail;exact ⟨⟨k+1,by omega,by go_num,H2,HG⟩,by simp [intOf];omega⟩
    ·have H2:Hid (decide (0≤(k:Int))=xs.contains p):=by
      show _ = _
      rw [Qyd xs p k hlt hx];simp
     clear H1;generalize xs.getD k 0=x at *;go_wp2_with fail;go_ret;exact ⟨⟨_,rfl,H2.out⟩,HG.out⟩
   ·have H2:Hid (decide (0≤(-1:Int))=xs.contains p):=by
     show _ = _
     rw [Qp2 xs p (fun j hj=>H1.out j (by omega))];rfl
    clear H1;go_wp2_with fail;go_ret;exact ⟨⟨_,rfl,H2.out⟩,HG.out⟩
theorem Ql6 (xs:List Int) (p:Int) (v:Value) (w:World) (hv:Row w v xs) (hl:xs.length≤9223372036854775807) :
  Calls Tryz.prog 130 #[v,.int .i64 p] w fun e w'=>e=.returned (.bool (xs.contains p))/\Old w w':=by
 have c:=Qs7 xs p v w hv hl;generalize xs.contains p=B at *;clear hv;go_enter Tryz.func130,Tryz.ntmps130;go_wp2_with fail;refine c.mono ?_
 rintro e w1 ⟨⟨z,rfl,hz⟩,g1⟩;have HG:=Qaa g1;clear g1;have HZ:=Qaa hz;clear hz;go_wp2_with fail;go_ret;exact ⟨by rw [<- HZ.out];rfl,HG.out⟩
theorem Row.take {w:World} {a:Option Addr} {n cap:Nat} {xs:List Int} (h:Row w (.slice a n cap) xs) (k:Nat) (hk:k<=xs.length):Row w (.slice a k cap) (xs.take k):=by
 have el:(xs.take k).length=k:=by rw [List.length_take,Nat.min_eq_left hk]
 rcases h with ⟨a',cap',e,e2⟩ | ⟨b,o,cap',e,hb,h0,hc⟩
 ·subst e2;simp at hk;subst hk;exact Or.inl ⟨a,cap,rfl,by simp⟩
 ·simp only [Value.slice.injEq] at e;obtain ⟨rfl,_,rfl⟩:=e;rcases Nat.eq_zero_or_pos k with h1 | h1
  ·subst h1;exact Or.inl ⟨_,cap,rfl,by simp⟩
  ·refine Or.inr ⟨b,o,cap,by rw [el],hb,by omega,fun j hj=>?_⟩;rw [el] at hj;rw [hc j (by omega)];simp [List.getD,List.getElem?_take,hj]
def Fit:Value->Prop
 | .slice _ n c=>n<=c
 | _=>True
theorem Qa9 {a b:Bool} (h:a=b):Ending.returned (.bool a)=.returned (.bool b):=by rw [h]
theorem Qit (xs:List Int) (v:Value) (w:World) (hP:Qe0 w) (hT:Qbb w) (hv:Row w v xs) (hf:Fit v) (hl:xs.length≤9223372036854775807) :
  Calls Tryz.prog 115 #[v] w fun e w'=>e=.returned (.bool (Qgq xs))/\Old w w':=by
 by_cases h0:1<=xs.length/\xs.length<=6
 ·have HB:Hid (gb xs 0=Qgq xs):=by
   show _ = _
   unfold Qgq;rw [decide_eq_true h0,Bool.true_and]
  generalize Qgq xs=B at *;have HP:=Qaa hP;have HT:=Qaa hT;have HV:=Qaa hv;rcases hv with ⟨a,cap,rfl,rfl⟩ | ⟨b,o,cap,rfl,hb,h1,hc⟩
  ·simp at h0
  have HC:=Qaa hc;obtain ⟨h2,h3⟩:=h0;have hcap:xs.length<=cap:=hf;clear hf;have e1:((xs.length:Int)==0)=false:=beq_eq_false_iff_ne.2 (by omega);have e2:decide ((6:Int)<(xs.length:Int))=false:=by simp;omega
  clear hc hP hT;go_enter Tryz.func115,Tryz.ntmps115;go_wp2_with fail
  go_loopw [3,4,15] (fun x y i W=>∃k:Nat,k<=xs.length/\i=.int .i64 k/\Hid (gb xs k=B)/\Hid (Old w W)) (fun _ _ i _=>xs.length - (intOf i).toNat)
  case atStart=>exact ⟨0,by omega,rfl,HB,Old.refl _⟩
  case round=>
   obtain ⟨k,hk,rfl,H1,HG⟩:=hrel;clear HB
   by_cases hlt:k<xs.length
   ·have c1:=(HG.out.cell (p:=⟨b,o+k,none⟩) hb).trans (HC.out k hlt);have hkc:k≤cap:=by omega
    have RT:=Qaa ((HV.out.old HG.out).take k (by omega));have hlk:(xs.take k).length<=9223372036854775807:=by rw [List.length_take];omega
    have HAT:Hid (Qz0 xs k=(pmB (xs.getD k 0) && !((xs.take k).contains (xs.getD k 0)))):=rfl;have cp:=fun W (h1:Qe0 W) (h2:Qbb W)=>Qhr (xs.getD k 0) W h1 h2
    have cc:=fun W (h:Row W (.slice (some ⟨b,o,none⟩) k cap) (xs.take k))=>Ql6 (xs.take k) (xs.getD k 0) _ W h hlk
    have HPM:Hid (pmB (xs.getD k 0)=(Qi7 (xs.getD k 0)&&isP (xs.getD k 0).toNat)):=rfl;rw [<- HPM.out] at cp;clear HPM
    cases hpm:pmB (xs.getD k 0)
    ·have H3:Hid (false=B):=by
      have:=H1.out;rw [Qs6 hlt (by rw [HAT.out,hpm];rfl)] at this;exact this
     rw [hpm] at cp;clear HAT hpm H1 cc;generalize xs.getD k 0=x at *;go_wp2_with fail;refine (cp _ (HP.out.old HG.out) (HT.out.old HG.out)).mono ?_
     rintro e w2 ⟨rfl,n2,rfl⟩;go_wp2_with fail;go_ret;exact ⟨Qa9 H3.out,HG.out.drewN _⟩
    ·rw [hpm] at cp
     cases hct:(xs.take k).contains (xs.getD k 0)
     ·have H3:Hid (gb xs (k+1)=B):=by
       have:=H1.out;rw [Qyc (by rw [HAT.out,hpm,hct];rfl)] at this;exact this
      rw [hct] at cc;clear HAT hpm H1 hct;generalize xs.getD k 0=x at *;go_wp2_with fail;refine (cp _ (HP.out.old HG.out) (HT.out.old HG.out)).mono ?_
      rintro e w2 ⟨rfl,n2,rfl⟩;go_wp2_with fail;refine (cc _ (RT.out.old ((Old.refl _).drewN _))).mono ?_
      rintro e w3 ⟨rfl,g3⟩;have HG3:=Qaa (Old.trans (HG.out.drewN _) g3);clear g3;go_wp2_with fail;exact ⟨⟨k+1,by omega,by go_num,H3,HG3⟩,by simp [intOf];omega⟩
     ·have H3:Hid (false=B):=by
       have:=H1.out;rw [Qs6 hlt (by rw [HAT.out,hpm,hct];rfl)] at this;exact this
      rw [hct] at cc;clear HAT hpm H1 hct;generalize xs.getD k 0=x at *;go_wp2_with fail;refine (cp _ (HP.out.old HG.out) (HT.out.old HG.out)).mono ?_
      rintro e w2 ⟨rfl,n2,rfl⟩;go_wp2_with fail;refine (cc _ (RT.out.old ((Old.refl _).drewN _))).mono ?_
      rintro e w3 ⟨rfl,g3⟩;have HG3:=Qaa (Old.trans (HG.out.drewN _) g3);clear g3;go_wp2_with fail;go_ret;exact ⟨Qa9 H3.out,HG3.out⟩
   ·have H3:Hid (true=B):=by
     have:=H1.out;rw [Qyb (by omega)] at this;exact this
    clear H1;go_wp2_with fail;go_ret;exact ⟨Qa9 H3.out,HG.out⟩
 ·have HB:Hid (false=Qgq xs):=by
   show _ = _
   unfold Qgq;rw [decide_eq_false h0,Bool.false_and]
  generalize Qgq xs=B at *;obtain ⟨a,cap,rfl⟩:=hv.slice;clear hv hP hT hf
  by_cases hz:xs.length=0
  ·have e1:((xs.length:Int)==0)=true:=beq_iff_eq.2 (by omega);clear h0;generalize xs.length=n at *;clear hz;go_enter Tryz.func115,Tryz.ntmps115;go_wp2_with fail;go_ret;exact ⟨Qa9 HB.out,Old.refl _⟩
  ·have e1:((xs.length:Int)==0)=false:=beq_eq_false_iff_ne.2 (by omega);have e2:decide ((6:Int)<(xs.length:Int))=true:=by simp;omega
   clear h0;generalize xs.length=n at *;clear hz;go_enter Tryz.func115,Tryz.ntmps115;go_wp2_with fail;go_ret;exact ⟨Qa9 HB.out,Old.refl _⟩
theorem Qiu (xs:List Int) (v:Value) (w:World) (hv:Row w v xs) (hf:Fit v) (hl:xs.length≤9223372036854775807) (hx:∀x∈xs,-9223372036854775808≤x∧x≤9223372036854775807) :
  Calls Tryz.prog 112 #[v] w fun e w'=>e=.returned (.bool (Qgq xs))/\Old w w':=by
 have ci:=fun W=>Qj9 (xs.length:Int) 1 6 W
 by_cases h0:1<=xs.length/\xs.length<=6
 ·have HB:Hid (gb xs 0=Qgq xs):=by
   show _ = _
   unfold Qgq;rw [decide_eq_true h0,Bool.true_and]
  generalize Qgq xs=B at *;have hin:inB (xs.length:Int) 1 6=true:=decide_eq_true (by omega);rw [hin] at ci;have HV:=Qaa hv;rcases hv with ⟨a,cap,rfl,rfl⟩ | ⟨b,o,cap,rfl,hb,h1,hc⟩
  ·simp at h0
  have HC:=Qaa hc;have HX:=Qaa hx;obtain ⟨h2,h3⟩:=h0;have hcap:xs.length<=cap:=hf;clear hc hf hx hin;go_enter Tryz.func112,Tryz.ntmps112;go_wp2_with (go_at_call 44;refine (ci _).mono ?_;rintro e w1 ⟨rfl,hw⟩;obtain rfl:w=w1:=hw.symm);clear ci
  go_loopw [13] (fun i W=>∃k:Nat,k<=xs.length/\i=.int .i64 k/\Hid (gb xs k=B)/\Hid (Old w W)) (fun i _=>xs.length - (intOf i).toNat)
  case atStart=>exact ⟨0,by omega,rfl,HB,Old.refl _⟩
  case round=>
   obtain ⟨k,hk,rfl,H1,HG⟩:=hrel;clear HB
   by_cases hlt:k<xs.length
   ·have c1:=(HG.out.cell (p:=⟨b,o+k,none⟩) hb).trans (HC.out k hlt);have hkc:k≤cap:=by omega
    have hxm:xs.getD k 0∈xs:=by simp [List.getD,hlt]
    have hxb:=HX.out _ hxm;have HAT:Hid (Qz0 xs k=(pmB (xs.getD k 0) && !((xs.take k).contains (xs.getD k 0)))):=rfl;have HPM:Hid (pmB (xs.getD k 0)=(Qi7 (xs.getD k 0)&&isP (xs.getD k 0).toNat)):=rfl
    have HHN:Hid ((∀j,j<k->(xs.getD k 0==xs.getD j 0)=false)->(xs.take k).contains (xs.getD k 0)=false):=fun h=>Qp2 _ _ (fun j hj=>by
     rw [List.length_take] at hj;have e:(xs.take k).getD j 0=xs.getD j 0:=by simp [List.getD,List.getElem?_take,show j<k by omega]
     rw [e];exact h j (by omega))
    have HHY:Hid (∀j,j<k->(xs.getD k 0==xs.getD j 0)=true->(xs.take k).contains (xs.getD k 0)=true):=fun j hj h=>Qyd _ _ j (by rw [List.length_take];omega) (by
     have e:(xs.take k).getD j 0=xs.getD j 0:=by simp [List.getD,List.getElem?_take,hj]
     rw [e];exact h)
    have cm:=fun W=>Qlz (xs.getD k 0) W
    cases hm:Qi7 (xs.getD k 0)
    ·have H3:Hid (false=B):=by
      have:=H1.out;rw [Qs6 hlt (by rw [HAT.out,HPM.out,hm];rfl)] at this;exact this
     rw [hm] at cm;clear HAT HPM HHN HHY hm H1 hxm;generalize xs.getD k 0=x at *;go_wp2_with (go_at_call 127;refine (cm _).mono ?_;rintro e w' ⟨rfl,rfl⟩);go_ret;exact ⟨Qa9 H3.out,HG.out⟩
    ·rw [hm] at cm;obtain ⟨m1,m2⟩:=Qb0 hm;have cp:=fun W=>Ql4 (xs.getD k 0).toNat W (by omega)
     rw [Int.toNat_of_nonneg (by omega)] at cp
     cases hp:isP (xs.getD k 0).toNat
     ·have H3:Hid (false=B):=by
       have:=H1.out;rw [Qs6 hlt (by rw [HAT.out,HPM.out,hm,hp];rfl)] at this;exact this
      rw [hp] at cp;clear HAT HPM HHN HHY hm hp H1 hxm;generalize xs.getD k 0=x at *;go_wp2_with (go_at_call 127;refine (cm _).mono ?_;rintro e w' ⟨rfl,rfl⟩);refine (cp _).mono ?_
      rintro e w2 ⟨rfl,g2⟩;have HG2:=Qaa (Old.trans HG.out g2);clear g2;go_wp2_with fail;go_ret;exact ⟨Qa9 H3.out,HG2.out⟩
     ·have HY:Hid ((xs.take k).contains (xs.getD k 0)=false→gb xs (k+1)=B):=fun hct=>by
       have:=H1.out;rw [Qyc (by rw [HAT.out,HPM.out,hm,hp,hct];rfl)] at this;exact this
      have HN:Hid ((xs.take k).contains (xs.getD k 0)=true->false=B):=fun hct=>by
       have:=H1.out;rw [Qs6 hlt (by rw [HAT.out,HPM.out,hm,hp,hct];rfl)] at this;exact this
      rw [hp] at cp;have HY2:=Qaa (fun h=>HY.out (HHN.out h));have HN2:=Qaa (fun j hj h=>HN.out (HHY.out j hj h));clear HAT HPM HHN HHY HY HN hm hp H1 hxm;generalize xs.getD k 0=x at *;go_wp2_with (go_at_call 127;refine (cm _).mono ?_;rintro e w' ⟨rfl,rfl⟩);refine (cp _).mono ?_
      rintro e w2 ⟨rfl,g2⟩;have HG2:=Qaa (Old.trans HG.out g2);clear g2 HG c1 cp cm;go_wp2_with fail
      go_loopw [31] (fun i W=>∃j:Nat,j<=k/\i=.int .i64 j/\Hid (∀i,i<j->(x==xs.getD i 0)=false)/\Hid (Old w W)) (fun i _=>k - (intOf i).toNat)
      case atStart=>exact ⟨0,by omega,rfl,fun j hj=>by omega,HG2⟩
      case round=>
       obtain ⟨j,hj,rfl,H4,HG4⟩:=hrel
       by_cases hjk:j<k
       ·have d2:decide ((j:Int)<(k:Int))=true:=by simp;omega
        have c2:=(HG4.out.cell (p:=⟨b,o+j,none⟩) hb).trans (HC.out j (by omega))
        cases hq:(x==xs.getD j 0)
        ·have H5:Hid (∀i,i<j+1→(x==xs.getD i 0)=false):=fun i hi=>by
          rcases Nat.lt_or_ge i j with h | h
          ·exact H4.out i h
          ·obtain rfl:i=j:=by omega
           exact hq
         clear H4;generalize xs.getD j 0=y at *;go_wp2_with fail;exact ⟨⟨j+1,by omega,by go_num,H5,HG4⟩,by simp [intOf];omega⟩
        ·have H5:=Qaa (HN2.out j hjk hq);clear H4;generalize xs.getD j 0=y at *;go_wp2_with fail;go_ret;exact ⟨Qa9 H5.out,HG4.out⟩
       ·have H5:=Qaa (HY2.out (fun i hi=>H4.out i (by omega)));clear H4;go_wp2_with fail;exact ⟨⟨k+1,by omega,by go_num,H5,HG4⟩,by simp [intOf];omega⟩
   ·have H3:Hid (true=B):=by
     have:=H1.out;rw [Qyb (by omega)] at this;exact this
    clear H1;go_wp2_with fail;go_ret;exact ⟨Qa9 H3.out,HG.out⟩
 ·have HB:Hid (false=Qgq xs):=by
   show _ = _
   unfold Qgq;rw [decide_eq_false h0,Bool.false_and]
  generalize Qgq xs=B at *;have hin:inB (xs.length:Int) 1 6=false:=decide_eq_false (by omega);rw [hin] at ci;obtain ⟨a,cap,rfl⟩:=hv.slice;clear hv hf h0 hin hx;go_enter Tryz.func112,Tryz.ntmps112;go_wp2_with (go_at_call 44;refine (ci _).mono ?_;rintro e w1 ⟨rfl,hw⟩;obtain rfl:w=w1:=hw.symm);go_ret;exact ⟨Qa9 HB.out,Old.refl _⟩
def spA (N:Int) (xs:List Int) (k:Nat):Bool:=decide (∀i,i<xs.length->k<=i->(xs.getD i 0 - 1)%(2*N)=0)
theorem Qz1 {N:Int} {xs:List Int} {k:Nat} (h:xs.length<=k):spA N xs k=true:=decide_eq_true (fun i h1 h2=>by omega)
theorem Q2e {N:Int} {xs:List Int} {k:Nat} (h:k<xs.length) (hk:¬(xs.getD k 0 - 1)%(2*N)=0):spA N xs k=false:=
 decide_eq_false (fun f=>hk (f k h (Nat.le_refl _)))
theorem Qz2 {N:Int} {xs:List Int} {k:Nat} (hk:(xs.getD k 0 - 1)%(2*N)=0):spA N xs k=spA N xs (k+1):=by
 unfold spA;apply decide_eq_decide.2;constructor
 ·exact fun f i h1 h2=>f i h1 (by omega)
 ·intro f i h1 h2;rcases Nat.eq_or_lt_of_le h2 with e | e
  ·subst e;exact hk
  ·exact f i h1 e
def spB (N:Int) (xs:List Int):Bool:=rgB N&&(Qgq xs&&spA N xs 0)
theorem Qdc {xs:List Int} (h:Qgq xs=true):(1<=xs.length/\xs.length<=6)/\∀k,k<xs.length->pmB (xs.getD k 0)=true:=by
 unfold Qgq at h;rw [Bool.and_eq_true] at h;refine ⟨of_decide_eq_true h.1,fun k hk=>?_⟩;have:=of_decide_eq_true h.2 k hk (Nat.zero_le _);unfold Qz0 at this;rw [Bool.and_eq_true] at this;exact this.1
theorem Qs8 {p:Int} (h:pmB p=true):2<=p/\p<=268435456:=by
 unfold pmB at h;rw [Bool.and_eq_true] at h;exact Qb0 h.1
theorem Qdm {N:Int} {xs:List Int} (h:spB N xs=true):(N=2∨N=4∨N=8∨N=16)/\Qgq xs=true/\∀k,k<xs.length->RingOk (xs.getD k 0) N:=by
 unfold spB at h;rw [Bool.and_eq_true,Bool.and_eq_true] at h;obtain ⟨h1,h2,h3⟩:=h;have hz:=Qn6 h1;refine ⟨hz,h2,fun k hk=>?_⟩;have hp:=(Qdc h2).2 k hk;unfold pmB at hp;rw [Bool.and_eq_true] at hp;exact ⟨hz,hp.1,hp.2,of_decide_eq_true h3 k hk (Nat.zero_le _)⟩
theorem Q2f {N:Int} {xs:List Int} {k:Nat} (hb:Qgq xs=true) (hk:k<xs.length) (h:¬RingOk (xs.getD k 0) N):spB N xs=false:=by
 cases hs:spB N xs with
 | false=>rfl
 | true=>exact absurd ((Qdm hs).2.2 k hk) h
theorem Q2g {N:Int} {xs:List Int} (hb:Qgq xs=true) (h:∀k,k<xs.length->RingOk (xs.getD k 0) N):spB N xs=true:=by
 have h1:=(Qdc hb).1;unfold spB;rw [hb,Qya (h 0 (by omega)).sz];simp only [Bool.true_and];exact decide_eq_true (fun i hi _=>(h i hi).dv)
theorem Qiv (N:Int) (xs:List Int) (v:Value) (w:World) (hv:Row w v xs) (hf:Fit v) (hl:xs.length≤9223372036854775807) (hx:∀x∈xs,-9223372036854775808≤x∧x≤9223372036854775807) :
  Calls Tryz.prog 80 #[.agg #[.int .i64 N,v]] w fun e w'=>e=.returned (.bool (spB N xs))/\Old w w':=by
 have cb:=fun W v (h:Row W v xs) (f:Fit v)=>Qiu xs v W h f hl hx
 have cs:=fun W=>Qn7 N W
 have HV:=Qaa hv;have HF:=Qaa hf;obtain ⟨a0,cap0,ev⟩:=hv.slice;subst ev;have HN:Hid (Old w (w.alloc (.cells #[.int .i64 N,.slice a0 xs.length cap0] 52))):=(Old.refl w).alloc _;obtain ⟨B,hB⟩:∃B,spB N xs=B:=⟨_,rfl⟩
 rw [hB];clear hv hf hx
 cases hs:rgB N
 ·rw [hs] at cs;have HB:Hid (false=B):=by show false=B;rw [← hB];unfold spB;rw [hs];rfl
  clear hB hs;go_enter Tryz.func80,Tryz.ntmps80;go_wp2_with (go_at_call 111;refine (cs _).mono ?_;rintro e w' ⟨rfl,rfl⟩);go_ret;exact ⟨Qa9 HB.out,(Old.refl w).alloc _⟩
 ·rw [hs] at cs;have hz:=Qn6 hs;have hb16:2≤N∧N≤16:=by omega
  cases hb:Qgq xs
  ·have HB:Hid (false=B):=by show false=B;rw [← hB];unfold spB;rw [hs,hb];rfl
   rw [hb] at cb;clear hB hs hb hz;go_enter Tryz.func80,Tryz.ntmps80;go_wp2_with (go_at_call 111;refine (cs _).mono ?_;rintro e w' ⟨rfl,rfl⟩);refine (cb _ _ (HV.out.old HN.out) HF.out).mono ?_
   rintro e w1 ⟨rfl,g1⟩;have HG1:=Qaa (Old.trans HN.out g1);clear g1;go_wp2_with fail;go_ret;exact ⟨Qa9 HB.out,HG1.out⟩
  ·have HB0:Hid (spA N xs 0=B):=by show _ = B;rw [← hB];unfold spB;rw [hs,hb];rfl
   have HPM:=Qaa ((Qdc hb).2);have hlen:=(Qdc hb).1;rw [hb] at cb;clear hB hs hb hz;go_enter Tryz.func80,Tryz.ntmps80;go_wp2_with (go_at_call 111;refine (cs _).mono ?_;rintro e w' ⟨rfl,rfl⟩);refine (cb _ _ (HV.out.old HN.out) HF.out).mono ?_
   rintro e w1 ⟨rfl,g1⟩;have HG1:=Qaa (Old.trans HN.out g1);have HS1:Hid (w1.cell? ⟨w.heap.size,0,none⟩=some (.int .i64 N)/\w1.cell? ⟨w.heap.size,1,none⟩=some (.slice a0 xs.length cap0)):=⟨(g1.cell (p:=⟨w.heap.size,0,none⟩) (by simp)).trans (Qad _ _ _ _ _ rfl),(g1.cell (p:=⟨w.heap.size,1,none⟩) (by simp)).trans (Qad _ _ _ _ _ rfl)⟩;clear g1 cb cs;rcases (HV.out) with ⟨a,cap,e,e2⟩ | ⟨b,o,cap,e,hb,h1,hc⟩
   ·subst e2;simp at hlen
   simp only [Value.slice.injEq,true_and] at e;obtain ⟨rfl,rfl⟩:=e;have HC:=Qaa hc;clear hc;have s0:=HS1.out.1;have s1:=HS1.out.2;go_wp2_with fail
   go_loopw [18] (fun i W=>∃k:Nat,k<=xs.length/\i=.int .i64 k/\Hid (spA N xs k=B)/\W=w1) (fun i _=>xs.length - (intOf i).toNat)
   case atStart=>exact ⟨0,by omega,rfl,HB0,rfl⟩
   case round=>
    obtain ⟨k,hk,rfl,H1,hW⟩:=hrel;obtain rfl:w1=wr:=hW.symm;clear HB0 hW
    by_cases hlt:k<xs.length
    ·have c1:=(HG1.out.cell (p:=⟨b,o+k,none⟩) hb).trans (HC.out k hlt);have hp:=Qs8 (HPM.out k hlt);have hnn2:¬2*N=0:=by omega
     by_cases hd:(xs.getD k 0 - 1)%(2*N)=0
     ·have H2:Hid (spA N xs (k+1)=B):=by have:=H1.out;rw [Qz2 hd] at this;exact this
      have hd2:((xs.getD k 0 - 1)%(2*N) != 0)=false:=by rw [hd];rfl
      clear H1 hd;generalize xs.getD k 0=p at *;go_wp2_with fail;exact ⟨⟨k+1,by omega,by go_num,H2,by first | rfl | trivial⟩,by simp [intOf];omega⟩
     ·have H2:Hid (false=B):=by have:=H1.out;rw [Q2e hlt hd] at this;exact this
      have hd2:=bne_iff_ne.2 hd;clear H1 hd;generalize xs.getD k 0=p at *;go_wp2_with fail;go_ret;exact ⟨Qa9 H2.out,HG1.out⟩
    ·have H2:Hid (true=B):=by have:=H1.out;rw [Qz1 (by omega)] at this;exact this
     clear H1;go_wp2_with fail;go_ret;exact ⟨Qa9 H2.out,HG1.out⟩
theorem Tryz.infoRing:(Tryz.prog.info? 133).map (fun i=>(i.zero,i.size,i.bytes))=some (some (.agg #[.int .i64 0,.int .i64 0,.int .i64 0]),3,24):=by kernel_rfl
def Rgs (W:World) (g:Nat) (N:Int) (xs:List Int) (Rf:Nat->Int) (k:Nat):Prop:=
 ∃ys:List Int,ys.length=3*xs.length/\W.ownsRow g 133 3 (.slice (some ⟨g,0,none⟩) xs.length xs.length) xs.length (ys.map (Value.int .i64))/\∀i,i<k->ys.getD (i*3) 0=xs.getD i 0/\ys.getD (i*3+1) 0=N/\ys.getD (i*3+2) 0=Rf i
theorem Rgs.lt {W:World} {g:Nat} {N:Int} {xs:List Int} {Rf:Nat->Int} {k:Nat} (h:Rgs W g N xs Rf k):g<W.heap.size:=by
 obtain ⟨ys,_,ho,_⟩:=h;exact (ho.lt g rfl).2
theorem Rgs.old {W W':World} {g:Nat} {N:Int} {xs:List Int} {Rf:Nat->Int} {k:Nat} (h:Rgs W g N xs Rf k) (q:Old W W'):Rgs W' g N xs Rf k:=by
 obtain ⟨ys,hl,ho,hy⟩:=h;refine ⟨ys,hl,⟨ho.1,?_⟩,hy⟩;rcases ho.2 with hn | ⟨p,cap,cur,e,hb,hgg,rest⟩
 ·exact .inl hn
 ·refine .inr ⟨p,cap,cur,e,hb,?_,rest⟩;rw [q.block p (Array.getElem?_eq_some_iff.1 hgg).1];exact hgg
theorem Rgs.cell {W:World} {g:Nat} {N:Int} {xs:List Int} {Rf:Nat->Int} {k:Nat} (h:Rgs W g N xs Rf k) (j:Nat) (hj:j<3*xs.length):∃y:Int,W.cell? ⟨g,j,none⟩=some (.int .i64 y):=by
 obtain ⟨ys,hl,ho,hy⟩:=h;refine ⟨ys.getD j 0,?_⟩;rw [World.ownsRow.cellAt ho j (by omega)];simp [List.getD,hl,hj]
theorem Rgs.free {W:World} {g:Nat} {N:Int} {xs:List Int} {Rf:Nat->Int} {k:Nat} (h:Rgs W g N xs Rf k) (j:Nat):W.frozen? ⟨g,j,none⟩=false:=by
 obtain ⟨ys,hl,ho,hy⟩:=h;exact World.ownsRow.frozenAt ho j
theorem Rgs.at {W:World} {g:Nat} {N:Int} {xs:List Int} {Rf:Nat->Int} {k:Nat} (h:Rgs W g N xs Rf k) (i:Nat) (hi:i<k) (hx:i<xs.length):W.cell? ⟨g,i*3,none⟩=some (.int .i64 (xs.getD i 0))/\W.cell? ⟨g,i*3+1,none⟩=some (.int .i64 N)/\W.cell? ⟨g,i*3+2,none⟩=some (.int .i64 (Rf i)):=by
 obtain ⟨ys,hl,ho,hy⟩:=h;obtain ⟨h0,h1,h2⟩:=hy i hi;refine ⟨?_,?_,?_⟩
 ·rw [World.ownsRow.cellAt ho (i*3) (by omega),<- h0];simp [List.getD,hl,show i*3<3*xs.length by omega]
 ·rw [World.ownsRow.cellAt ho (i*3+1) (by omega),<- h1];simp [List.getD,hl,show i*3+1<3*xs.length by omega]
 ·rw [World.ownsRow.cellAt ho (i*3+2) (by omega),<- h2];simp [List.getD,hl,show i*3+2<3*xs.length by omega]
theorem Qd0 (ys:List Int) (j:Nat) (y:Int) (h:j<ys.length):(ys.set j y).getD j 0=y:=by simp [List.getD,h]
theorem Qaw (ys:List Int) (j i:Nat) (y:Int) (h:i≠j):(ys.set j y).getD i 0=ys.getD i 0:=by simp [List.getD,List.getElem?_set,Ne.symm h]
theorem Rgs.put {W:World} {g:Nat} {N:Int} {xs:List Int} {Rf:Nat→Int} {k:Nat} (h:Rgs W g N xs Rf k) (hk:k<xs.length) :
  Rgs (((W.setCell ⟨g,k*3,none⟩ (.int .i64 (xs.getD k 0))).setCell ⟨g,k*3+1,none⟩ (.int .i64 N)).setCell ⟨g,k*3+2,none⟩ (.int .i64 (Rf k))) g N xs Rf (k+1):=by
 obtain ⟨ys,hl,ho,hy⟩:=h;have h1:=(World.ownsRow.stored ho (k*3) (.int .i64 (xs.getD k 0))).1;have h2:=(World.ownsRow.stored h1 (k*3+1) (.int .i64 N)).1;have h3:=(World.ownsRow.stored h2 (k*3+2) (.int .i64 (Rf k))).1;rw [<- List.map_set,<- List.map_set,<- List.map_set] at h3;refine ⟨_,by simp [hl],h3,fun i hi=>?_⟩;rcases Nat.lt_or_ge i k with hlt | hge
 ·obtain ⟨q0,q1,q2⟩:=hy i hlt;refine ⟨?_,?_,?_⟩
  ·rw [Qaw _ _ _ _ (by omega),Qaw _ _ _ _ (by omega),Qaw _ _ _ _ (by omega)];exact q0
  ·rw [Qaw _ _ _ _ (by omega),Qaw _ _ _ _ (by omega),Qaw _ _ _ _ (by omega)];exact q1
  ·rw [Qaw _ _ _ _ (by omega),Qaw _ _ _ _ (by omega),Qaw _ _ _ _ (by omega)];exact q2
 ·obtain rfl:i=k:=by omega
  refine ⟨?_,?_,?_⟩
  ·rw [Qaw _ _ _ _ (by omega),Qaw _ _ _ _ (by omega),Qd0 _ _ _ (by omega)]
  ·rw [Qaw _ _ _ _ (by omega),Qd0 _ _ _ (by simp;omega)]
  ·rw [Qd0 _ _ _ (by simp;omega)]
theorem Qrc (n:Nat):∃ys:List Int,ys.length=3*n/\(madeCells (Value.agg #[.int .i64 0,.int .i64 0,.int .i64 0]).cells (n*3)).toList=ys.map (Value.int .i64):=by
 refine ⟨List.replicate (3*n) 0,by simp,?_⟩
 have hz:∀i:Nat,(#[Value.int .i64 0,Value.int .i64 0,Value.int .i64 0]:Array Value)[i%3]! = Value.int .i64 0:=fun i=>by
  have h3:i%3=0∨i%3=1∨i%3=2:=by omega
  rcases h3 with h | h | h <;> rw [h] <;> rfl
 rw [List.map_replicate];refine List.eq_replicate_iff.2 ⟨by simp [size_madeCells];omega,fun b hb=>?_⟩;unfold madeCells at hb;simp only [Array.toList_map,List.mem_map] at hb;obtain ⟨x,_,rfl⟩:=hb;exact hz x
theorem Qb9 (W:World) (p:Addr) (v:Value) (q:Addr) (h:q.block≠p.block):(W.setCell p v).cell? q=W.cell? q:=World.cell?_of_block (heap_setCell_other W p q.block v h)
theorem Qrd (N:Int) (xs:List Int) (Rf:Nat→Int) (v:Value) (w:World) (hP:Qe0 w) (hT:Qbb w) (hv:Row w v xs) (hf:Fit v) (hl:xs.length≤9223372036854775807)
  (hRf:∀k,RingOk (xs.getD k 0) N->(0<=Rf k/\Rf k<xs.getD k 0)/\(∀W,Qe0 W->Qbb W->Calls Tryz.prog 116 #[.int .i64 (xs.getD k 0),.int .i64 N] W fun e w'=>e=.returned (.tuple #[.agg #[.int .i64 (xs.getD k 0),.int .i64 N,.int .i64 (Rf k)],.bool true])/\Old W w')) :
  Calls Tryz.prog 92 #[.agg #[.int .i64 N,v]] w fun e w'=>Old w w'/\((spB N xs=false/\e=.returned (.tuple #[.slice none 0 0,.bool false]))∨(spB N xs=true/\∃g,w.heap.size<=g/\e=.returned (.tuple #[.slice (some ⟨g,0,none⟩) xs.length xs.length,.bool true])/\Rgs w' g N xs Rf xs.length)):=by
 have cb:=fun W v (h1:Qe0 W) (h2:Qbb W) (h:Row W v xs) (f:Fit v)=>Qit xs v W h1 h2 h f hl
 have HP:=Qaa hP;have HT:=Qaa hT;have HV:=Qaa hv;have HF:=Qaa hf;have HRF:=Qaa hRf;obtain ⟨a0,cap0,ev⟩:=hv.slice;subst ev;have HN:Hid (Old w (w.alloc (.cells #[.int .i64 N,.slice a0 xs.length cap0] 52))):=(Old.refl w).alloc _;clear hP hT hv hf hRf
 cases hb:Qgq xs
 ·rw [hb] at cb;have HB:Hid (spB N xs=false):=by show spB N xs=false;unfold spB;rw [hb];simp
  clear hb;go_enter Tryz.func92,Tryz.ntmps92;go_wp2_with fail;refine (cb _ _ (HP.out.old HN.out) (HT.out.old HN.out) (HV.out.old HN.out) HF.out).mono ?_
  rintro e w1 ⟨rfl,g1⟩;have HG1:=Qaa (Old.trans HN.out g1);clear g1;go_wp2_with fail;exact bodyPost_ret (v:=.tuple #[.slice none 0 0,.bool false]) (by simp [results,Tryz.results92,go_sem]) rfl ⟨HG1.out,Or.inl ⟨HB.out,rfl⟩⟩
 ·rw [hb] at cb;have HBB:=Qaa hb;have hlen:=(Qdc hb).1;obtain ⟨i0,hi,hz0,hz1,hz2⟩:=info_parts Tryz.infoRing;clear hb;go_enter Tryz.func92,Tryz.ntmps92;go_wp2_with fail;refine (cb _ _ (HP.out.old HN.out) (HT.out.old HN.out) (HV.out.old HN.out) HF.out).mono ?_
  rintro e w1 ⟨rfl,g1⟩;have HG1:=Qaa (Old.trans HN.out g1);have HS1:Hid (w1.cell? ⟨w.heap.size,0,none⟩=some (.int .i64 N)/\w1.cell? ⟨w.heap.size,1,none⟩=some (.slice a0 xs.length cap0)):=⟨(g1.cell (p:=⟨w.heap.size,0,none⟩) (by simp)).trans (Qad _ _ _ _ _ rfl),(g1.cell (p:=⟨w.heap.size,1,none⟩) (by simp)).trans (Qad _ _ _ _ _ rfl)⟩;have hs1:w.heap.size<w1.heap.size:=by have:=g1.size;simp at this;omega
  clear g1 cb;rcases (HV.out) with ⟨a,cap,e,e2⟩ | ⟨b,o,cap,e,hb,h1,hc⟩
  ·subst e2;simp at hlen
  simp only [Value.slice.injEq,true_and] at e;obtain ⟨rfl,rfl⟩:=e;have HC:=Qaa hc;clear hc;have s0:=HS1.out.1;have s1:=HS1.out.2;go_wp2_with (at_make;refine wpList_make_full _ rfl _ _ 63 rfl w1.heap.size 133 i0 (.agg #[.int .i64 0,.int .i64 0,.int .i64 0]) 3 Tryz.underlying63 hi hz0 hz1 .i64 .i64 _ _ xs.length rfl rfl rfl rfl (by rw [hz2];omega) (by unfold maxLen;omega) (Nat.le_refl _) ?_;intro w2 hown hgrow;have s0':=((Qbg hgrow).cell (p:=⟨w.heap.size,0,none⟩) hs1).trans s0;have s1':=((Qbg hgrow).cell (p:=⟨w.heap.size,1,none⟩) hs1).trans s1);obtain ⟨ys,hyl,hym⟩:=Qrc xs.length;rw [hym] at hown;have HRG:Hid (Rgs w2 w1.heap.size N xs Rf 0):=⟨ys,hyl,hown,fun i hi=>by omega⟩;have HG2:=Qaa (Old.trans HG1.out (Qbg hgrow));have HS2:Hid (w2.cell? ⟨w.heap.size,0,none⟩=some (.int .i64 N)/\w2.cell? ⟨w.heap.size,1,none⟩=some (.slice (some ⟨b,o,none⟩) xs.length cap0)):=⟨s0',s1'⟩;clear hown hgrow s0' s1' s0 s1 HS1 hym hyl
  go_loopw [20] (fun i W=>∃k:Nat,k<=xs.length/\i=.int .i64 k/\Hid (∀j,j<k->RingOk (xs.getD j 0) N)/\Hid (Rgs W w1.heap.size N xs Rf k)/\Hid (Old w W)/\Hid (W.cell? ⟨w.heap.size,0,none⟩=some (.int .i64 N)/\W.cell? ⟨w.heap.size,1,none⟩=some (.slice (some ⟨b,o,none⟩) xs.length cap0))) (fun i _=>xs.length - (intOf i).toNat)
  case atStart=>exact ⟨0,by omega,rfl,fun j hj=>by omega,HRG,HG2,HS2⟩
  case round=>
   obtain ⟨k,hk,rfl,H1,HR,HG,HS⟩:=hrel;clear HRG HG2 HS2
   by_cases hlt:k<xs.length
   ·have d1:decide ((k:Int)<(xs.length:Int))=true:=by simp;omega
    have c1:=(HG.out.cell (p:=⟨b,o+k,none⟩) hb).trans (HC.out k hlt);have s0:=HS.out.1;have hsr:w.heap.size<wr.heap.size:=by have:=HR.out.lt;omega
    by_cases hok:RingOk (xs.getD k 0) N
    ·have cr:=(HRF.out k hok).2
     have H2:Hid (∀j,j<k+1->RingOk (xs.getD j 0) N):=fun j hj=>by
      rcases Nat.lt_or_ge j k with h | h
      ·exact H1.out j h
      ·obtain rfl:j=k:=by omega
       exact hok
     have HPUT:Hid (∀W,Rgs W w1.heap.size N xs Rf k->Rgs (((W.setCell ⟨w1.heap.size,k*3,none⟩ (.int .i64 (xs.getD k 0))).setCell ⟨w1.heap.size,k*3+1,none⟩ (.int .i64 N)).setCell ⟨w1.heap.size,k*3+2,none⟩ (.int .i64 (Rf k))) w1.heap.size N xs Rf (k+1)):=fun W h=>h.put hlt
     have HCR:=Qaa cr;clear H1 hok cr;generalize xs.getD k 0=p at *;obtain ⟨r,hr⟩:∃r,Rf k=r:=⟨_,rfl⟩
     rw [hr] at HPUT HCR;clear hr;go_wp2_with fail;refine (HCR.out _ (HP.out.old HG.out) (HT.out.old HG.out)).mono ?_
     rintro e w3 ⟨rfl,g3⟩;have g4:Old wr (w3.alloc (.cells #[.int .i64 p,.int .i64 N,.int .i64 r] 133)):=g3.alloc _;have HR4:=Qaa (HR.out.old g4);have HG4:=Qaa (Old.trans HG.out g4);have HS4:Hid ((w3.alloc (.cells #[.int .i64 p,.int .i64 N,.int .i64 r] 133)).cell? ⟨w.heap.size,0,none⟩=some (.int .i64 N)/\(w3.alloc (.cells #[.int .i64 p,.int .i64 N,.int .i64 r] 133)).cell? ⟨w.heap.size,1,none⟩=some (.slice (some ⟨b,o,none⟩) xs.length cap0)):=⟨(g4.cell (p:=⟨w.heap.size,0,none⟩) hsr).trans HS.out.1,(g4.cell (p:=⟨w.heap.size,1,none⟩) hsr).trans HS.out.2⟩;obtain ⟨y0,q0⟩:=HR4.out.cell (k*3) (by omega);obtain ⟨y1,q1⟩:=HR4.out.cell (k*3+1) (by omega);obtain ⟨y2,q2⟩:=HR4.out.cell (k*3+2) (by omega);have f0:=HR4.out.free (k*3);have f1:=HR4.out.free (k*3+1);have f2:=HR4.out.free (k*3+2);clear g3 g4 s0 c1;have hne:w.heap.size≠w1.heap.size:=by omega
     have HS5:Hid (((((w3.alloc (.cells #[.int .i64 p,.int .i64 N,.int .i64 r] 133)).setCell ⟨w1.heap.size,k*3,none⟩ (.int .i64 p)).setCell ⟨w1.heap.size,k*3+1,none⟩ (.int .i64 N)).setCell ⟨w1.heap.size,k*3+2,none⟩ (.int .i64 r)).cell? ⟨w.heap.size,0,none⟩=some (.int .i64 N)/\((((w3.alloc (.cells #[.int .i64 p,.int .i64 N,.int .i64 r] 133)).setCell ⟨w1.heap.size,k*3,none⟩ (.int .i64 p)).setCell ⟨w1.heap.size,k*3+1,none⟩ (.int .i64 N)).setCell ⟨w1.heap.size,k*3+2,none⟩ (.int .i64 r)).cell? ⟨w.heap.size,1,none⟩=some (.slice (some ⟨b,o,none⟩) xs.length cap0)):=⟨(Qb9 _ _ _ _ hne).trans ((Qb9 _ _ _ _ hne).trans ((Qb9 _ _ _ _ hne).trans HS4.out.1)),(Qb9 _ _ _ _ hne).trans ((Qb9 _ _ _ _ hne).trans ((Qb9 _ _ _ _ hne).trans HS4.out.2))⟩;clear hne;go_wp2_with fail;exact ⟨⟨k+1,by omega,by go_num,H2,HPUT.out _ HR4.out,((HG4.out.own (p:=⟨w1.heap.size,k*3,none⟩) (by show w.heap.size<=w1.heap.size;omega) _).own (p:=⟨w1.heap.size,k*3+1,none⟩) (by show w.heap.size<=w1.heap.size;omega) _).own (p:=⟨w1.heap.size,k*3+2,none⟩) (by show w.heap.size<=w1.heap.size;omega) _,HS5⟩,by simp [intOf];omega⟩
    ·have cr:=fun W (h1:Qe0 W) (h2:Qbb W)=>Qis (xs.getD k 0) N W h1 h2 hok
     have HB:=Qaa (Q2f HBB.out hlt hok);clear H1 hok;generalize xs.getD k 0=p at *;go_wp2_with fail;refine (cr _ (HP.out.old HG.out) (HT.out.old HG.out)).mono ?_
     rintro e w3 ⟨rfl,g3⟩;have HG4:Hid (Old w (w3.alloc (.cells Qwb 133))):=Old.trans HG.out (g3.alloc _);clear g3 cr s0 c1;go_wp2_with fail;exact bodyPost_ret (v:=.tuple #[.slice none 0 0,.bool false]) (by simp [results,Tryz.results92,go_sem]) rfl ⟨HG4.out,Or.inl ⟨HB.out,rfl⟩⟩
   ·have d1:decide ((k:Int)<(xs.length:Int))=false:=by simp;omega
    obtain rfl:k=xs.length:=by omega
    have HB:=Qaa (Q2g HBB.out H1.out);clear H1;go_wp2_with fail;exact bodyPost_ret (v:=.tuple #[.slice (some ⟨w1.heap.size,0,none⟩) xs.length xs.length,.bool true]) (by simp [results,Tryz.results92,go_sem]) rfl ⟨HG.out,Or.inr ⟨HB.out,w1.heap.size,by omega,rfl,HR.out⟩⟩
end Go.Proofs.YthcidnnkakppcaaGreatDoor
namespace Go.Proofs.YthcidnnkakppcaaGreatDoor
open Go.ChangeShapes Go.WideShapes Go.ChangeAt Go.RowKit
def Qcs (p n:Int) (xs:List Int):Bool:=decide ((xs.length:Int)=n)&&xs.all (fun x=>Qij x p)
theorem Q2h (x p:Int):inB x 0 (p - 1)=Qij x p:=by
 rw [Bool.eq_iff_iff];simp [inB,Qij];omega
theorem Qwd (x p:Int) (w:World):Calls Tryz.prog 44 #[.int .i64 x,.int .i64 0,.int .i64 (p - 1)] w fun e w'=>e=.returned (.bool (Qij x p))/\w'=w:=by
 rw [<- Q2h];exact Qj9 x 0 (p - 1) w
theorem Qs9 (p n r:Int) (xs:List Int) (v:Value) (w:World) (hv:Row w v xs) (hl:xs.length≤9223372036854775807) (hp:2≤p∧p≤268435456) :
  Calls Tryz.prog 99 #[.agg #[.int .i64 p,.int .i64 n,.int .i64 r],v] w fun e w'=>e=.returned (.bool (Qcs p n xs))/\Old w w':=by
 by_cases hn:(xs.length:Int)=n
 ·have HB:Hid ((xs.drop 0).all (fun x=>Qij x p)=Qcs p n xs):=by
   show _ = _
   simp [Qcs,hn]
  generalize Qcs p n xs=B at *;have dn:((xs.length:Int) != n)=false:=by simp [hn]
  clear hn;rcases hv with ⟨a,cap,rfl,rfl⟩ | ⟨b,o,cap,rfl,hb,h0,hc⟩
  ·have HB2:Hid (true=B):=HB.out;have dn0:((0:Int) != n)=false:=by simpa using dn
   clear HB;go_enter Tryz.func99,Tryz.ntmps99;go_wp2_with fail;refine wp_loop_rounds 1 ?_
   rw [rounds_succ];go_wp2_with fail;go_ret;exact ⟨by rw [<- HB2.out];rfl,(Old.refl _).alloc _⟩
  ·have HC:=Qaa hc;clear hc;have RC0:Hid (Rc (w.alloc (.cells #[.int .i64 p,.int .i64 n,.int .i64 r] 133)) w.heap.size p n r):=Rc.new w p n r;go_enter Tryz.func99,Tryz.ntmps99;go_wp2_with fail
   go_loopw [6,14] (fun x i W=>∃k:Nat,k<=xs.length/\i=.int .i64 k/\Hid ((xs.drop k).all (fun x=>Qij x p)=B)/\Hid (Old (w.alloc (.cells #[.int .i64 p,.int .i64 n,.int .i64 r] 133)) W)) (fun _ i _=>xs.length - (intOf i).toNat)
   case atStart=>exact ⟨0,by omega,rfl,HB,Old.refl _⟩
   case round=>
    obtain ⟨k,hk,rfl,H1,HG⟩:=hrel;clear HB;have z0:=(RC0.out.old HG.out).c0;have HW:=Qaa (Old.trans ((Old.refl w).alloc _) HG.out)
    by_cases hlt:k<xs.length
    ·have c1:=(HW.out.cell (p:=⟨b,o+k,none⟩) hb).trans (HC.out k hlt)
     have H2:Hid ((Qij (xs.getD k 0) p&&(xs.drop (k+1)).all (fun x=>Qij x p))=B):=by
      have:=H1.out;rw [List.drop_eq_getElem_cons hlt,List.all_cons] at this;have e:xs.getD k 0=xs[k]:=by simp [List.getD,hlt]
      rw [e];exact this
     clear H1;generalize xs.getD k 0=x at *;have c:=fun W=>Qho x p W
     cases hx:Qij x p
     ·rw [hx] at c;have H3:Hid (false=B):=by have:=H2.out;rw [hx] at this;exact this
      clear H2 hx;go_wp2_with fail;refine (c _).mono ?_
      rintro e w2 ⟨rfl,rfl⟩;go_wp2_with fail;go_ret;exact ⟨by rw [<- H3.out];rfl,HW.out⟩
     ·rw [hx] at c;have H3:Hid ((xs.drop (k+1)).all (fun x=>Qij x p)=B):=by have:=H2.out;rw [hx,Bool.true_and] at this;exact this
      clear H2 hx;go_wp2_with fail;refine (c _).mono ?_
      rintro e w2 ⟨rfl,rfl⟩;go_wp2_with fail;exact ⟨⟨k+1,by omega,by go_num,H3,HG⟩,by simp [intOf];omega⟩
    ·have H3:Hid (true=B):=by
      have:=H1.out;rw [List.drop_eq_nil_of_le (by omega)] at this;exact this
     clear H1;go_wp2_with fail;go_ret;exact ⟨by rw [<- H3.out];rfl,HW.out⟩
 ·have HB:Hid (false=Qcs p n xs):=by
   show _ = _
   simp [Qcs,hn]
  generalize Qcs p n xs=B at *;have dn:((xs.length:Int) != n)=true:=by simp [hn]
  obtain ⟨a,cap,rfl⟩:=hv.slice;clear hn hv;go_enter Tryz.func99,Tryz.ntmps99;go_wp2_with fail;go_ret;exact ⟨by rw [<- HB.out];rfl,(Old.refl _).alloc _⟩
theorem Qta (p n r:Int) (xs:List Int) (v:Value) (w:World) (hv:Row w v xs) (hl:xs.length≤9223372036854775807) (hp:2≤p∧p≤268435456) :
  Calls Tryz.prog 82 #[.agg #[.int .i64 p,.int .i64 n,.int .i64 r],v] w fun e w'=>e=.returned (.bool (Qcs p n xs))/\Old w w':=by
 by_cases hn:(xs.length:Int)=n
 ·have HB:Hid ((xs.drop 0).all (fun x=>Qij x p)=Qcs p n xs):=by
   show _ = _
   simp [Qcs,hn]
  generalize Qcs p n xs=B at *;have dn:((xs.length:Int) != n)=false:=by simp [hn]
  clear hn;rcases hv with ⟨a,cap,rfl,rfl⟩ | ⟨b,o,cap,rfl,hb,h0,hc⟩
  ·have HB2:Hid (true=B):=HB.out;have dn0:((0:Int) != n)=false:=by simpa using dn
   clear HB;go_enter Tryz.func82,Tryz.ntmps82;go_wp2_with fail;refine wp_loop_rounds 1 ?_
   rw [rounds_succ];go_wp2_with fail;go_ret;exact ⟨by rw [<- HB2.out];rfl,(Old.refl _).alloc _⟩
  ·have HC:=Qaa hc;clear hc;have RC0:Hid (Rc (w.alloc (.cells #[.int .i64 p,.int .i64 n,.int .i64 r] 133)) w.heap.size p n r):=Rc.new w p n r;go_enter Tryz.func82,Tryz.ntmps82;go_wp2_with fail
   go_loopw [6,14] (fun x i W=>∃k:Nat,k<=xs.length/\i=.int .i64 k/\Hid ((xs.drop k).all (fun x=>Qij x p)=B)/\Hid (Old (w.alloc (.cells #[.int .i64 p,.int .i64 n,.int .i64 r] 133)) W)) (fun _ i _=>xs.length - (intOf i).toNat)
   case atStart=>exact ⟨0,by omega,rfl,HB,Old.refl _⟩
   case round=>
    obtain ⟨k,hk,rfl,H1,HG⟩:=hrel;clear HB;have z0:=(RC0.out.old HG.out).c0;have HW:=Qaa (Old.trans ((Old.refl w).alloc _) HG.out)
    by_cases hlt:k<xs.length
    ·have c1:=(HW.out.cell (p:=⟨b,o+k,none⟩) hb).trans (HC.out k hlt)
     have H2:Hid ((Qij (xs.getD k 0) p&&(xs.drop (k+1)).all (fun x=>Qij x p))=B):=by
      have:=H1.out;rw [List.drop_eq_getElem_cons hlt,List.all_cons] at this;have e:xs.getD k 0=xs[k]:=by simp [List.getD,hlt]
      rw [e];exact this
     clear H1;generalize xs.getD k 0=x at *;have c:=fun W=>Qwd x p W
     cases hx:Qij x p
     ·rw [hx] at c;have H3:Hid (false=B):=by have:=H2.out;rw [hx] at this;exact this
      clear H2 hx;go_wp2_with fail;refine (c _).mono ?_
      rintro e w2 ⟨rfl,rfl⟩;go_wp2_with fail;go_ret;exact ⟨by rw [<- H3.out];rfl,HW.out⟩
     ·rw [hx] at c;have H3:Hid ((xs.drop (k+1)).all (fun x=>Qij x p)=B):=by have:=H2.out;rw [hx,Bool.true_and] at this;exact this
      clear H2 hx;go_wp2_with fail;refine (c _).mono ?_
      rintro e w2 ⟨rfl,rfl⟩;go_wp2_with fail;exact ⟨⟨k+1,by omega,by go_num,H3,HG⟩,by simp [intOf];omega⟩
    ·have H3:Hid (true=B):=by
      have:=H1.out;rw [List.drop_eq_nil_of_le (by omega)] at this;exact this
     clear H1;go_wp2_with fail;go_ret;exact ⟨by rw [<- H3.out];rfl,HW.out⟩
 ·have HB:Hid (false=Qcs p n xs):=by
   show _ = _
   simp [Qcs,hn]
  generalize Qcs p n xs=B at *;have dn:((xs.length:Int) != n)=true:=by simp [hn]
  obtain ⟨a,cap,rfl⟩:=hv.slice;clear hn hv;go_enter Tryz.func82,Tryz.ntmps82;go_wp2_with fail;go_ret;exact ⟨by rw [<- HB.out];rfl,(Old.refl _).alloc _⟩
abbrev toZ (ys:List Nat):List Int:=ys.map (fun (n:Nat)=>(n:Int))
theorem Qd1 (w:World) (base:Nat):Own w base (.slice none 0 0) []:=⟨rfl,Or.inl ⟨rfl,rfl⟩⟩
theorem Q36:isP 268435456=false:=by decide +kernel
theorem Qz3 {P N:Nat} (h:RingOk P N):F1.Pr P:=by
 have h1:=Qb0 h.md;have h2:=h.pr;rw [Int.toNat_natCast] at h2;refine F1.pr_of_isP P h2 ?_
 have hn:P≠268435456:=fun e=>by
  rw [e,Q36] at h2
  cases h2
 omega
end Go.Proofs.YthcidnnkakppcaaGreatDoor
namespace Go.Proofs.YthcidnnkakppcaaGreatDoor
open Go.ChangeShapes Go.WideShapes Go.ChangeAt Go.RowKit
open M1
theorem Qz4 (p n:Nat) (h:RootOk p n):∃R:Nat,R<p∧(F1.Pr p→Rt p n R)
  /\(∀W,Qe0 W->Qbb W->Calls Tryz.prog 132 #[.int .i64 p,.int .i64 n] W fun e w'=>e=.returned (.tuple #[.int .i64 R,.bool true])/\∃k,w'=W.drewN k):=by
 obtain ⟨j,hj⟩:=Qwc n h.ord;obtain ⟨b1,b2,b3⟩:=Qp1 n h.ord;obtain ⟨m1,m2⟩:=Qb0 h.md
 have hdv:(p - 1)%n=0:=by
  have h1:=h.dv;have e:(p:Int) - 1=((p - 1:Nat):Int):=by omega
  rw [e] at h1;omega
 have en:=Nat.div_add_mod (p - 1) n;rw [hdv,Nat.add_zero] at en
 have hp3:3<=p:=by
  rcases Nat.lt_or_ge p 3 with hlt | hge
  ·exfalso;have h2:p=2:=by omega
   rw [h2,Nat.mod_eq_of_lt (by omega)] at hdv;omega
  ·exact hge
 obtain ⟨hh,ehh⟩:∃hh,hh=n/2:=⟨_,rfl⟩
 have hn2:n=2*hh:=by omega
 have em:(p - 1)/n*hh=(p - 1)/2:=by
  have h1:2*((p - 1)/n*hh)=p - 1:=by
   rw [<- en,hn2];have:=en;rw [hn2] at this;rw [this,<- this]
   grind
  omega
 have hpm:p=2*((p - 1)/2)+1:=by
  have h1:2*((p - 1)/n*hh)=p - 1:=by
   have:=en;rw [hn2] at this;rw [hn2,<- this];have e3:(2*hh*((p - 1)/(2*hh)))/(2*hh)=(p - 1)/(2*hh):=Nat.mul_div_cancel_left _ (by omega);rw [e3]
   grind
  omega
 obtain ⟨A,hA2,hAp,hmin,hA⟩:=Qv9 p ((p - 1)/2) (by omega) (by omega);have hr:=Qjx (A%p) ((p - 1)/n) p (by omega);refine ⟨_,?_,?_,fun W h1 h2=>Qhs p n _ _ W h1 h2 h hr (fun W=>Qj8 p n _ _ A W hp3 (by omega) rfl rfl (by omega) b2 hA2 hAp hmin hA) (fun W=>Qiq _ p n W (by omega) (by omega) hr b1 b2)⟩
 ·exact Q2c p _ (by omega) _ _ _ hr
 ·intro hPr;have facts:=F1.least_root (p:=p) (n:=n) (j:=j) (A:=A) (e:=(p - 1)/n) hPr hp3 hj (by rw [<- ehh];exact em) hpm hA2 (fun b hb1 hb2=>by have:=hmin b hb1 hb2;rwa [Qg3] at this) (by rwa [Qg3] at hA) (Qeb (A%p) ((p - 1)/n) p) _ (Qg3 _ _ _) rfl;exact ⟨facts.2.2.1,facts.1,Q2d hPr hp3 (by omega) facts.1 facts.2.1⟩
theorem Qp3 (N:Int) (xs:List Int):∃Rf:Nat→Int,∀k,RingOk (xs.getD k 0) N→((0≤Rf k∧Rf k<xs.getD k 0)∧(∀W,Qe0 W→Qbb W→Calls Tryz.prog 116 #[.int .i64 (xs.getD k 0),.int .i64 N] W fun e w'=>e=.returned (.tuple #[.agg #[.int .i64 (xs.getD k 0),.int .i64 N,.int .i64 (Rf k)],.bool true])∧Old W w'))
  /\∃P M R:Nat,xs.getD k 0=P/\N=M/\Rf k=R/\R<P/\RingOk P M/\(F1.Pr P->Rt P (2*M) R):=by
 have h:∀k,∃Rk:Int,RingOk (xs.getD k 0) N→((0≤Rk∧Rk<xs.getD k 0)∧(∀W,Qe0 W→Qbb W→Calls Tryz.prog 116 #[.int .i64 (xs.getD k 0),.int .i64 N] W fun e w'=>e=.returned (.tuple #[.agg #[.int .i64 (xs.getD k 0),.int .i64 N,.int .i64 Rk],.bool true])∧Old W w'))
   /\∃P M R:Nat,xs.getD k 0=P/\N=M/\Rk=R/\R<P/\RingOk P M/\(F1.Pr P->Rt P (2*M) R):=fun k=>by
  by_cases hk:RingOk (xs.getD k 0) N
  ·have h1:=Qb0 hk.md;have h2:=hk.sz;obtain ⟨P,hP⟩:=Int.eq_ofNat_of_zero_le (show 0≤xs.getD k 0 by omega);obtain ⟨M,hM⟩:=Int.eq_ofNat_of_zero_le (show 0≤N by omega);rw [hP,hM] at hk ⊢;obtain ⟨R,r1,r2,r3⟩:=Qz4 P (2*M) (by have:=hk.root;exact_mod_cast this);have e:((2*M:Nat):Int)=2*(M:Int):=by omega
   rw [e] at r3;exact ⟨R,fun _=>⟨⟨by omega,fun W a b=>Qhu P M R W a b hk.sz r3⟩,P,M,R,rfl,rfl,rfl,r1,hk,r2⟩⟩
  ·exact ⟨0,fun h=>absurd h hk⟩
 exact Classical.skolem.1 h
end Go.Proofs.YthcidnnkakppcaaGreatDoor
