/- Proved: what its theorems say. -/
import Derived.WalkSmall
import Derived.Test.YthcidnnkakppcaaGreatDoorDe06
import Derived.Lib.TrailingZeros
set_option linter.unusedVariables false
set_option linter.unusedSimpArgs false
set_option maxHeartbeats 4000000
namespace Go.Proofs.YthcidnnkakppcaaGreatDoor
open Go.ChangeShapes Go.WideShapes Go.ChangeAt Go.RowKit
open M1
theorem Qzl (r a b n:Nat) (h:b%2=1):((r+a)%n+(a+a)%n*(b/2))%n=(r+a*b)%n:=by
 have e:r+a*b=r+a+(a+a)*(b/2):=by
  have:b=2*(b/2)+1:=by omega
  conv=>lhs;rw [this]
  grind
 rw [e,Nat.add_mod,Nat.mod_mod,ml,<- Nat.add_mod]
theorem Qv3 (r a b n:Nat) (h:b%2=0):(r+(a+a)%n*(b/2))%n=(r+a*b)%n:=by
 have e:r+a*b=r+(a+a)*(b/2):=by
  have:b=2*(b/2):=by omega
  conv=>lhs;rw [this]
  grind
 rw [e,Nat.add_mod,ml,<- Nat.add_mod]
theorem Qi8 (r a n:Nat) (hr:r<n) (ha:a<n):(r+a)%n=if n - a<=r then r - (n - a) else r+a:=by
 split
 ·rw [Nat.mod_eq_sub_mod (by omega),Nat.mod_eq_of_lt (by omega)];omega
 ·rw [Nat.mod_eq_of_lt (by omega)]
theorem Qa5 {k:IntKind} {a b:Int} (h:a=b):Value.int k a=Value.int k b:=by rw [h]
theorem Qc5 (a b n:Nat) (w:World) (ha:a<n) (hb:b<18446744073709551616) (hn:n<18446744073709551616) :
  Calls Tryz.prog 140 #[.int .u64 a,.int .u64 b,.int .u64 n] w fun e w'=>e=.returned (.int .u64 ((a*b%n:Nat):Int))/\w'=w:=by
 have H0:Hid ((0+a*b)%n=a*b%n):=by show _ = _;rw [Nat.zero_add]
 generalize a*b%n=R at *;go_enter Tryz.func140,Tryz.ntmps140;go_wp2_with fail
 go_loop [0,1,7] (fun a b r=>∃a' b' r':Nat,a'<n/\b'<18446744073709551616/\r'<n/\Hid ((r'+a'*b')%n=R)/\a=.int .u64 a'/\b=.int .u64 b'/\r=.int .u64 r') (fun _ b _=>(intOf b).toNat)
 case atStart=>exact ⟨a,b,0,ha,hb,by omega,H0,rfl,rfl,rfl⟩
 case round=>
  obtain ⟨a1,b1,r1,ha1,hb1,hr1,H1,rfl,rfl,rfl⟩:=hrel;clear H0
  by_cases hz:b1=0
  ·subst hz
   have H2:Hid (r1=R):=by
    have:=H1.out;rw [Nat.mul_zero,Nat.add_zero,Nat.mod_eq_of_lt hr1] at this;exact this
   go_wp2_with fail;go_ret;exact ⟨by rw [<- H2.out];rfl,rfl⟩
  ·have A2:=Qi8 a1 a1 n ha1 ha1;have A1:=Qi8 r1 a1 n hr1 ha1;have m2:(a1+a1)%n<n:=Nat.mod_lt _ (by omega);have m1:(r1+a1)%n<n:=Nat.mod_lt _ (by omega);have An:=and_one_u64 (b1:Int) (by omega) (by omega)
   by_cases hodd:b1%2=1
   ·have H3:Hid (((r1+a1)%n+(a1+a1)%n*(b1/2))%n=R):=by show _ = _;rw [← H1.out];exact Qzl r1 a1 b1 n hodd
    generalize (a1+a1)%n=aa at *;generalize (r1+a1)%n=ra at *;have hbit:(bits BinOp.and IntKind.u64 (b1:Int) 1==1)=true:=by rw [An];simp;omega
    clear An
    by_cases c1:n - a1<=r1
    ·rw [if_pos c1] at A1
     by_cases c2:n - a1<=a1
     ·rw [if_pos c2] at A2;have d1:decide ((n:Int) - (a1:Int)≤(r1:Int))=true:=by simp;omega
      have d2:decide ((n:Int) - (a1:Int)<=(a1:Int))=true:=by simp;omega
      have B1:Hid (ra=r1 - (n - a1)):=A1;have B2:Hid (aa=a1 - (n - a1)):=A2;clear A1 A2;go_wp2_with fail;exact ⟨⟨aa,b1/2,ra,m2,by omega,m1,H3,Qa5 (by have:=B2.out;omega),by go_num,Qa5 (by have:=B1.out;omega)⟩,by simp [intOf];omega⟩
     ·rw [if_neg c2] at A2;have d1:decide ((n:Int) - (a1:Int)≤(r1:Int))=true:=by simp;omega
      have d2:decide ((n:Int) - (a1:Int)<=(a1:Int))=false:=by simp;omega
      have B1:Hid (ra=r1 - (n - a1)):=A1;have B2:Hid (aa=a1+a1):=A2;clear A1 A2;go_wp2_with fail;exact ⟨⟨aa,b1/2,ra,m2,by omega,m1,H3,Qa5 (by have:=B2.out;omega),by go_num,Qa5 (by have:=B1.out;omega)⟩,by simp [intOf];omega⟩
    ·rw [if_neg c1] at A1
     by_cases c2:n - a1<=a1
     ·rw [if_pos c2] at A2;have d1:decide ((n:Int) - (a1:Int)≤(r1:Int))=false:=by simp;omega
      have d2:decide ((n:Int) - (a1:Int)<=(a1:Int))=true:=by simp;omega
      have B1:Hid (ra=r1+a1):=A1;have B2:Hid (aa=a1 - (n - a1)):=A2;clear A1 A2;go_wp2_with fail;exact ⟨⟨aa,b1/2,ra,m2,by omega,m1,H3,Qa5 (by have:=B2.out;omega),by go_num,Qa5 (by have:=B1.out;omega)⟩,by simp [intOf];omega⟩
     ·rw [if_neg c2] at A2;have d1:decide ((n:Int) - (a1:Int)≤(r1:Int))=false:=by simp;omega
      have d2:decide ((n:Int) - (a1:Int)<=(a1:Int))=false:=by simp;omega
      have B1:Hid (ra=r1+a1):=A1;have B2:Hid (aa=a1+a1):=A2;clear A1 A2;go_wp2_with fail;exact ⟨⟨aa,b1/2,ra,m2,by omega,m1,H3,Qa5 (by have:=B2.out;omega),by go_num,Qa5 (by have:=B1.out;omega)⟩,by simp [intOf];omega⟩
   ·have H3:Hid ((r1+(a1+a1)%n*(b1/2))%n=R):=by show _ = _;rw [← H1.out];exact Qv3 r1 a1 b1 n (by omega)
    generalize (a1+a1)%n=aa at *;clear A1 m1;have hbit:(bits BinOp.and IntKind.u64 (b1:Int) 1==1)=false:=by rw [An];simp;omega
    clear An
    by_cases c2:n - a1<=a1
    ·rw [if_pos c2] at A2;have d2:decide ((n:Int) - (a1:Int)≤(a1:Int))=true:=by simp;omega
     have B2:Hid (aa=a1 - (n - a1)):=A2;clear A2;go_wp2_with fail;exact ⟨⟨aa,b1/2,r1,m2,by omega,hr1,H3,Qa5 (by have:=B2.out;omega),by go_num,rfl⟩,by simp [intOf];omega⟩
    ·rw [if_neg c2] at A2;have d2:decide ((n:Int) - (a1:Int)≤(a1:Int))=false:=by simp;omega
     have B2:Hid (aa=a1+a1):=A2;clear A2;go_wp2_with fail;exact ⟨⟨aa,b1/2,r1,m2,by omega,hr1,H3,Qa5 (by have:=B2.out;omega),by go_num,rfl⟩,by simp [intOf];omega⟩
theorem Qn1 (a e n:Nat) (w:World) (ha:a<n) (hn2:2≤n) (he:e<18446744073709551616) (hn:n<18446744073709551616) :
  Calls Tryz.prog 139 #[.int .u64 a,.int .u64 e,.int .u64 n] w fun en w'=>en=.returned (.int .u64 (Qeb a e n:Nat))/\w'=w:=by
 have H0:Hid (1*a^e%n=Qeb a e n):=by show _ = _;rw [Nat.one_mul];rfl
 generalize hR:Qeb a e n=R at *;clear hR;have one:Hid ((1:Int)%(n:Int)=1):=Int.emod_eq_of_lt (by omega) (by omega);go_enter Tryz.func139,Tryz.ntmps139;go_wp2_with fail
 go_loopw [0,1,7] (fun a e r W=>∃a' e' r':Nat,a'<n/\e'<18446744073709551616/\r'<n/\Hid (r'*a'^e'%n=R)/\a=.int .u64 a'/\e=.int .u64 e'/\r=.int .u64 r'/\W=w) (fun _ e _ _=>(intOf e).toNat)
 case atStart=>exact ⟨a,e,1,ha,he,by omega,H0,rfl,rfl,Qa5 one.out,rfl⟩
 case round=>
  obtain ⟨a1,e1,r1,ha1,he1,hr1,H1,rfl,rfl,rfl,rfl⟩:=hrel;clear H0
  by_cases hz:e1=0
  ·subst hz
   have H2:Hid (r1=R):=by
    have:=H1.out;rw [Nat.pow_zero,Nat.mul_one,Nat.mod_eq_of_lt hr1] at this;exact this
   go_wp2_with fail;go_ret;exact ⟨by rw [<- H2.out];rfl,rfl⟩
  ·have csq:=fun W=>Qc5 a1 a1 n W ha1 (by omega) hn
   have cra:=fun W=>Qc5 r1 a1 n W hr1 (by omega) hn
   have An:=and_one_u64 (e1:Int) (by omega) (by omega);have m1:r1*a1%n<n:=Nat.mod_lt _ (by omega);have m2:a1*a1%n<n:=Nat.mod_lt _ (by omega);generalize hg1:r1*a1%n=ra at *;generalize hg2:a1*a1%n=aa at *
   by_cases ho:e1%2=1
   ·have H3:Hid (ra*aa^(e1/2)%n=R):=by show _ = _;rw [← H1.out,← hg1,← hg2];exact Qjw r1 a1 e1 n ho
    clear hg1 hg2;have hb:(bits BinOp.and IntKind.u64 (e1:Int) 1==1)=true:=by rw [An];simp;omega
    clear ho An;go_wp2_with fail;refine (cra _).mono ?_
    rintro en w' ⟨rfl,rfl⟩;go_wp2_with fail;refine (csq _).mono ?_
    rintro en w' ⟨rfl,rfl⟩;go_wp2_with fail
    go_roundw
    case rel=>exact ⟨aa,e1/2,ra,m2,by omega,m1,H3,rfl,by go_num,rfl,True.intro⟩
    case measure=>simp [intOf];omega
   ·have H3:Hid (r1*aa^(e1/2)%n=R):=by show _ = _;rw [← H1.out,← hg2];exact Qhd r1 a1 e1 n (by omega)
    clear hg1 hg2;have hb:(bits BinOp.and IntKind.u64 (e1:Int) 1==1)=false:=by rw [An];simp;omega
    clear ho An;go_wp2_with fail;refine (csq _).mono ?_
    rintro en w' ⟨rfl,rfl⟩;go_wp2_with fail
    go_roundw
    case rel=>exact ⟨aa,e1/2,r1,m2,by omega,hr1,H3,rfl,by go_num,rfl,True.intro⟩
    case measure=>simp [intOf];omega
def PR (n:Nat):Prop:=∀(x y:Nat) (W:World),x<n->y<n->Calls Tryz.prog 165 #[.int .u64 n,.int .u64 x,.int .u64 y] W fun e w'=>e=.returned (.int .u64 ((x*y%n:Nat):Int))/\∃k,w'=W.drewN k
theorem Qhm (p a e:Nat) (pr:PR p) (hp:2≤p) (ha:a<p) (he:e<18446744073709551616) (w:World) :
  Calls Tryz.prog 164 #[.iface 194 (.int .u64 p),.int .u64 a,.int .u64 e] w fun en w'=>en=.returned (.int .u64 (Qeb a e p:Nat))/\∃n,w'=w.drewN n:=by
 have H0:Hid (1*a^e%p=Qeb a e p):=by show _ = _;rw [Nat.one_mul];rfl
 generalize hR:Qeb a e p=R at *;clear hR;have PH:Hid (PR p):=pr;clear pr;go_enter Tryz.func164,Tryz.ntmps164;go_wp2_with fail
 go_loopw [1,2,7] (fun a e r W=>∃a' e' r' n:Nat,a'<p/\e'<18446744073709551616/\r'<p/\Hid (r'*a'^e'%p=R)/\a=.int .u64 a'/\e=.int .u64 e'/\r=.int .u64 r'/\W=w.drewN n) (fun _ e _ _=>(intOf e).toNat)
 case atStart=>exact ⟨a,e,1,0,ha,he,by omega,H0,rfl,rfl,rfl,rfl⟩
 case round=>
  obtain ⟨a1,e1,r1,n1,ha1,he1,hr1,H1,rfl,rfl,rfl,rfl⟩:=hrel;clear H0
  by_cases hz:e1=0
  ·subst hz
   have H2:Hid (r1=R):=by
    have:=H1.out;rw [Nat.pow_zero,Nat.mul_one,Nat.mod_eq_of_lt hr1] at this;exact this
   go_wp2_with fail;go_ret;exact ⟨by rw [<- H2.out];rfl,n1,rfl⟩
  ·have csq:=fun W=>PH.out a1 a1 W ha1 ha1
   have cra:=fun W=>PH.out r1 a1 W hr1 ha1
   have m1:r1*a1%p<p:=Nat.mod_lt _ (by omega);have m2:a1*a1%p<p:=Nat.mod_lt _ (by omega);generalize hg1:r1*a1%p=ra at *;generalize hg2:a1*a1%p=aa at *
   by_cases ho:e1%2=1
   ·have H3:Hid (ra*aa^(e1/2)%p=R):=by show _ = _;rw [← H1.out,← hg1,← hg2];exact Qjw r1 a1 e1 p ho
    clear hg1 hg2;have hb:((e1:Int)%2==1)=true:=by simp;omega
    clear ho;go_wp2_with fail;refine (cra _).mono ?_
    rintro en w' ⟨rfl,n2,rfl⟩;go_wp2_with fail;refine (csq _).mono ?_
    rintro en w' ⟨rfl,n3,rfl⟩;go_wp2_with fail
    go_roundw
    case rel=>exact ⟨aa,e1/2,ra,_,m2,by omega,m1,H3,rfl,by go_num,rfl,rfl⟩
    case measure=>simp [intOf];omega
   ·have H3:Hid (r1*aa^(e1/2)%p=R):=by show _ = _;rw [← H1.out,← hg2];exact Qhd r1 a1 e1 p (by omega)
    clear hg1 hg2;have hb:((e1:Int)%2==1)=false:=by simp;omega
    clear ho;go_wp2_with fail;refine (csq _).mono ?_
    rintro en w' ⟨rfl,n3,rfl⟩;go_wp2_with fail
    go_roundw
    case rel=>exact ⟨aa,e1/2,r1,_,m2,by omega,hr1,H3,rfl,by go_num,rfl,rfl⟩
    case measure=>simp [intOf];omega
def Qbb (w:World):Prop:=∀j,j<64->w.cell? ⟨1,j,none⟩=some (.int .u8 (Lib.deBruijn64tab.getD j 0))
theorem Qzm (x k idx:Nat) (w:World) (hx0:((x:Int)==0)=false)
  (key:IntKind.u64.wrap (bits BinOp.and IntKind.u64 (x:Int) (IntKind.u64.wrap (-(x:Int)))*285870213051353865)/288230376151711744=(idx:Int))
  (hi:idx<64) (hk:k<64) (hcell:w.cell? ⟨1,idx,none⟩=some (.int .u8 k)) :
  Calls Tryz.prog 163 #[.int .u64 x] w fun e w'=>e=.returned (.int .i64 k)/\w'=w:=by
 go_enter Tryz.func163,Tryz.ntmps163;go_wp2_with (simp only [key]);go_ret;exact ⟨rfl,rfl⟩
theorem Q13 (x a:Nat) (hx:x<18446744073709551616) (hx0:x≠0) (hlow:x &&& (18446744073709551616 - x)=a) :
  IntKind.u64.wrap (bits BinOp.and IntKind.u64 (x:Int) (IntKind.u64.wrap (-(x:Int)))*285870213051353865)/288230376151711744=((a*285870213051353865%18446744073709551616/288230376151711744:Nat):Int):=by
 have e1:IntKind.u64.wrap (-(x:Int))=((18446744073709551616 - x:Nat):Int):=by rw [IntKind.wrap_u64];omega
 rw [e1,bits_and_u64_nat x _ hx (by omega),hlow,IntKind.wrap_u64];omega
theorem Qsy (x:Nat) (hx:x<18446744073709551616) (hx0:x≠0) (w:World) (hT:Qbb w) :
  Calls Tryz.prog 163 #[.int .u64 x] w fun e w'=>e=.returned (.int .i64 (Lib.ctz 64 x))/\w'=w:=by
 obtain ⟨hlow,hk⟩:=Lib.lowest_bit 64 x hx0 hx;obtain ⟨hi,htab⟩:=Lib.deBruijn64_at _ hk;have hcell:=hT _ hi;rw [htab] at hcell;exact Qzm x _ _ w (by simp;omega) (Q13 x _ hx hx0 hlow) hi hk hcell
def sqs (n:Nat):Nat->Nat->Bool
 | 0,_=>false
 | k+1,x=>x==n - 1||sqs n k (x*x%n)
def Qbn (n a:Nat):Bool:=Qeb a ((n - 1)/2^Lib.ctz 64 (n - 1)) n==1||sqs n (Lib.ctz 64 (n - 1)) (Qeb a ((n - 1)/2^Lib.ctz 64 (n - 1)) n)
theorem Qn2 (n a s d x0:Nat) (w:World) (hn:3≤n) (hn':n<18446744073709551616) (ha:a<n) (hs:s<64) (hx0:x0<n) (hd:(n - 1)/2^s=d)
  (ct:∀W,Hid (Qbb W)->Calls Tryz.prog 163 #[.int .u64 (n - 1:Nat)] W fun e w'=>e=.returned (.int .i64 s)/\w'=W) (hT:Qbb w)
  (cp:∀W,Calls Tryz.prog 164 #[.iface 194 (.int .u64 n),.int .u64 a,.int .u64 d] W fun en w'=>en=.returned (.int .u64 x0)/\∃k,w'=W.drewN k) (pr:PR n) :
  Calls Tryz.prog 159 #[.int .u64 n,.int .u64 a] w fun e w'=>e=.returned (.bool (x0==1||sqs n s x0))/\∃k,w'=w.drewN k:=by
 have PH:Hid (PR n):=pr;have HT:Hid (Qbb w):=hT;clear pr hT;have e1:((n - 1:Nat):Int)=(n:Int) - 1:=by omega
 rw [e1] at ct;have HD:Hid (((n:Int) - 1)/2^s=(d:Int)):=by show _ = _;rw [<- hd,<- e1];simp
 clear hd e1
 by_cases h1:x0=1
 ·subst h1;have HB:Hid ((1==1||sqs n s 1)=true):=by show _ = _;simp
  generalize (1==1||sqs n s 1)=B at *;go_enter Tryz.func159,Tryz.ntmps159;go_wp2_with fail;refine (ct _ HT).mono ?_
  rintro e w' ⟨rfl,rfl⟩;go_wp2_with fail;rw [HD.out];refine (cp _).mono ?_
  rintro e w' ⟨rfl,k0,rfl⟩;go_wp2_with fail;go_ret;exact ⟨by rw [HB.out];rfl,k0,rfl⟩
 ·have hb1:((x0:Int)==1)=false:=by simp;omega
  have HB:Hid ((x0==1||sqs n s x0)=sqs n s x0):=by show _ = _;simp [h1]
  generalize (x0==1||sqs n s x0)=B at *;have H0:Hid (sqs n (s - 0) x0=B):=by show _ = _;rw [HB.out];rfl
  clear HB;go_enter Tryz.func159,Tryz.ntmps159;go_wp2_with fail;refine (ct _ HT).mono ?_
  rintro e w' ⟨rfl,rfl⟩;go_wp2_with fail;rw [HD.out];refine (cp _).mono ?_
  rintro e w2 ⟨rfl,k0,rfl⟩;go_wp2_with fail
  go_loopw [7,24] (fun x k W=>∃x' k' m:Nat,x'<n/\k'<=s/\Hid (sqs n (s - k') x'=B)/\x=.int .u64 x'/\k=.int .i64 k'/\W=w'.drewN m) (fun _ k _=>s - (intOf k).toNat)
  case atStart=>exact ⟨x0,0,k0,hx0,by omega,H0,rfl,rfl,rfl⟩
  case round=>
   obtain ⟨x,k,m,hx,hk,H1,rfl,rfl,rfl⟩:=hrel;clear H0 cp ct
   by_cases hlt:k<s
   ·have hstep:sqs n (s - k) x=(x==n - 1||sqs n (s - (k+1)) (x*x%n)):=by
     rw [show s - k=(s - (k+1))+1 by omega];rfl
    have H1':=H1.out;rw [hstep] at H1'
    by_cases he:x=n - 1
    ·have HB:Hid (true=B):=by show _ = _;rw [← H1'];simp [he]
     clear H1' hstep H1;have hbe:((x:Int)==(n:Int) - 1)=true:=by simp;omega
     go_wp2_with fail;go_ret;exact ⟨by rw [<- HB.out];rfl,m,rfl⟩
    ·have hne:(x==n - 1)=false:=by simpa using he
     rw [hne,Bool.false_or] at H1';have cs:=fun W=>PH.out x x W hx hx
     have mx:x*x%n<n:=Nat.mod_lt _ (by omega);generalize x*x%n=xx at *;have H2:Hid (sqs n (s - (k+1)) xx=B):=H1';clear H1' hstep hne H1;have hbe:((x:Int)==(n:Int) - 1)=false:=by simp;omega
     go_wp2_with fail;refine (cs _).mono ?_
     rintro e w3 ⟨rfl,k3,rfl⟩;go_wp2_with fail
     go_roundw
     case rel=>exact ⟨xx,k+1,_,mx,by omega,H2,rfl,by go_num,rfl⟩
     case measure=>simp [intOf];omega
   ·have hdk:decide ((k:Int)<(s:Int))=false:=by simp;omega
    obtain rfl:k=s:=by omega
    have HB:Hid (false=B):=by
     have:=H1.out;rw [Nat.sub_self] at this;exact this
    clear H1;go_wp2_with fail;go_ret;exact ⟨by rw [<- HB.out];rfl,m,rfl⟩
theorem Qa7 (n a:Nat) (w:World) (pr:PR n) (hT:Qbb w) (hn:3≤n) (hn':n<18446744073709551616) (ha:a<n) :
  Calls Tryz.prog 159 #[.int .u64 n,.int .u64 a] w fun e w'=>e=.returned (.bool (Qbn n a))/\∃k,w'=w.drewN k:=by
 have hk:=(Lib.lowest_bit 64 (n - 1) (by omega) (by omega)).2;have hle:(n - 1)/2^Lib.ctz 64 (n - 1)<=n - 1:=Nat.div_le_self _ _;exact Qn2 n a _ _ _ w hn hn' ha hk (Qjx _ _ _ (by omega)) rfl (fun W h=>Qsy (n - 1) (by omega) (by omega) W h.out) hT (fun W=>Qhm n a _ pr (by omega) ha (by omega) W) pr
def Qae:List Nat:=[2,3,5,7,11,13,17,19,23,29,31,37]
def wit (n:Nat):List Nat->Bool
 | []=>true
 | a :: r=>Qbn n a&&wit n r
def fnd (n:Nat):List Nat->Bool
 | []=>wit n Qae
 | p :: r=>if n%p=0 then n==p else fnd n r
def isP (n:Nat):Bool:=if n<2 then false else fnd n Qae
theorem above:∀n,n<41->2<=n->∃p,p∈Qae/\n%p=0:=by decide
theorem Qpw (n:Nat) (h2:2<=n) (h:∀p,p∈Qae->n%p≠0):41<=n:=by
 by_cases h41:n<41
 ·obtain ⟨p,hp,hd⟩:=above n h41 h2;exact absurd hd (h p hp)
 ·omega
def Qe0 (w:World):Prop:=∀j,j<12->w.cell? ⟨0,j,none⟩=some (.int .u64 (Qae.getD j 0))
theorem twelve (k:Nat) (h:k<12):k=0∨k=1∨k=2∨k=3∨k=4∨k=5∨k=6∨k=7∨k=8∨k=9∨k=10∨k=11:=by omega
structure St (n k:Nat) (B:Bool):Prop where
 eq:fnd n (Qae.drop k)=B
 no:∀p,p∈Qae.take k->n%p≠0
theorem St.start (n:Nat) (h:¬n<2):St n 0 (isP n):=⟨by unfold isP;rw [if_neg h];rfl,by simp⟩
theorem St.next {n k p:Nat} {B:Bool} (h:St n k B) (hk:Qae.drop k=p :: Qae.drop (k+1)) (ht:Qae.take (k+1)=Qae.take k++[p]) (hm:n%p≠0):St n (k+1) B:=by
 refine ⟨?_,?_⟩
 ·rw [<- h.eq,hk,fnd,if_neg hm]
 ·intro q hq;rw [ht] at hq;rcases List.mem_append.1 hq with hq | hq
  ·exact h.no q hq
  ·rw [List.mem_singleton.1 hq];exact hm
theorem St.hit {n k p:Nat} {B:Bool} (h:St n k B) (hk:Qae.drop k=p :: Qae.drop (k+1)) (hm:n%p=0):B=(n==p):=by
 rw [<- h.eq,hk,fnd,if_pos hm]
theorem St.fin {n:Nat} {B:Bool} (h:St n 12 B) (h2:2<=n):wit n (Qae.drop 0)=B/\41<=n:=⟨by rw [<- h.eq];rfl,Qpw n h2 h.no⟩
theorem Qb1 (n k p:Nat) (hk:Qae.drop k=p :: Qae.drop (k+1)):wit n (Qae.drop k)=(Qbn n p&&wit n (Qae.drop (k+1))):=by rw [hk,wit]
theorem ix0 (W:World):(Instr.index 191 (.agg #[.int .u64 2,.int .u64 3,.int .u64 5,.int .u64 7,.int .u64 11,.int .u64 13,.int .u64 17,.int .u64 19,.int .u64 23,.int .u64 29,.int .u64 31,.int .u64 37]) (.int .i64 0)).run Tryz.prog W=.ok (.int .u64 2) W:=by kernel_rfl
theorem ix1 (W:World):(Instr.index 191 (.agg #[.int .u64 2,.int .u64 3,.int .u64 5,.int .u64 7,.int .u64 11,.int .u64 13,.int .u64 17,.int .u64 19,.int .u64 23,.int .u64 29,.int .u64 31,.int .u64 37]) (.int .i64 1)).run Tryz.prog W=.ok (.int .u64 3) W:=by kernel_rfl
theorem ix2 (W:World):(Instr.index 191 (.agg #[.int .u64 2,.int .u64 3,.int .u64 5,.int .u64 7,.int .u64 11,.int .u64 13,.int .u64 17,.int .u64 19,.int .u64 23,.int .u64 29,.int .u64 31,.int .u64 37]) (.int .i64 2)).run Tryz.prog W=.ok (.int .u64 5) W:=by kernel_rfl
theorem ix3 (W:World):(Instr.index 191 (.agg #[.int .u64 2,.int .u64 3,.int .u64 5,.int .u64 7,.int .u64 11,.int .u64 13,.int .u64 17,.int .u64 19,.int .u64 23,.int .u64 29,.int .u64 31,.int .u64 37]) (.int .i64 3)).run Tryz.prog W=.ok (.int .u64 7) W:=by kernel_rfl
theorem ix4 (W:World):(Instr.index 191 (.agg #[.int .u64 2,.int .u64 3,.int .u64 5,.int .u64 7,.int .u64 11,.int .u64 13,.int .u64 17,.int .u64 19,.int .u64 23,.int .u64 29,.int .u64 31,.int .u64 37]) (.int .i64 4)).run Tryz.prog W=.ok (.int .u64 11) W:=by kernel_rfl
theorem ix5 (W:World):(Instr.index 191 (.agg #[.int .u64 2,.int .u64 3,.int .u64 5,.int .u64 7,.int .u64 11,.int .u64 13,.int .u64 17,.int .u64 19,.int .u64 23,.int .u64 29,.int .u64 31,.int .u64 37]) (.int .i64 5)).run Tryz.prog W=.ok (.int .u64 13) W:=by kernel_rfl
theorem ix6 (W:World):(Instr.index 191 (.agg #[.int .u64 2,.int .u64 3,.int .u64 5,.int .u64 7,.int .u64 11,.int .u64 13,.int .u64 17,.int .u64 19,.int .u64 23,.int .u64 29,.int .u64 31,.int .u64 37]) (.int .i64 6)).run Tryz.prog W=.ok (.int .u64 17) W:=by kernel_rfl
theorem ix7 (W:World):(Instr.index 191 (.agg #[.int .u64 2,.int .u64 3,.int .u64 5,.int .u64 7,.int .u64 11,.int .u64 13,.int .u64 17,.int .u64 19,.int .u64 23,.int .u64 29,.int .u64 31,.int .u64 37]) (.int .i64 7)).run Tryz.prog W=.ok (.int .u64 19) W:=by kernel_rfl
theorem ix8 (W:World):(Instr.index 191 (.agg #[.int .u64 2,.int .u64 3,.int .u64 5,.int .u64 7,.int .u64 11,.int .u64 13,.int .u64 17,.int .u64 19,.int .u64 23,.int .u64 29,.int .u64 31,.int .u64 37]) (.int .i64 8)).run Tryz.prog W=.ok (.int .u64 23) W:=by kernel_rfl
theorem ix9 (W:World):(Instr.index 191 (.agg #[.int .u64 2,.int .u64 3,.int .u64 5,.int .u64 7,.int .u64 11,.int .u64 13,.int .u64 17,.int .u64 19,.int .u64 23,.int .u64 29,.int .u64 31,.int .u64 37]) (.int .i64 9)).run Tryz.prog W=.ok (.int .u64 29) W:=by kernel_rfl
theorem Q4v (W:World):(Instr.index 191 (.agg #[.int .u64 2,.int .u64 3,.int .u64 5,.int .u64 7,.int .u64 11,.int .u64 13,.int .u64 17,.int .u64 19,.int .u64 23,.int .u64 29,.int .u64 31,.int .u64 37]) (.int .i64 10)).run Tryz.prog W=.ok (.int .u64 31) W:=by kernel_rfl
theorem Q4w (W:World):(Instr.index 191 (.agg #[.int .u64 2,.int .u64 3,.int .u64 5,.int .u64 7,.int .u64 11,.int .u64 13,.int .u64 17,.int .u64 19,.int .u64 23,.int .u64 29,.int .u64 31,.int .u64 37]) (.int .i64 11)).run Tryz.prog W=.ok (.int .u64 37) W:=by kernel_rfl
theorem Qas {a b:Bool} (h:a=b):Ending.returned (.bool a)=.returned (.bool b):=by rw [h]
theorem Qq9 (n:Nat) (w:World) (B:Bool) (h2:2≤n) (hn:n<18446744073709551616) (hP:Qe0 w) (hT:Qbb w) (S0:St n 0 B) (pr:PR n) :
  Calls Tryz.prog 141 #[.int .u64 n] w fun e w'=>e=.returned (.bool B)/\∃k,w'=w.drewN k:=by
 have p0:w.cell? ⟨0,0,none⟩=some (.int .u64 2):=hP 0 (by decide)
 have p1:w.cell? ⟨0,1,none⟩=some (.int .u64 3):=hP 1 (by decide)
 have p2:w.cell? ⟨0,2,none⟩=some (.int .u64 5):=hP 2 (by decide)
 have p3:w.cell? ⟨0,3,none⟩=some (.int .u64 7):=hP 3 (by decide)
 have p4:w.cell? ⟨0,4,none⟩=some (.int .u64 11):=hP 4 (by decide)
 have p5:w.cell? ⟨0,5,none⟩=some (.int .u64 13):=hP 5 (by decide)
 have p6:w.cell? ⟨0,6,none⟩=some (.int .u64 17):=hP 6 (by decide)
 have p7:w.cell? ⟨0,7,none⟩=some (.int .u64 19):=hP 7 (by decide)
 have p8:w.cell? ⟨0,8,none⟩=some (.int .u64 23):=hP 8 (by decide)
 have p9:w.cell? ⟨0,9,none⟩=some (.int .u64 29):=hP 9 (by decide)
 have p10:w.cell? ⟨0,10,none⟩=some (.int .u64 31):=hP 10 (by decide)
 have p11:w.cell? ⟨0,11,none⟩=some (.int .u64 37):=hP 11 (by decide)
 clear hP;have hd2:decide ((n:Int)<2)=false:=by simp;omega
 have HS:Hid (St n 0 B):=S0;have HT:Hid (Qbb w):=hT;have PH:Hid (PR n):=pr;clear S0 hT pr;go_enter Tryz.func141,Tryz.ntmps141;go_wp2_with fail
 go_loop [10] (fun k=>∃k':Nat,k'<=12/\Hid (St n k' B)/\k=.int .i64 k') (fun k=>12 - (intOf k).toNat)
 case atStart=>exact ⟨0,by omega,HS,rfl⟩
 case round=>
  obtain ⟨k,hk,H1,rfl⟩:=hrel;clear HS
  by_cases hlt:k<12
  ·have hdk:decide ((k:Int)<12)=true:=by simp;omega
   rcases twelve k hlt with rfl | rfl | rfl | rfl | rfl | rfl | rfl | rfl | rfl | rfl | rfl | rfl
   ·have ix:=ix0
    by_cases hm:n%2=0
    ·have HB:Hid ((n==2)=B):=(H1.out.hit (p:=2) rfl hm).symm;have hbm:((n:Int)%2==0)=true:=by simp;omega
     have hbe:((n:Int)==2)=(n==2):=by rw [Bool.eq_iff_iff];simp;omega
     clear hm;go_wp2_with fail;go_ret;exact ⟨Qas HB.out,0,rfl⟩
    ·have H2:Hid (St n 1 B):=H1.out.next (p:=2) rfl rfl hm;have hbm:((n:Int)%2==0)=false:=by simp;omega
     clear hm H1;go_wp2_with fail;exact ⟨⟨1,by omega,H2,rfl⟩,by simp [intOf]⟩
   ·have ix:=ix1
    by_cases hm:n%3=0
    ·have HB:Hid ((n==3)=B):=(H1.out.hit (p:=3) rfl hm).symm;have hbm:((n:Int)%3==0)=true:=by simp;omega
     have hbe:((n:Int)==3)=(n==3):=by rw [Bool.eq_iff_iff];simp;omega
     clear hm;go_wp2_with fail;go_ret;exact ⟨Qas HB.out,0,rfl⟩
    ·have H2:Hid (St n 2 B):=H1.out.next (p:=3) rfl rfl hm;have hbm:((n:Int)%3==0)=false:=by simp;omega
     clear hm H1;go_wp2_with fail;exact ⟨⟨2,by omega,H2,rfl⟩,by simp [intOf]⟩
   ·have ix:=ix2
    by_cases hm:n%5=0
    ·have HB:Hid ((n==5)=B):=(H1.out.hit (p:=5) rfl hm).symm;have hbm:((n:Int)%5==0)=true:=by simp;omega
     have hbe:((n:Int)==5)=(n==5):=by rw [Bool.eq_iff_iff];simp;omega
     clear hm;go_wp2_with fail;go_ret;exact ⟨Qas HB.out,0,rfl⟩
    ·have H2:Hid (St n 3 B):=H1.out.next (p:=5) rfl rfl hm;have hbm:((n:Int)%5==0)=false:=by simp;omega
     clear hm H1;go_wp2_with fail;exact ⟨⟨3,by omega,H2,rfl⟩,by simp [intOf]⟩
   ·have ix:=ix3
    by_cases hm:n%7=0
    ·have HB:Hid ((n==7)=B):=(H1.out.hit (p:=7) rfl hm).symm;have hbm:((n:Int)%7==0)=true:=by simp;omega
     have hbe:((n:Int)==7)=(n==7):=by rw [Bool.eq_iff_iff];simp;omega
     clear hm;go_wp2_with fail;go_ret;exact ⟨Qas HB.out,0,rfl⟩
    ·have H2:Hid (St n 4 B):=H1.out.next (p:=7) rfl rfl hm;have hbm:((n:Int)%7==0)=false:=by simp;omega
     clear hm H1;go_wp2_with fail;exact ⟨⟨4,by omega,H2,rfl⟩,by simp [intOf]⟩
   ·have ix:=ix4
    by_cases hm:n%11=0
    ·have HB:Hid ((n==11)=B):=(H1.out.hit (p:=11) rfl hm).symm;have hbm:((n:Int)%11==0)=true:=by simp;omega
     have hbe:((n:Int)==11)=(n==11):=by rw [Bool.eq_iff_iff];simp;omega
     clear hm;go_wp2_with fail;go_ret;exact ⟨Qas HB.out,0,rfl⟩
    ·have H2:Hid (St n 5 B):=H1.out.next (p:=11) rfl rfl hm;have hbm:((n:Int)%11==0)=false:=by simp;omega
     clear hm H1;go_wp2_with fail;exact ⟨⟨5,by omega,H2,rfl⟩,by simp [intOf]⟩
   ·have ix:=ix5
    by_cases hm:n%13=0
    ·have HB:Hid ((n==13)=B):=(H1.out.hit (p:=13) rfl hm).symm;have hbm:((n:Int)%13==0)=true:=by simp;omega
     have hbe:((n:Int)==13)=(n==13):=by rw [Bool.eq_iff_iff];simp;omega
     clear hm;go_wp2_with fail;go_ret;exact ⟨Qas HB.out,0,rfl⟩
    ·have H2:Hid (St n 6 B):=H1.out.next (p:=13) rfl rfl hm;have hbm:((n:Int)%13==0)=false:=by simp;omega
     clear hm H1;go_wp2_with fail;exact ⟨⟨6,by omega,H2,rfl⟩,by simp [intOf]⟩
   ·have ix:=ix6
    by_cases hm:n%17=0
    ·have HB:Hid ((n==17)=B):=(H1.out.hit (p:=17) rfl hm).symm;have hbm:((n:Int)%17==0)=true:=by simp;omega
     have hbe:((n:Int)==17)=(n==17):=by rw [Bool.eq_iff_iff];simp;omega
     clear hm;go_wp2_with fail;go_ret;exact ⟨Qas HB.out,0,rfl⟩
    ·have H2:Hid (St n 7 B):=H1.out.next (p:=17) rfl rfl hm;have hbm:((n:Int)%17==0)=false:=by simp;omega
     clear hm H1;go_wp2_with fail;exact ⟨⟨7,by omega,H2,rfl⟩,by simp [intOf]⟩
   ·have ix:=ix7
    by_cases hm:n%19=0
    ·have HB:Hid ((n==19)=B):=(H1.out.hit (p:=19) rfl hm).symm;have hbm:((n:Int)%19==0)=true:=by simp;omega
     have hbe:((n:Int)==19)=(n==19):=by rw [Bool.eq_iff_iff];simp;omega
     clear hm;go_wp2_with fail;go_ret;exact ⟨Qas HB.out,0,rfl⟩
    ·have H2:Hid (St n 8 B):=H1.out.next (p:=19) rfl rfl hm;have hbm:((n:Int)%19==0)=false:=by simp;omega
     clear hm H1;go_wp2_with fail;exact ⟨⟨8,by omega,H2,rfl⟩,by simp [intOf]⟩
   ·have ix:=ix8
    by_cases hm:n%23=0
    ·have HB:Hid ((n==23)=B):=(H1.out.hit (p:=23) rfl hm).symm;have hbm:((n:Int)%23==0)=true:=by simp;omega
     have hbe:((n:Int)==23)=(n==23):=by rw [Bool.eq_iff_iff];simp;omega
     clear hm;go_wp2_with fail;go_ret;exact ⟨Qas HB.out,0,rfl⟩
    ·have H2:Hid (St n 9 B):=H1.out.next (p:=23) rfl rfl hm;have hbm:((n:Int)%23==0)=false:=by simp;omega
     clear hm H1;go_wp2_with fail;exact ⟨⟨9,by omega,H2,rfl⟩,by simp [intOf]⟩
   ·have ix:=ix9
    by_cases hm:n%29=0
    ·have HB:Hid ((n==29)=B):=(H1.out.hit (p:=29) rfl hm).symm;have hbm:((n:Int)%29==0)=true:=by simp;omega
     have hbe:((n:Int)==29)=(n==29):=by rw [Bool.eq_iff_iff];simp;omega
     clear hm;go_wp2_with fail;go_ret;exact ⟨Qas HB.out,0,rfl⟩
    ·have H2:Hid (St n 10 B):=H1.out.next (p:=29) rfl rfl hm;have hbm:((n:Int)%29==0)=false:=by simp;omega
     clear hm H1;go_wp2_with fail;exact ⟨⟨10,by omega,H2,rfl⟩,by simp [intOf]⟩
   ·have ix:=Q4v
    by_cases hm:n%31=0
    ·have HB:Hid ((n==31)=B):=(H1.out.hit (p:=31) rfl hm).symm;have hbm:((n:Int)%31==0)=true:=by simp;omega
     have hbe:((n:Int)==31)=(n==31):=by rw [Bool.eq_iff_iff];simp;omega
     clear hm;go_wp2_with fail;go_ret;exact ⟨Qas HB.out,0,rfl⟩
    ·have H2:Hid (St n 11 B):=H1.out.next (p:=31) rfl rfl hm;have hbm:((n:Int)%31==0)=false:=by simp;omega
     clear hm H1;go_wp2_with fail;exact ⟨⟨11,by omega,H2,rfl⟩,by simp [intOf]⟩
   ·have ix:=Q4w
    by_cases hm:n%37=0
    ·have HB:Hid ((n==37)=B):=(H1.out.hit (p:=37) rfl hm).symm;have hbm:((n:Int)%37==0)=true:=by simp;omega
     have hbe:((n:Int)==37)=(n==37):=by rw [Bool.eq_iff_iff];simp;omega
     clear hm;go_wp2_with fail;go_ret;exact ⟨Qas HB.out,0,rfl⟩
    ·have H2:Hid (St n 12 B):=H1.out.next (p:=37) rfl rfl hm;have hbm:((n:Int)%37==0)=false:=by simp;omega
     clear hm H1;go_wp2_with fail;exact ⟨⟨12,by omega,H2,rfl⟩,by simp [intOf]⟩
  ·have hdk:decide ((k:Int)<12)=false:=by simp;omega
   obtain rfl:k=12:=by omega
   obtain ⟨hw0,h41⟩:=H1.out.fin h2;have H3:Hid (wit n (Qae.drop 0)=B):=hw0;clear H1 hw0;go_wp2_with fail
   go_loopw [22] (fun k W=>∃k' m:Nat,k'<=12/\Hid (wit n (Qae.drop k')=B)/\k=.int .i64 k'/\W=w.drewN m) (fun k _=>12 - (intOf k).toNat)
   case atStart=>exact ⟨0,0,by omega,H3,rfl,rfl⟩
   case round=>
    obtain ⟨k,m,hk2,H4,rfl,rfl⟩:=hrel;clear H3
    by_cases hlt2:k<12
    ·have hdk2:decide ((k:Int)<12)=true:=by simp;omega
     rcases twelve k hlt2 with rfl | rfl | rfl | rfl | rfl | rfl | rfl | rfl | rfl | rfl | rfl | rfl
     ·have ix:=ix0;have hw:wit n (Qae.drop 0)=(Qbn n 2&&wit n (Qae.drop 1)):=Qb1 n 0 2 rfl;have H4':=H4.out;rw [hw] at H4';have cp:=fun W (h:Hid (Qbb W))=>Qa7 n 2 W PH.out h.out (by omega) hn (by omega)
      cases hp:Qbn n 2
      ·have HB:Hid (false=B):=by show _ = _;rw [← H4',hp];rfl
       rw [hp] at cp;clear H4' hw H4 hp;go_wp2_with fail;refine (cp _ (show Hid (Qbb (w.drewN m)) from HT.out)).mono ?_
       rintro e w3 ⟨rfl,k3,rfl⟩;go_wp2_with fail;go_ret;exact ⟨Qas HB.out,_,rfl⟩
      ·have H5:Hid (wit n (Qae.drop 1)=B):=by show _ = _;rw [← H4',hp];rfl
       rw [hp] at cp;clear H4' hw H4 hp;go_wp2_with fail;refine (cp _ (show Hid (Qbb (w.drewN m)) from HT.out)).mono ?_
       rintro e w3 ⟨rfl,k3,rfl⟩;go_wp2_with fail
       go_roundw
       case rel=>exact ⟨1,_,by omega,H5,rfl,rfl⟩
       case measure=>simp [intOf]
     ·have ix:=ix1;have hw:wit n (Qae.drop 1)=(Qbn n 3&&wit n (Qae.drop 2)):=Qb1 n 1 3 rfl;have H4':=H4.out;rw [hw] at H4';have cp:=fun W (h:Hid (Qbb W))=>Qa7 n 3 W PH.out h.out (by omega) hn (by omega)
      cases hp:Qbn n 3
      ·have HB:Hid (false=B):=by show _ = _;rw [← H4',hp];rfl
       rw [hp] at cp;clear H4' hw H4 hp;go_wp2_with fail;refine (cp _ (show Hid (Qbb (w.drewN m)) from HT.out)).mono ?_
       rintro e w3 ⟨rfl,k3,rfl⟩;go_wp2_with fail;go_ret;exact ⟨Qas HB.out,_,rfl⟩
      ·have H5:Hid (wit n (Qae.drop 2)=B):=by show _ = _;rw [← H4',hp];rfl
       rw [hp] at cp;clear H4' hw H4 hp;go_wp2_with fail;refine (cp _ (show Hid (Qbb (w.drewN m)) from HT.out)).mono ?_
       rintro e w3 ⟨rfl,k3,rfl⟩;go_wp2_with fail
       go_roundw
       case rel=>exact ⟨2,_,by omega,H5,rfl,rfl⟩
       case measure=>simp [intOf]
     ·have ix:=ix2;have hw:wit n (Qae.drop 2)=(Qbn n 5&&wit n (Qae.drop 3)):=Qb1 n 2 5 rfl;have H4':=H4.out;rw [hw] at H4';have cp:=fun W (h:Hid (Qbb W))=>Qa7 n 5 W PH.out h.out (by omega) hn (by omega)
      cases hp:Qbn n 5
      ·have HB:Hid (false=B):=by show _ = _;rw [← H4',hp];rfl
       rw [hp] at cp;clear H4' hw H4 hp;go_wp2_with fail;refine (cp _ (show Hid (Qbb (w.drewN m)) from HT.out)).mono ?_
       rintro e w3 ⟨rfl,k3,rfl⟩;go_wp2_with fail;go_ret;exact ⟨Qas HB.out,_,rfl⟩
      ·have H5:Hid (wit n (Qae.drop 3)=B):=by show _ = _;rw [← H4',hp];rfl
       rw [hp] at cp;clear H4' hw H4 hp;go_wp2_with fail;refine (cp _ (show Hid (Qbb (w.drewN m)) from HT.out)).mono ?_
       rintro e w3 ⟨rfl,k3,rfl⟩;go_wp2_with fail
       go_roundw
       case rel=>exact ⟨3,_,by omega,H5,rfl,rfl⟩
       case measure=>simp [intOf]
     ·have ix:=ix3;have hw:wit n (Qae.drop 3)=(Qbn n 7&&wit n (Qae.drop 4)):=Qb1 n 3 7 rfl;have H4':=H4.out;rw [hw] at H4';have cp:=fun W (h:Hid (Qbb W))=>Qa7 n 7 W PH.out h.out (by omega) hn (by omega)
      cases hp:Qbn n 7
      ·have HB:Hid (false=B):=by show _ = _;rw [← H4',hp];rfl
       rw [hp] at cp;clear H4' hw H4 hp;go_wp2_with fail;refine (cp _ (show Hid (Qbb (w.drewN m)) from HT.out)).mono ?_
       rintro e w3 ⟨rfl,k3,rfl⟩;go_wp2_with fail;go_ret;exact ⟨Qas HB.out,_,rfl⟩
      ·have H5:Hid (wit n (Qae.drop 4)=B):=by show _ = _;rw [← H4',hp];rfl
       rw [hp] at cp;clear H4' hw H4 hp;go_wp2_with fail;refine (cp _ (show Hid (Qbb (w.drewN m)) from HT.out)).mono ?_
       rintro e w3 ⟨rfl,k3,rfl⟩;go_wp2_with fail
       go_roundw
       case rel=>exact ⟨4,_,by omega,H5,rfl,rfl⟩
       case measure=>simp [intOf]
     ·have ix:=ix4;have hw:wit n (Qae.drop 4)=(Qbn n 11&&wit n (Qae.drop 5)):=Qb1 n 4 11 rfl;have H4':=H4.out;rw [hw] at H4';have cp:=fun W (h:Hid (Qbb W))=>Qa7 n 11 W PH.out h.out (by omega) hn (by omega)
      cases hp:Qbn n 11
      ·have HB:Hid (false=B):=by show _ = _;rw [← H4',hp];rfl
       rw [hp] at cp;clear H4' hw H4 hp;go_wp2_with fail;refine (cp _ (show Hid (Qbb (w.drewN m)) from HT.out)).mono ?_
       rintro e w3 ⟨rfl,k3,rfl⟩;go_wp2_with fail;go_ret;exact ⟨Qas HB.out,_,rfl⟩
      ·have H5:Hid (wit n (Qae.drop 5)=B):=by show _ = _;rw [← H4',hp];rfl
       rw [hp] at cp;clear H4' hw H4 hp;go_wp2_with fail;refine (cp _ (show Hid (Qbb (w.drewN m)) from HT.out)).mono ?_
       rintro e w3 ⟨rfl,k3,rfl⟩;go_wp2_with fail
       go_roundw
       case rel=>exact ⟨5,_,by omega,H5,rfl,rfl⟩
       case measure=>simp [intOf]
     ·have ix:=ix5;have hw:wit n (Qae.drop 5)=(Qbn n 13&&wit n (Qae.drop 6)):=Qb1 n 5 13 rfl;have H4':=H4.out;rw [hw] at H4';have cp:=fun W (h:Hid (Qbb W))=>Qa7 n 13 W PH.out h.out (by omega) hn (by omega)
      cases hp:Qbn n 13
      ·have HB:Hid (false=B):=by show _ = _;rw [← H4',hp];rfl
       rw [hp] at cp;clear H4' hw H4 hp;go_wp2_with fail;refine (cp _ (show Hid (Qbb (w.drewN m)) from HT.out)).mono ?_
       rintro e w3 ⟨rfl,k3,rfl⟩;go_wp2_with fail;go_ret;exact ⟨Qas HB.out,_,rfl⟩
      ·have H5:Hid (wit n (Qae.drop 6)=B):=by show _ = _;rw [← H4',hp];rfl
       rw [hp] at cp;clear H4' hw H4 hp;go_wp2_with fail;refine (cp _ (show Hid (Qbb (w.drewN m)) from HT.out)).mono ?_
       rintro e w3 ⟨rfl,k3,rfl⟩;go_wp2_with fail
       go_roundw
       case rel=>exact ⟨6,_,by omega,H5,rfl,rfl⟩
       case measure=>simp [intOf]
     ·have ix:=ix6;have hw:wit n (Qae.drop 6)=(Qbn n 17&&wit n (Qae.drop 7)):=Qb1 n 6 17 rfl;have H4':=H4.out;rw [hw] at H4';have cp:=fun W (h:Hid (Qbb W))=>Qa7 n 17 W PH.out h.out (by omega) hn (by omega)
      cases hp:Qbn n 17
      ·have HB:Hid (false=B):=by show _ = _;rw [← H4',hp];rfl
       rw [hp] at cp;clear H4' hw H4 hp;go_wp2_with fail;refine (cp _ (show Hid (Qbb (w.drewN m)) from HT.out)).mono ?_
       rintro e w3 ⟨rfl,k3,rfl⟩;go_wp2_with fail;go_ret;exact ⟨Qas HB.out,_,rfl⟩
      ·have H5:Hid (wit n (Qae.drop 7)=B):=by show _ = _;rw [← H4',hp];rfl
       rw [hp] at cp;clear H4' hw H4 hp;go_wp2_with fail;refine (cp _ (show Hid (Qbb (w.drewN m)) from HT.out)).mono ?_
       rintro e w3 ⟨rfl,k3,rfl⟩;go_wp2_with fail
       go_roundw
       case rel=>exact ⟨7,_,by omega,H5,rfl,rfl⟩
       case measure=>simp [intOf]
     ·have ix:=ix7;have hw:wit n (Qae.drop 7)=(Qbn n 19&&wit n (Qae.drop 8)):=Qb1 n 7 19 rfl;have H4':=H4.out;rw [hw] at H4';have cp:=fun W (h:Hid (Qbb W))=>Qa7 n 19 W PH.out h.out (by omega) hn (by omega)
      cases hp:Qbn n 19
      ·have HB:Hid (false=B):=by show _ = _;rw [← H4',hp];rfl
       rw [hp] at cp;clear H4' hw H4 hp;go_wp2_with fail;refine (cp _ (show Hid (Qbb (w.drewN m)) from HT.out)).mono ?_
       rintro e w3 ⟨rfl,k3,rfl⟩;go_wp2_with fail;go_ret;exact ⟨Qas HB.out,_,rfl⟩
      ·have H5:Hid (wit n (Qae.drop 8)=B):=by show _ = _;rw [← H4',hp];rfl
       rw [hp] at cp;clear H4' hw H4 hp;go_wp2_with fail;refine (cp _ (show Hid (Qbb (w.drewN m)) from HT.out)).mono ?_
       rintro e w3 ⟨rfl,k3,rfl⟩;go_wp2_with fail
       go_roundw
       case rel=>exact ⟨8,_,by omega,H5,rfl,rfl⟩
       case measure=>simp [intOf]
     ·have ix:=ix8;have hw:wit n (Qae.drop 8)=(Qbn n 23&&wit n (Qae.drop 9)):=Qb1 n 8 23 rfl;have H4':=H4.out;rw [hw] at H4';have cp:=fun W (h:Hid (Qbb W))=>Qa7 n 23 W PH.out h.out (by omega) hn (by omega)
      cases hp:Qbn n 23
      ·have HB:Hid (false=B):=by show _ = _;rw [← H4',hp];rfl
       rw [hp] at cp;clear H4' hw H4 hp;go_wp2_with fail;refine (cp _ (show Hid (Qbb (w.drewN m)) from HT.out)).mono ?_
       rintro e w3 ⟨rfl,k3,rfl⟩;go_wp2_with fail;go_ret;exact ⟨Qas HB.out,_,rfl⟩
      ·have H5:Hid (wit n (Qae.drop 9)=B):=by show _ = _;rw [← H4',hp];rfl
       rw [hp] at cp;clear H4' hw H4 hp;go_wp2_with fail;refine (cp _ (show Hid (Qbb (w.drewN m)) from HT.out)).mono ?_
       rintro e w3 ⟨rfl,k3,rfl⟩;go_wp2_with fail
       go_roundw
       case rel=>exact ⟨9,_,by omega,H5,rfl,rfl⟩
       case measure=>simp [intOf]
     ·have ix:=ix9;have hw:wit n (Qae.drop 9)=(Qbn n 29&&wit n (Qae.drop 10)):=Qb1 n 9 29 rfl;have H4':=H4.out;rw [hw] at H4';have cp:=fun W (h:Hid (Qbb W))=>Qa7 n 29 W PH.out h.out (by omega) hn (by omega)
      cases hp:Qbn n 29
      ·have HB:Hid (false=B):=by show _ = _;rw [← H4',hp];rfl
       rw [hp] at cp;clear H4' hw H4 hp;go_wp2_with fail;refine (cp _ (show Hid (Qbb (w.drewN m)) from HT.out)).mono ?_
       rintro e w3 ⟨rfl,k3,rfl⟩;go_wp2_with fail;go_ret;exact ⟨Qas HB.out,_,rfl⟩
      ·have H5:Hid (wit n (Qae.drop 10)=B):=by show _ = _;rw [← H4',hp];rfl
       rw [hp] at cp;clear H4' hw H4 hp;go_wp2_with fail;refine (cp _ (show Hid (Qbb (w.drewN m)) from HT.out)).mono ?_
       rintro e w3 ⟨rfl,k3,rfl⟩;go_wp2_with fail
       go_roundw
       case rel=>exact ⟨10,_,by omega,H5,rfl,rfl⟩
       case measure=>simp [intOf]
     ·have ix:=Q4v;have hw:wit n (Qae.drop 10)=(Qbn n 31&&wit n (Qae.drop 11)):=Qb1 n 10 31 rfl;have H4':=H4.out;rw [hw] at H4';have cp:=fun W (h:Hid (Qbb W))=>Qa7 n 31 W PH.out h.out (by omega) hn (by omega)
      cases hp:Qbn n 31
      ·have HB:Hid (false=B):=by show _ = _;rw [← H4',hp];rfl
       rw [hp] at cp;clear H4' hw H4 hp;go_wp2_with fail;refine (cp _ (show Hid (Qbb (w.drewN m)) from HT.out)).mono ?_
       rintro e w3 ⟨rfl,k3,rfl⟩;go_wp2_with fail;go_ret;exact ⟨Qas HB.out,_,rfl⟩
      ·have H5:Hid (wit n (Qae.drop 11)=B):=by show _ = _;rw [← H4',hp];rfl
       rw [hp] at cp;clear H4' hw H4 hp;go_wp2_with fail;refine (cp _ (show Hid (Qbb (w.drewN m)) from HT.out)).mono ?_
       rintro e w3 ⟨rfl,k3,rfl⟩;go_wp2_with fail
       go_roundw
       case rel=>exact ⟨11,_,by omega,H5,rfl,rfl⟩
       case measure=>simp [intOf]
     ·have ix:=Q4w;have hw:wit n (Qae.drop 11)=(Qbn n 37&&wit n (Qae.drop 12)):=Qb1 n 11 37 rfl;have H4':=H4.out;rw [hw] at H4';have cp:=fun W (h:Hid (Qbb W))=>Qa7 n 37 W PH.out h.out (by omega) hn (by omega)
      cases hp:Qbn n 37
      ·have HB:Hid (false=B):=by show _ = _;rw [← H4',hp];rfl
       rw [hp] at cp;clear H4' hw H4 hp;go_wp2_with fail;refine (cp _ (show Hid (Qbb (w.drewN m)) from HT.out)).mono ?_
       rintro e w3 ⟨rfl,k3,rfl⟩;go_wp2_with fail;go_ret;exact ⟨Qas HB.out,_,rfl⟩
      ·have H5:Hid (wit n (Qae.drop 12)=B):=by show _ = _;rw [← H4',hp];rfl
       rw [hp] at cp;clear H4' hw H4 hp;go_wp2_with fail;refine (cp _ (show Hid (Qbb (w.drewN m)) from HT.out)).mono ?_
       rintro e w3 ⟨rfl,k3,rfl⟩;go_wp2_with fail
       go_roundw
       case rel=>exact ⟨12,_,by omega,H5,rfl,rfl⟩
       case measure=>simp [intOf]
    ·have hdk2:decide ((k:Int)<12)=false:=by simp;omega
     obtain rfl:k=12:=by omega
     have HB:Hid (true=B):=H4.out;clear H4;go_wp2_with fail;go_ret;exact ⟨Qas HB.out,m,rfl⟩
end Go.Proofs.YthcidnnkakppcaaGreatDoor
namespace Go.Proofs.YthcidnnkakppcaaGreatDoor.F1
open Go.Proofs.YthcidnnkakppcaaGreatDoor
open M1
def w5 (a n r x:Nat):Nat:=Nat.mod (Nat.mul (Nat.pow r 32) (Nat.pow a (Nat.mod x 32))) n
def pm (a e n:Nat):Nat:=w5 a n (w5 a n (w5 a n (w5 a n (Nat.mod (Nat.pow a (Nat.div e 1048576)) n) (Nat.div e 32768)) (Nat.div e 1024)) (Nat.div e 32)) e
theorem Qv4 (a n x:Nat):w5 a n (a^(x/32)%n) x=a^x%n:=by
 show (a^(x/32)%n)^32*a^(x%32)%n=a^x%n
 rw [Nat.mul_mod,<- Nat.pow_mod,<- Nat.mul_mod,<- Nat.pow_mul,<- Nat.pow_add,Nat.mul_comm (x/32) 32,Nat.div_add_mod]
theorem Q14 (a e n:Nat):pm a e n=a^e%n:=by
 have h1:e/32768/32=e/1048576:=by rw [Nat.div_div_eq_div_mul]
 have h2:e/1024/32=e/32768:=by rw [Nat.div_div_eq_div_mul]
 have h3:e/32/32=e/1024:=by rw [Nat.div_div_eq_div_mul]
 show w5 a n (w5 a n (w5 a n (w5 a n (a^(e/1048576)%n) (e/32768)) (e/1024)) (e/32)) e=_
 rw [<- h1,Qv4,<- h2,Qv4,<- h3,Qv4,Qv4]
def Qin (n a:Nat):Bool:=pm a ((n - 1)/2^Lib.ctz 64 (n - 1)) n==1||sqs n (Lib.ctz 64 (n - 1)) (pm a ((n - 1)/2^Lib.ctz 64 (n - 1)) n)
theorem Qg2 (n a:Nat):Qin n a=Qbn n a:=by unfold Qin Qbn Qeb;rw [Q14]
def P37:Nat:=3710369067405
def Qzn (k:Nat):Bool:=cond (Nat.beq (Nat.gcd (Nat.succ k) P37) 1) (cond (Nat.beq (pm 2 k (Nat.succ k)) 1) (!(Qin (Nat.succ k) 2&&Qin (Nat.succ k) 3&&Qin (Nat.succ k) 5&&Qin (Nat.succ k) 7)) true) true
def Q4x (n:Nat):Bool:=Nat.rec true (fun k _=>Qzn k) n
def allT (f:Nat->Bool) (d:Nat):Nat->Bool:=Nat.rec (fun lo=>f lo) (fun d ih lo=>cond (ih lo) (ih (Nat.add lo (Nat.pow 2 d))) false) d
theorem Qfn (f:Nat->Bool):∀(d lo:Nat),allT f d lo=true->∀i,i<2^d->f (lo+i)=true
 | 0,lo,h,i,hi=>by
   obtain rfl:i=0:=by simpa using hi
   exact h
 | d+1,lo,h,i,hi=>by
   have h':cond (allT f d lo) (allT f d (lo+2^d)) false=true:=h
   cases h1:allT f d lo with
   | false=>rw [h1] at h';cases h'
   | true=>
     rw [h1] at h'
     by_cases hlt:i<2^d
     ·exact Qfn f d lo h1 i hlt
     ·have:=Qfn f d (lo+2^d) h' (i - 2^d) (by rw [Nat.pow_succ] at hi;omega);rw [show lo+2^d+(i - 2^d)=lo+i by omega] at this;exact this
def tq (q t:Nat):Bool:=cond (Nat.ble (Nat.mul q (Nat.succ (Nat.mul t (Nat.pred q)))) 268435455) (Q4x (Nat.mul q (Nat.succ (Nat.mul t (Nat.pred q))))) true
def okd (q d:Nat):Bool:=Qae.any fun a=> !(Nat.beq (Nat.mod (Nat.pow a d) q) 1)
def Q15 (q f:Nat):Bool:=cond (Nat.beq (Nat.mod (Nat.pred q) f) 0) ((okd q f||Nat.beq f (Nat.pred q))&&(okd q (Nat.div (Nat.pred q) f)||Nat.beq f 1)) true
def prm (q:Nat):Bool:=allT (fun d=>cond (Nat.beq (Nat.mod q d) 0) (Nat.ble q d) true) 7 2
def Qio (q:Nat):Bool:=cond (Nat.beq (Nat.gcd q (Nat.mul 2 P37)) 1) (cond (prm q) (cond (allT (Q15 q) 7 1) (allT (tq q) (Nat.succ (Nat.log2 (Nat.div 268435455 (Nat.mul q (Nat.pred q))))) 1) false) true) true
theorem Qx8 (n:Nat) (hn:2<=n):∀(s x:Nat),sqs n s x=true->∃i,i<s/\x^2^i%n=n - 1
 | 0,x,h=>by cases h
 | k+1,x,h=>by
   have h':(x==n - 1||sqs n k (x*x%n))=true:=h;rcases Bool.or_eq_true _ _ ▸ h' with h1 | h1
   ·have e:x=n - 1:=by simpa using h1
    exact ⟨0,by omega,by rw [e,Nat.pow_zero,Nat.pow_one];exact Nat.mod_eq_of_lt (by omega)⟩
   ·obtain ⟨i,hi,he⟩:=Qx8 n hn k _ h1;refine ⟨i+1,by omega,?_⟩;rw [<- Nat.pow_mod] at he;rw [<- he,Nat.pow_succ 2 i,Nat.mul_comm (2^i) 2,Nat.pow_mul,Nat.pow_two]
theorem Qzo (x:Nat) (h0:0<x) (h:x<2^64):2^Lib.ctz 64 x*(x/2^Lib.ctz 64 x)=x:=by
 have e:Lib.ctz 64 x=Lib.ctzFrom 64 x:=by unfold Lib.ctz;rw [if_neg (by omega)]
 obtain ⟨m,hm,_⟩:=Lib.ctzFrom_spec 64 x h0 h;rw [<- e] at hm;have:2^Lib.ctz 64 x ∣ x:=⟨_,hm⟩;exact Nat.mul_div_cancel' this
theorem Qhn (n a:Nat) (hn:3<=n) (hn':n - 1<2^64) (h:Qbn n a=true):a^(n - 1)%n=1:=by
 have hm:=Qzo (n - 1) (by omega) hn';unfold Qbn Qeb at h;generalize Lib.ctz 64 (n - 1)=s at *;generalize (n - 1)/2^s=d at *;have e0:a^(n - 1)%n=(a^d%n)^2^s%n:=by rw [<- hm,Nat.mul_comm,Nat.pow_mul,<- Nat.pow_mod]
 rcases Bool.or_eq_true _ _ ▸ h with h1 | h1
 ·have e:a^d%n=1:=by simpa using h1
  rw [e0,e,Nat.one_pow,Nat.mod_eq_of_lt (by omega)]
 ·obtain ⟨i,hi,he⟩:=Qx8 n (by omega) s _ h1
  have e1:2^s=2^i*(2*2^(s - i - 1)):=by
   rw [<- Nat.pow_succ',<- Nat.pow_add]
   congr 1
   omega
  have e2:(n - 1)*(n - 1)%n=1:=by
   have:(n - 1)*(n - 1)=1+n*(n - 2):=by
    obtain ⟨k,rfl⟩:∃k,n=k+2:=⟨n - 2,by omega⟩
    rw [show k+2 - 1=k+1 by omega,show k+2 - 2=k by omega]
    grind
   rw [this,Nat.add_mul_mod_self_left,Nat.mod_eq_of_lt (by omega)]
  rw [e0,e1,Nat.pow_mul,Nat.pow_mod,he,Nat.pow_mul,Nat.pow_two,Nat.pow_mod,e2,Nat.one_pow,Nat.mod_eq_of_lt (by omega)]
theorem Qzp (a q m n:Nat) (hq:2<=q) (h1:a^m%q=1) (h2:a^n%q=1):a^(n%m)%q=1:=by
 have e:=Nat.div_add_mod n m;rw [<- e,Nat.pow_add,Nat.pow_mul,Nat.mul_mod,Nat.pow_mod (a^m),h1,Nat.one_pow,Nat.mod_eq_of_lt (show 1<q by omega),Nat.one_mul,Nat.mod_mod] at h2;exact h2
theorem Qzq (a q:Nat) (hq:2<=q) (m n:Nat):a^m%q=1->a^n%q=1->a^Nat.gcd m n%q=1:=by
 induction m,n using Nat.gcd.induction with
 | H0 n=>intro _ h;simpa using h
 | H1 m n hm ih=>
   intro h1 h2;rw [Nat.gcd_rec];exact ih (Qzp a q m n hq h1 h2) h1
theorem Qx9 {q d:Nat} (h:okd q d=true):∃a∈Qae,a^d%q≠1:=by
 unfold okd at h;rw [List.any_eq_true] at h;obtain ⟨a,ha,h1⟩:=h;refine ⟨a,ha,fun e=>?_⟩;have e':Nat.mod (Nat.pow a d) q=1:=e;rw [e'] at h1
 cases h1
theorem Q3w {a b:Nat} (h:Nat.beq a b=true):a=b:=Nat.eq_of_beq_eq_true h
theorem Qj5 {a b:Nat} (h:a=b):Nat.beq a b=true:=by subst h;exact Nat.beq_refl a
theorem Qzr (q d:Nat) (hq:3<=q) (hq':q<=16383) (h:allT (Q15 q) 7 1=true) (hd:d ∣ q - 1) (hne:d≠q - 1):∃a∈Qae,a^d%q≠1:=by
 have hall:=Qfn _ _ _ h;obtain ⟨c,hc⟩:=hd
 have hd0:0<d:=by rcases Nat.eq_zero_or_pos d with h | h;· subst h;omega
                  ·exact h
 have hc0:0<c:=by rcases Nat.eq_zero_or_pos c with h | h;· subst h;omega
                  ·exact h
 have use:∀f,1<=f->f<=128->f ∣ q - 1->(okd q f=true∨f=q - 1)/\(okd q ((q - 1)/f)=true∨f=1):=by
  intro f h1 h2 h3;have hf:=hall (f - 1) (by omega);rw [show 1+(f - 1)=f by omega] at hf;unfold Q15 at hf;have e:Nat.beq (Nat.mod (Nat.pred q) f) 0=true:=Qj5 (Nat.mod_eq_zero_of_dvd h3);rw [e] at hf;have hf':((okd q f||Nat.beq f (Nat.pred q))&&(okd q (Nat.div (Nat.pred q) f)||Nat.beq f 1))=true:=hf;rw [Bool.and_eq_true,Bool.or_eq_true,Bool.or_eq_true] at hf';exact ⟨hf'.1.imp id Q3w,hf'.2.imp id Q3w⟩
 by_cases hs:d<=128
 ·rcases (use d hd0 hs ⟨c,hc⟩).1 with h1 | h1
  ·exact Qx9 h1
  ·exact absurd h1 hne
 ·have hcs:c≤128:=by
   by_cases hc2:c<=128
   ·exact hc2
   ·have:=Nat.mul_le_mul (show 129<=d by omega) (show 129<=c by omega);omega
  rcases (use c hc0 hcs ⟨d,by rw [hc,Nat.mul_comm]⟩).2 with h1 | h1
  ·have e:(q - 1)/c=d:=by rw [hc,Nat.mul_div_cancel _ hc0]
   rw [e] at h1;exact Qx9 h1
  ·subst h1;rw [Nat.mul_one] at hc;exact absurd hc.symm hne
theorem Qsz (q e:Nat) (hq:3<=q) (hq':q<=16383) (hf:∀a∈Qae,a^(q - 1)%q=1) (h:allT (Q15 q) 7 1=true) (he:∀a∈Qae,a^e%q=1):q - 1 ∣ e:=by
 have hg:=fun a ha=>Qzq a q (by omega) e (q - 1) (he a ha) (hf a ha)
 by_cases hne:Nat.gcd e (q - 1)=q - 1
 ·rw [<- hne];exact Nat.gcd_dvd_left _ _
 ·obtain ⟨a,ha,h1⟩:=Qzr q _ hq hq' h (Nat.gcd_dvd_right e (q - 1)) hne;exact absurd (hg a ha) h1
theorem Qv5:∀a∈Qae,∀d,d<=37->d ∣ a->d=1∨d=a:=by decide
theorem Qpx (a:Nat) (ha:a∈Qae):Pr a:=by
 have hb:∀a∈Qae,2<=a/\a<=37:=by decide
 refine ⟨(hb a ha).1,fun d hd=>?_⟩;have:=Nat.le_of_dvd (by have:=(hb a ha).1;omega) hd;exact Qv5 a ha d (by have:=(hb a ha).2;omega) hd
theorem Qs0 (n:Nat) (h:∀a∈Qae,n%a≠0):Nat.Coprime n (2*P37):=by
 have c:=fun a ha=>((Qpx a ha).cop (fun hd=>h a ha (Nat.mod_eq_zero_of_dvd hd))).symm
 have e:2*P37=2*(3*(5*(7*(11*(13*(17*(19*(23*(29*(31*37)))))))))):=by decide
 rw [e];have m:∀a,a∈Qae->∀b,Nat.Coprime n b->Nat.Coprime n (a*b):=fun a ha b hb=>Nat.Coprime.mul_right (c a ha) hb
 exact m 2 (by decide) _ (m 3 (by decide) _ (m 5 (by decide) _ (m 7 (by decide) _ (m 11 (by decide) _ (m 13 (by decide) _ (m 17 (by decide) _ (m 19 (by decide) _ (m 23 (by decide) _ (m 29 (by decide) _ (m 31 (by decide) _ (c 37 (by decide))))))))))))
theorem Q16 (q:Nat) (h:Pr q):prm q=true:=by
 have key2:∀(f:Nat->Bool) (d lo:Nat),(∀i,lo<=i->f i=true)->allT f d lo=true:=by
  intro f d
  induction d with
  | zero=>intro lo hf;exact hf lo (Nat.le_refl _)
  | succ d ih=>
    intro lo hf
    show cond (allT f d lo) (allT f d (lo+2^d)) false=true
    rw [ih lo hf,ih (lo+2^d) (fun i hi=>hf i (Nat.le_trans (Nat.le_add_right _ _) hi))];rfl
 refine key2 _ _ _ (fun d hd=>?_)
 cases hb:Nat.beq (Nat.mod q d) 0 with
 | false=>rfl
 | true=>
   have hdv:=Nat.dvd_of_mod_eq_zero (Q3w hb);rcases h.2 d hdv with h1 | h1
   ·omega
   ·subst h1;exact Nat.ble_self_eq_true d
theorem Qn3 (tab:∀q,41<=q->q<=16383->Qio q=true) (n:Nat) (h41:41<=n) (hN:n<=268435455) (hd:∀a∈Qae,n%a≠0) (hp:∀a∈Qae,Qbn n a=true):Pr n:=by
 apply Classical.byContradiction;intro hno;obtain ⟨q,m,hq,hn,hm,hqq⟩:=Q1y (by omega) hno;have hq2:=hq.1;have hcop:=Nat.Coprime.coprime_dvd_left ⟨m,hn⟩ (Qs0 n hd)
 have hq41:41<=q:=by
  by_cases h:41<=q
  ·exact h
  ·obtain ⟨a,ha,h0⟩:=above q (by omega) hq2;have hda:=Nat.dvd_of_mod_eq_zero h0;exact absurd (Nat.mod_eq_zero_of_dvd (Nat.dvd_trans hda ⟨m,hn⟩)) (hd a ha)
 have hq':q<=16383:=by
  by_cases h:q<=16383
  ·exact h
  ·have:=Nat.mul_le_mul (show 16384<=q by omega) (show 16384<=q by omega);omega
 have hc:=tab q hq41 hq';unfold Qio at hc;have e1:Nat.beq (Nat.gcd q (Nat.mul 2 P37)) 1=true:=Qj5 hcop;rw [e1,Q16 q hq] at hc
 cases hf:allT (Q15 q) 7 1 with
 | false=>rw [hf] at hc;cases hc
 | true=>
   rw [hf] at hc;have hc':allT (tq q) (Nat.succ (Nat.log2 (Nat.div 268435455 (Nat.mul q (Nat.pred q))))) 1=true:=hc
   have hfer:∀a∈Qae,a^(q - 1)%q=1:=by
    intro a ha;refine hq.fermat (fun hda=>?_);have hb:∀a∈Qae,2<=a/\a<=37:=by decide
    have:=Nat.le_of_dvd (by have:=(hb a ha).1;omega) hda;have:=(hb a ha).2;omega
   have hdvd:q - 1 ∣ m - 1:=by
    refine Qsz q (m - 1) (by omega) hq' hfer hf (fun a ha=>?_);have h1:=Qhn n a (by omega) (by omega) (hp a ha)
    have h2:a^(n - 1)%q=1:=by
     have:=Nat.mod_mul_right_mod (a^(n - 1)) q m;rw [<- hn,h1,Nat.mod_eq_of_lt (by omega)] at this;exact this.symm
    have e:n - 1=(q - 1)*m+(m - 1):=by
     rw [hn,Nat.sub_mul,Nat.one_mul];have:=Nat.mul_le_mul (show 1<=q by omega) (Nat.le_refl m);omega
    rw [e,Nat.pow_add,Nat.pow_mul,Nat.mul_mod,Nat.pow_mod,hfer a ha,Nat.one_pow,Nat.mod_eq_of_lt (show 1<q by omega),Nat.one_mul,Nat.mod_mod] at h2;exact h2
   obtain ⟨t,ht⟩:=hdvd
   have ht0:0<t:=by
    rcases Nat.eq_zero_or_pos t with h | h
    ·subst h;omega
    ·exact h
   have hnt:n=q*(t*(q - 1)+1):=by
    rw [hn]
    congr 1
    rw [Nat.mul_comm t];omega
   have htl:t<=268435455/(q*(q - 1)):=by
    rw [Nat.le_div_iff_mul_le (Nat.mul_pos (by omega) (by omega))]
    have:t*(q*(q - 1))<=n:=by
     rw [hnt,Nat.mul_add,Nat.mul_one];have:t*(q*(q - 1))=q*(t*(q - 1)):=by rw [Nat.mul_left_comm]
     omega
    omega
   have hlog:t - 1<2^Nat.succ (Nat.log2 (268435455/(q*(q - 1)))):=by
    have:=Nat.lt_log2_self (n:=268435455/(q*(q - 1)));omega
   have hx:=Qfn _ _ _ hc' (t - 1) hlog;rw [show 1+(t - 1)=t by omega] at hx;unfold tq at hx;have en:Nat.mul q (Nat.succ (Nat.mul t (Nat.pred q)))=n:=hnt.symm;rw [en] at hx;have eb:Nat.ble n 268435455=true:=Nat.ble_eq_true_of_le hN;rw [eb] at hx;have hx':Q4x n=true:=hx;obtain ⟨k,rfl⟩:∃k,n=k+1:=⟨n - 1,by omega⟩
   have hy:Qzn k=true:=hx';unfold Qzn at hy;have hcn:=Nat.Coprime.coprime_dvd_right ⟨2,by rw [Nat.mul_comm]⟩ (Qs0 (k+1) hd);have b1:Nat.beq (Nat.gcd (Nat.succ k) P37) 1=true:=Qj5 hcn;have hf2:=Qhn (k+1) 2 (by omega) (by omega) (hp 2 (by decide));have b2:Nat.beq (pm 2 k (Nat.succ k)) 1=true:=Qj5 (by rw [Q14];exact hf2);rw [b1,b2] at hy;have p2:Qin (Nat.succ k) 2=true:=by rw [Qg2];exact hp 2 (by decide)
   have p3:Qin (Nat.succ k) 3=true:=by rw [Qg2];exact hp 3 (by decide)
   have p5:Qin (Nat.succ k) 5=true:=by rw [Qg2];exact hp 5 (by decide)
   have p7:Qin (Nat.succ k) 7=true:=by rw [Qg2];exact hp 7 (by decide)
   rw [p2,p3,p5,p7] at hy
   cases hy
end Go.Proofs.YthcidnnkakppcaaGreatDoor.F1
namespace Go.Proofs.YthcidnnkakppcaaGreatDoor.F1
theorem Q3x:allT Qio 0 41=true:=by decide +kernel
theorem Q3y:allT Qio 1 42=true:=by decide +kernel
theorem Q3z:allT Qio 2 44=true:=by decide +kernel
theorem Q30:allT Qio 3 48=true:=by decide +kernel
theorem Q31:allT Qio 3 56=true:=by decide +kernel
theorem Q32:allT Qio 4 64=true:=by decide +kernel
theorem Q33:allT Qio 4 80=true:=by decide +kernel
theorem Q34:allT Qio 5 96=true:=by decide +kernel
theorem Q17:allT Qio 7 128=true:=by decide +kernel
theorem Q18:allT Qio 8 256=true:=by decide +kernel
theorem Q19:allT Qio 9 512=true:=by decide +kernel
theorem Qzs:allT Qio 10 1024=true:=by decide +kernel
theorem Qzt:allT Qio 11 2048=true:=by decide +kernel
theorem Qzu:allT Qio 12 4096=true:=by decide +kernel
theorem Qzv:allT Qio 13 8192=true:=by decide +kernel
end Go.Proofs.YthcidnnkakppcaaGreatDoor.F1
namespace Go.Proofs.YthcidnnkakppcaaGreatDoor.F1
open Go.Proofs.YthcidnnkakppcaaGreatDoor
theorem Qzw (q:Nat) (h1:41<=q) (h2:q<=16383):Qio q=true:=by
 have use:∀d lo,allT Qio d lo=true->lo<=q->q<lo+2^d->Qio q=true:=by
  intro d lo h h3 h4;have:=Qfn Qio d lo h (q - lo) (by omega)
  rwa [show lo+(q - lo)=q by omega] at this
 by_cases c41:q<42
 ·exact use 0 41 Q3x (by omega) (by simpa using c41)
 by_cases c42:q<44
 ·exact use 1 42 Q3y (by omega) (by simpa using c42)
 by_cases c44:q<48
 ·exact use 2 44 Q3z (by omega) (by simpa using c44)
 by_cases c48:q<56
 ·exact use 3 48 Q30 (by omega) (by simpa using c48)
 by_cases c56:q<64
 ·exact use 3 56 Q31 (by omega) (by simpa using c56)
 by_cases c64:q<80
 ·exact use 4 64 Q32 (by omega) (by simpa using c64)
 by_cases c80:q<96
 ·exact use 4 80 Q33 (by omega) (by simpa using c80)
 by_cases c96:q<128
 ·exact use 5 96 Q34 (by omega) (by simpa using c96)
 by_cases c128:q<256
 ·exact use 7 128 Q17 (by omega) (by simpa using c128)
 by_cases c256:q<512
 ·exact use 8 256 Q18 (by omega) (by simpa using c256)
 by_cases c512:q<1024
 ·exact use 9 512 Q19 (by omega) (by simpa using c512)
 by_cases c1024:q<2048
 ·exact use 10 1024 Qzs (by omega) (by simpa using c1024)
 by_cases c2048:q<4096
 ·exact use 11 2048 Qzt (by omega) (by simpa using c2048)
 by_cases c4096:q<8192
 ·exact use 12 4096 Qzu (by omega) (by simpa using c4096)
 exact use 13 8192 Qzv (by omega) (by simp;omega)
theorem Qs1 (n:Nat):∀l:List Nat,wit n l=true->∀a∈l,Qbn n a=true
 | [],_,a,ha=>by cases ha
 | x :: l,h,a,ha=>by
   have h':(Qbn n x&&wit n l)=true:=h;rw [Bool.and_eq_true] at h';rcases List.mem_cons.1 ha with rfl | h1
   ·exact h'.1
   ·exact Qs1 n l h'.2 a h1
theorem Qs2 (n:Nat):∀l:List Nat,fnd n l=true->(∃a∈l,n=a)∨((∀a∈l,n%a≠0)/\wit n Qae=true)
 | [],h=>Or.inr ⟨fun a ha=>(by cases ha),h⟩
 | x :: l,h=>by
   unfold fnd at h
   by_cases hx:n%x=0
   ·rw [if_pos hx] at h;exact Or.inl ⟨x,List.mem_cons_self ..,by simpa using h⟩
   ·rw [if_neg hx] at h;rcases Qs2 n l h with ⟨a,ha,e⟩ | ⟨h1,h2⟩
    ·exact Or.inl ⟨a,List.mem_cons_of_mem _ ha,e⟩
    ·refine Or.inr ⟨fun a ha=>?_,h2⟩;rcases List.mem_cons.1 ha with rfl | h3
     ·exact hx
     ·exact h1 a h3
theorem pr_of_isP (n:Nat) (h:isP n=true) (hN:n<=268435455):Pr n:=by
 unfold isP at h
 by_cases h2:n<2
 ·rw [if_pos h2] at h;cases h
 ·rw [if_neg h2] at h;rcases Qs2 n Qae h with ⟨a,ha,rfl⟩ | ⟨h1,h3⟩
  ·exact Qpx n ha
  ·exact Qn3 Qzw n (Qpw n (by omega) h1) hN h1 (Qs1 n Qae h3)
end Go.Proofs.YthcidnnkakppcaaGreatDoor.F1
