/- Proved: what its theorems say. -/
import Derived.WalkSmall
import Derived.Test.YtjjohooeehjjcaaGreatDoorMu08
import Derived.Lib.TrailingZeros
set_option linter.unusedVariables false
set_option linter.unusedSimpArgs false
set_option maxHeartbeats 4000000
namespace Go.Proofs.YtjjohooeehjjcaaGreatDoor
open Go.ChangeShapes Go.WideShapes Go.ChangeAt Go.RowKit
open M1
theorem Qwn (r a b n:Nat) (h:b%2=1):((r+a)%n+(a+a)%n*(b/2))%n=(r+a*b)%n:=by
 have e:r+a*b=r+a+(a+a)*(b/2):=by
  have:b=2*(b/2)+1:=by omega
  conv=>lhs;rw [this]
  grind
 rw [e,Nat.add_mod,Nat.mod_mod,ml,<- Nat.add_mod]
theorem Qtw (r a b n:Nat) (h:b%2=0):(r+(a+a)%n*(b/2))%n=(r+a*b)%n:=by
 have e:r+a*b=r+(a+a)*(b/2):=by
  have:b=2*(b/2):=by omega
  conv=>lhs;rw [this]
  grind
 rw [e,Nat.add_mod,ml,<- Nat.add_mod]
theorem Qir (r a n:Nat) (hr:r<n) (ha:a<n):(r+a)%n=if n - a<=r then r - (n - a) else r+a:=by
 split
 ·rw [Nat.mod_eq_sub_mod (by omega),Nat.mod_eq_of_lt (by omega)];omega
 ·rw [Nat.mod_eq_of_lt (by omega)]
theorem Qbb {k:IntKind} {a b:Int} (h:a=b):Value.int k a=Value.int k b:=by rw [h]
theorem Qc7 (a b n:Nat) (w:World) (ha:a<n) (hb:b<18446744073709551616) (hn:n<18446744073709551616) :
  Calls Tryz.prog 132 #[.int .u64 a,.int .u64 b,.int .u64 n] w fun e w'=>e=.returned (.int .u64 ((a*b%n:Nat):Int))/\w'=w:=by
 have H0:Hid ((0+a*b)%n=a*b%n):=by show _ = _;rw [Nat.zero_add]
 generalize a*b%n=R at *;go_enter Tryz.func132,Tryz.ntmps132;go_wp2_with fail
 go_loop [0,1,7] (fun a b r=>∃a' b' r':Nat,a'<n/\b'<18446744073709551616/\r'<n/\Hid ((r'+a'*b')%n=R)/\a=.int .u64 a'/\b=.int .u64 b'/\r=.int .u64 r') (fun _ b _=>(intOf b).toNat)
 case atStart=>exact ⟨a,b,0,ha,hb,by omega,H0,rfl,rfl,rfl⟩
 case round=>
  obtain ⟨a1,b1,r1,ha1,hb1,hr1,H1,rfl,rfl,rfl⟩:=hrel;clear H0
  by_cases hz:b1=0
  ·subst hz
   have H2:Hid (r1=R):=by
    have:=H1.out;rw [Nat.mul_zero,Nat.add_zero,Nat.mod_eq_of_lt hr1] at this;exact this
   go_wp2_with fail;go_ret;exact ⟨by rw [<- H2.out];rfl,rfl⟩
  ·have A2:=Qir a1 a1 n ha1 ha1;have A1:=Qir r1 a1 n hr1 ha1;have m2:(a1+a1)%n<n:=Nat.mod_lt _ (by omega);have m1:(r1+a1)%n<n:=Nat.mod_lt _ (by omega);have An:=and_one_u64 (b1:Int) (by omega) (by omega)
   by_cases hodd:b1%2=1
   ·have H3:Hid (((r1+a1)%n+(a1+a1)%n*(b1/2))%n=R):=by show _ = _;rw [← H1.out];exact Qwn r1 a1 b1 n hodd
    generalize (a1+a1)%n=aa at *;generalize (r1+a1)%n=ra at *;have hbit:(bits BinOp.and IntKind.u64 (b1:Int) 1==1)=true:=by rw [An];simp;omega
    clear An
    by_cases c1:n - a1<=r1
    ·rw [if_pos c1] at A1
     by_cases c2:n - a1<=a1
     ·rw [if_pos c2] at A2;have d1:decide ((n:Int) - (a1:Int)≤(r1:Int))=true:=by simp;omega
      have d2:decide ((n:Int) - (a1:Int)<=(a1:Int))=true:=by simp;omega
      have B1:Hid (ra=r1 - (n - a1)):=A1;have B2:Hid (aa=a1 - (n - a1)):=A2;clear A1 A2;go_wp2_with fail;exact ⟨⟨aa,b1/2,ra,m2,by omega,m1,H3,Qbb (by have:=B2.out;omega),by go_num,Qbb (by have:=B1.out;omega)⟩,by simp [intOf];omega⟩
     ·rw [if_neg c2] at A2;have d1:decide ((n:Int) - (a1:Int)≤(r1:Int))=true:=by simp;omega
      have d2:decide ((n:Int) - (a1:Int)<=(a1:Int))=false:=by simp;omega
      have B1:Hid (ra=r1 - (n - a1)):=A1;have B2:Hid (aa=a1+a1):=A2;clear A1 A2;go_wp2_with fail;exact ⟨⟨aa,b1/2,ra,m2,by omega,m1,H3,Qbb (by have:=B2.out;omega),by go_num,Qbb (by have:=B1.out;omega)⟩,by simp [intOf];omega⟩
    ·rw [if_neg c1] at A1
     by_cases c2:n - a1<=a1
     ·rw [if_pos c2] at A2;have d1:decide ((n:Int) - (a1:Int)≤(r1:Int))=false:=by simp;omega
      have d2:decide ((n:Int) - (a1:Int)<=(a1:Int))=true:=by simp;omega
      have B1:Hid (ra=r1+a1):=A1;have B2:Hid (aa=a1 - (n - a1)):=A2;clear A1 A2;go_wp2_with fail;exact ⟨⟨aa,b1/2,ra,m2,by omega,m1,H3,Qbb (by have:=B2.out;omega),by go_num,Qbb (by have:=B1.out;omega)⟩,by simp [intOf];omega⟩
     ·rw [if_neg c2] at A2;have d1:decide ((n:Int) - (a1:Int)≤(r1:Int))=false:=by simp;omega
      have d2:decide ((n:Int) - (a1:Int)<=(a1:Int))=false:=by simp;omega
      have B1:Hid (ra=r1+a1):=A1;have B2:Hid (aa=a1+a1):=A2;clear A1 A2;go_wp2_with fail;exact ⟨⟨aa,b1/2,ra,m2,by omega,m1,H3,Qbb (by have:=B2.out;omega),by go_num,Qbb (by have:=B1.out;omega)⟩,by simp [intOf];omega⟩
   ·have H3:Hid ((r1+(a1+a1)%n*(b1/2))%n=R):=by show _ = _;rw [← H1.out];exact Qtw r1 a1 b1 n (by omega)
    generalize (a1+a1)%n=aa at *;clear A1 m1;have hbit:(bits BinOp.and IntKind.u64 (b1:Int) 1==1)=false:=by rw [An];simp;omega
    clear An
    by_cases c2:n - a1<=a1
    ·rw [if_pos c2] at A2;have d2:decide ((n:Int) - (a1:Int)≤(a1:Int))=true:=by simp;omega
     have B2:Hid (aa=a1 - (n - a1)):=A2;clear A2;go_wp2_with fail;exact ⟨⟨aa,b1/2,r1,m2,by omega,hr1,H3,Qbb (by have:=B2.out;omega),by go_num,rfl⟩,by simp [intOf];omega⟩
    ·rw [if_neg c2] at A2;have d2:decide ((n:Int) - (a1:Int)≤(a1:Int))=false:=by simp;omega
     have B2:Hid (aa=a1+a1):=A2;clear A2;go_wp2_with fail;exact ⟨⟨aa,b1/2,r1,m2,by omega,hr1,H3,Qbb (by have:=B2.out;omega),by go_num,rfl⟩,by simp [intOf];omega⟩
theorem Qmg (a e n:Nat) (w:World) (ha:a<n) (hn2:2≤n) (he:e<18446744073709551616) (hn:n<18446744073709551616) :
  Calls Tryz.prog 131 #[.int .u64 a,.int .u64 e,.int .u64 n] w fun en w'=>en=.returned (.int .u64 (Qey a e n:Nat))/\w'=w:=by
 have H0:Hid (1*a^e%n=Qey a e n):=by show _ = _;rw [Nat.one_mul];rfl
 generalize hR:Qey a e n=R at *;clear hR;have one:Hid ((1:Int)%(n:Int)=1):=Int.emod_eq_of_lt (by omega) (by omega);go_enter Tryz.func131,Tryz.ntmps131;go_wp2_with fail
 go_loopw [0,1,7] (fun a e r W=>∃a' e' r':Nat,a'<n/\e'<18446744073709551616/\r'<n/\Hid (r'*a'^e'%n=R)/\a=.int .u64 a'/\e=.int .u64 e'/\r=.int .u64 r'/\W=w) (fun _ e _ _=>(intOf e).toNat)
 case atStart=>exact ⟨a,e,1,ha,he,by omega,H0,rfl,rfl,Qbb one.out,rfl⟩
 case round=>
  obtain ⟨a1,e1,r1,ha1,he1,hr1,H1,rfl,rfl,rfl,rfl⟩:=hrel;clear H0
  by_cases hz:e1=0
  ·subst hz
   have H2:Hid (r1=R):=by
    have:=H1.out;rw [Nat.pow_zero,Nat.mul_one,Nat.mod_eq_of_lt hr1] at this;exact this
   go_wp2_with fail;go_ret;exact ⟨by rw [<- H2.out];rfl,rfl⟩
  ·have csq:=fun W=>Qc7 a1 a1 n W ha1 (by omega) hn
   have cra:=fun W=>Qc7 r1 a1 n W hr1 (by omega) hn
   have An:=and_one_u64 (e1:Int) (by omega) (by omega);have m1:r1*a1%n<n:=Nat.mod_lt _ (by omega);have m2:a1*a1%n<n:=Nat.mod_lt _ (by omega);generalize hg1:r1*a1%n=ra at *;generalize hg2:a1*a1%n=aa at *
   by_cases ho:e1%2=1
   ·have H3:Hid (ra*aa^(e1/2)%n=R):=by show _ = _;rw [← H1.out,← hg1,← hg2];exact Qjl r1 a1 e1 n ho
    clear hg1 hg2;have hb:(bits BinOp.and IntKind.u64 (e1:Int) 1==1)=true:=by rw [An];simp;omega
    clear ho An;go_wp2_with fail;refine (cra _).mono ?_
    rintro en w' ⟨rfl,rfl⟩;go_wp2_with fail;refine (csq _).mono ?_
    rintro en w' ⟨rfl,rfl⟩;go_wp2_with fail
    go_roundw
    case rel=>exact ⟨aa,e1/2,ra,m2,by omega,m1,H3,rfl,by go_num,rfl,True.intro⟩
    case measure=>simp [intOf];omega
   ·have H3:Hid (r1*aa^(e1/2)%n=R):=by show _ = _;rw [← H1.out,← hg2];exact Qgs r1 a1 e1 n (by omega)
    clear hg1 hg2;have hb:(bits BinOp.and IntKind.u64 (e1:Int) 1==1)=false:=by rw [An];simp;omega
    clear ho An;go_wp2_with fail;refine (csq _).mono ?_
    rintro en w' ⟨rfl,rfl⟩;go_wp2_with fail
    go_roundw
    case rel=>exact ⟨aa,e1/2,r1,m2,by omega,hr1,H3,rfl,by go_num,rfl,True.intro⟩
    case measure=>simp [intOf];omega
def PR (n:Nat):Prop:=∀(x y:Nat) (W:World),x<n->y<n->Calls Tryz.prog 149 #[.int .u64 n,.int .u64 x,.int .u64 y] W fun e w'=>e=.returned (.int .u64 ((x*y%n:Nat):Int))/\∃k,w'=W.drewN k
theorem Qg5 (p a e:Nat) (pr:PR p) (hp:2≤p) (ha:a<p) (he:e<18446744073709551616) (w:World) :
  Calls Tryz.prog 148 #[.iface 180 (.int .u64 p),.int .u64 a,.int .u64 e] w fun en w'=>en=.returned (.int .u64 (Qey a e p:Nat))/\∃n,w'=w.drewN n:=by
 have H0:Hid (1*a^e%p=Qey a e p):=by show _ = _;rw [Nat.one_mul];rfl
 generalize hR:Qey a e p=R at *;clear hR;have PH:Hid (PR p):=pr;clear pr;go_enter Tryz.func148,Tryz.ntmps148;go_wp2_with fail
 go_loopw [1,2,7] (fun a e r W=>∃a' e' r' n:Nat,a'<p/\e'<18446744073709551616/\r'<p/\Hid (r'*a'^e'%p=R)/\a=.int .u64 a'/\e=.int .u64 e'/\r=.int .u64 r'/\W=w.drewN n) (fun _ e _ _=>(intOf e).toNat)
 case atStart=>exact ⟨a,e,1,0,ha,he,by omega,H0,rfl,rfl,rfl,rfl⟩
 case round=>
  obtain ⟨a1,e1,r1,n1,ha1,he1,hr1,H1,rfl,rfl,rfl,rfl⟩:=hrel;clear H0
  by_cases hz:e1=0
  ·subst hz
   have H2:Hid (r1=R):=by
    have:=H1.out;rw [Nat.pow_zero,Nat.mul_one,Nat.mod_eq_of_lt hr1] at this;exact this
   go_wp2_with fail;go_ret;exact ⟨by rw [<- H2.out];rfl,n1,rfl⟩
  ·have csq:=fun W=>PH.out a1 a1 W ha1 ha1
   have cra:=fun W=>PH.out r1 a1 W hr1 ha1
   have m1:r1*a1%p<p:=Nat.mod_lt _ (by omega);have m2:a1*a1%p<p:=Nat.mod_lt _ (by omega);generalize hg1:r1*a1%p=ra at *;generalize hg2:a1*a1%p=aa at *
   by_cases ho:e1%2=1
   ·have H3:Hid (ra*aa^(e1/2)%p=R):=by show _ = _;rw [← H1.out,← hg1,← hg2];exact Qjl r1 a1 e1 p ho
    clear hg1 hg2;have hb:((e1:Int)%2==1)=true:=by simp;omega
    clear ho;go_wp2_with fail;refine (cra _).mono ?_
    rintro en w' ⟨rfl,n2,rfl⟩;go_wp2_with fail;refine (csq _).mono ?_
    rintro en w' ⟨rfl,n3,rfl⟩;go_wp2_with fail
    go_roundw
    case rel=>exact ⟨aa,e1/2,ra,_,m2,by omega,m1,H3,rfl,by go_num,rfl,rfl⟩
    case measure=>simp [intOf];omega
   ·have H3:Hid (r1*aa^(e1/2)%p=R):=by show _ = _;rw [← H1.out,← hg2];exact Qgs r1 a1 e1 p (by omega)
    clear hg1 hg2;have hb:((e1:Int)%2==1)=false:=by simp;omega
    clear ho;go_wp2_with fail;refine (csq _).mono ?_
    rintro en w' ⟨rfl,n3,rfl⟩;go_wp2_with fail
    go_roundw
    case rel=>exact ⟨aa,e1/2,r1,_,m2,by omega,hr1,H3,rfl,by go_num,rfl,rfl⟩
    case measure=>simp [intOf];omega
def Qbq (w:World):Prop:=∀j,j<64->w.cell? ⟨1,j,none⟩=some (.int .u8 (Lib.deBruijn64tab.getD j 0))
theorem Qwo (x k idx:Nat) (w:World) (hx0:((x:Int)==0)=false)
  (key:IntKind.u64.wrap (bits BinOp.and IntKind.u64 (x:Int) (IntKind.u64.wrap (-(x:Int)))*285870213051353865)/288230376151711744=(idx:Int))
  (hi:idx<64) (hk:k<64) (hcell:w.cell? ⟨1,idx,none⟩=some (.int .u8 k)) :
  Calls Tryz.prog 147 #[.int .u64 x] w fun e w'=>e=.returned (.int .i64 k)/\w'=w:=by
 go_enter Tryz.func147,Tryz.ntmps147;go_wp2_with (simp only [key]);go_ret;exact ⟨rfl,rfl⟩
theorem Qyo (x a:Nat) (hx:x<18446744073709551616) (hx0:x≠0) (hlow:x &&& (18446744073709551616 - x)=a) :
  IntKind.u64.wrap (bits BinOp.and IntKind.u64 (x:Int) (IntKind.u64.wrap (-(x:Int)))*285870213051353865)/288230376151711744=((a*285870213051353865%18446744073709551616/288230376151711744:Nat):Int):=by
 have e1:IntKind.u64.wrap (-(x:Int))=((18446744073709551616 - x:Nat):Int):=by rw [IntKind.wrap_u64];omega
 rw [e1,bits_and_u64_nat x _ hx (by omega),hlow,IntKind.wrap_u64];omega
theorem Qwp (x:Nat) (hx:x<18446744073709551616) (hx0:x≠0) (w:World) (hT:Qbq w) :
  Calls Tryz.prog 147 #[.int .u64 x] w fun e w'=>e=.returned (.int .i64 (Lib.ctz 64 x))/\w'=w:=by
 obtain ⟨hlow,hk⟩:=Lib.lowest_bit 64 x hx0 hx;obtain ⟨hi,htab⟩:=Lib.deBruijn64_at _ hk;have hcell:=hT _ hi;rw [htab] at hcell;exact Qwo x _ _ w (by simp;omega) (Qyo x _ hx hx0 hlow) hi hk hcell
def sqs (n:Nat):Nat->Nat->Bool
 | 0,_=>false
 | k+1,x=>x==n - 1||sqs n k (x*x%n)
def Qcj (n a:Nat):Bool:=Qey a ((n - 1)/2^Lib.ctz 64 (n - 1)) n==1||sqs n (Lib.ctz 64 (n - 1)) (Qey a ((n - 1)/2^Lib.ctz 64 (n - 1)) n)
theorem Qmh (n a s d x0:Nat) (w:World) (hn:3≤n) (hn':n<18446744073709551616) (ha:a<n) (hs:s<64) (hx0:x0<n) (hd:(n - 1)/2^s=d)
  (ct:∀W,Hid (Qbq W)->Calls Tryz.prog 147 #[.int .u64 (n - 1:Nat)] W fun e w'=>e=.returned (.int .i64 s)/\w'=W) (hT:Qbq w)
  (cp:∀W,Calls Tryz.prog 148 #[.iface 180 (.int .u64 n),.int .u64 a,.int .u64 d] W fun en w'=>en=.returned (.int .u64 x0)/\∃k,w'=W.drewN k) (pr:PR n) :
  Calls Tryz.prog 141 #[.int .u64 n,.int .u64 a] w fun e w'=>e=.returned (.bool (x0==1||sqs n s x0))/\∃k,w'=w.drewN k:=by
 have PH:Hid (PR n):=pr;have HT:Hid (Qbq w):=hT;clear pr hT;have e1:((n - 1:Nat):Int)=(n:Int) - 1:=by omega
 rw [e1] at ct;have HD:Hid (((n:Int) - 1)/2^s=(d:Int)):=by show _ = _;rw [<- hd,<- e1];simp
 clear hd e1
 by_cases h1:x0=1
 ·subst h1;have HB:Hid ((1==1||sqs n s 1)=true):=by show _ = _;simp
  generalize (1==1||sqs n s 1)=B at *;go_enter Tryz.func141,Tryz.ntmps141;go_wp2_with fail;refine (ct _ HT).mono ?_
  rintro e w' ⟨rfl,rfl⟩;go_wp2_with fail;rw [HD.out];refine (cp _).mono ?_
  rintro e w' ⟨rfl,k0,rfl⟩;go_wp2_with fail;go_ret;exact ⟨by rw [HB.out];rfl,k0,rfl⟩
 ·have hb1:((x0:Int)==1)=false:=by simp;omega
  have HB:Hid ((x0==1||sqs n s x0)=sqs n s x0):=by show _ = _;simp [h1]
  generalize (x0==1||sqs n s x0)=B at *;have H0:Hid (sqs n (s - 0) x0=B):=by show _ = _;rw [HB.out];rfl
  clear HB;go_enter Tryz.func141,Tryz.ntmps141;go_wp2_with fail;refine (ct _ HT).mono ?_
  rintro e w' ⟨rfl,rfl⟩;go_wp2_with fail;rw [HD.out];refine (cp _).mono ?_
  rintro e w2 ⟨rfl,k0,rfl⟩;go_wp2_with fail
  go_loopw [7,24] (fun x k W=>∃x' k' m:Nat,x'<n/\k'<=s/\Hid (sqs n (s - k') x'=B)/\x=.int .u64 x'/\k=.int .i64 k'/\W=w'.drewN m) (fun _ k _=>s - (intOf k).toNat)
  case atStart=>exact ⟨x0,0,k0,hx0,by omega,H0,rfl,rfl,rfl⟩
  case round=>
   obtain ⟨x,k,m,hx,hk,H1,rfl,rfl,rfl⟩:=hrel;clear H0 cp ct
   by_cases hlt:k<s
   ·have hstep:sqs n (s - k) x=(x==n - 1||sqs n (s - (k+1)) (x*x%n)):=by
     rw [show s - k=(s - (k+1))+1 by omega];rfl
    have H1':=H1.out;rw [hstep] at H1'
    by_cases he:x=n - 1
    ·have HB:Hid (true=B):=by show _ = _;rw [← H1'];simp [he]
     clear H1' hstep H1;have hbe:((x:Int)==(n:Int) - 1)=true:=by simp;omega
     go_wp2_with fail;go_ret;exact ⟨by rw [<- HB.out];rfl,m,rfl⟩
    ·have hne:(x==n - 1)=false:=by simpa using he
     rw [hne,Bool.false_or] at H1';have cs:=fun W=>PH.out x x W hx hx
     have mx:x*x%n<n:=Nat.mod_lt _ (by omega);generalize x*x%n=xx at *;have H2:Hid (sqs n (s - (k+1)) xx=B):=H1';clear H1' hstep hne H1;have hbe:((x:Int)==(n:Int) - 1)=false:=by simp;omega
     go_wp2_with fail;refine (cs _).mono ?_
     rintro e w3 ⟨rfl,k3,rfl⟩;go_wp2_with fail
     go_roundw
     case rel=>exact ⟨xx,k+1,_,mx,by omega,H2,rfl,by go_num,rfl⟩
     case measure=>simp [intOf];omega
   ·have hdk:decide ((k:Int)<(s:Int))=false:=by simp;omega
    obtain rfl:k=s:=by omega
    have HB:Hid (false=B):=by
     have:=H1.out;rw [Nat.sub_self] at this;exact this
    clear H1;go_wp2_with fail;go_ret;exact ⟨by rw [<- HB.out];rfl,m,rfl⟩
theorem Qbg (n a:Nat) (w:World) (pr:PR n) (hT:Qbq w) (hn:3≤n) (hn':n<18446744073709551616) (ha:a<n) :
  Calls Tryz.prog 141 #[.int .u64 n,.int .u64 a] w fun e w'=>e=.returned (.bool (Qcj n a))/\∃k,w'=w.drewN k:=by
 have hk:=(Lib.lowest_bit 64 (n - 1) (by omega) (by omega)).2;have hle:(n - 1)/2^Lib.ctz 64 (n - 1)<=n - 1:=Nat.div_le_self _ _;exact Qmh n a _ _ _ w hn hn' ha hk (Qjm _ _ _ (by omega)) rfl (fun W h=>Qwp (n - 1) (by omega) (by omega) W h.out) hT (fun W=>Qg5 n a _ pr (by omega) ha (by omega) W) pr
def Qak:List Nat:=[2,3,5,7,11,13,17,19,23,29,31,37]
def wit (n:Nat):List Nat->Bool
 | []=>true
 | a :: r=>Qcj n a&&wit n r
def fnd (n:Nat):List Nat->Bool
 | []=>wit n Qak
 | p :: r=>if n%p=0 then n==p else fnd n r
def isP (n:Nat):Bool:=if n<2 then false else fnd n Qak
theorem above:∀n,n<41->2<=n->∃p,p∈Qak/\n%p=0:=by decide
theorem Qtx (n:Nat) (h2:2<=n) (h:∀p,p∈Qak->n%p≠0):41<=n:=by
 by_cases h41:n<41
 ·obtain ⟨p,hp,hd⟩:=above n h41 h2;exact absurd hd (h p hp)
 ·omega
def Qeu (w:World):Prop:=∀j,j<12->w.cell? ⟨0,j,none⟩=some (.int .u64 (Qak.getD j 0))
theorem twelve (k:Nat) (h:k<12):k=0∨k=1∨k=2∨k=3∨k=4∨k=5∨k=6∨k=7∨k=8∨k=9∨k=10∨k=11:=by omega
structure St (n k:Nat) (B:Bool):Prop where
 eq:fnd n (Qak.drop k)=B
 no:∀p,p∈Qak.take k->n%p≠0
theorem St.start (n:Nat) (h:¬n<2):St n 0 (isP n):=⟨by unfold isP;rw [if_neg h];rfl,by simp⟩
theorem St.next {n k p:Nat} {B:Bool} (h:St n k B) (hk:Qak.drop k=p :: Qak.drop (k+1)) (ht:Qak.take (k+1)=Qak.take k++[p]) (hm:n%p≠0):St n (k+1) B:=by
 refine ⟨?_,?_⟩
 ·rw [<- h.eq,hk,fnd,if_neg hm]
 ·intro q hq;rw [ht] at hq;rcases List.mem_append.1 hq with hq | hq
  ·exact h.no q hq
  ·rw [List.mem_singleton.1 hq];exact hm
theorem St.hit {n k p:Nat} {B:Bool} (h:St n k B) (hk:Qak.drop k=p :: Qak.drop (k+1)) (hm:n%p=0):B=(n==p):=by
 rw [<- h.eq,hk,fnd,if_pos hm]
theorem St.fin {n:Nat} {B:Bool} (h:St n 12 B) (h2:2<=n):wit n (Qak.drop 0)=B/\41<=n:=⟨by rw [<- h.eq];rfl,Qtx n h2 h.no⟩
theorem Qb5 (n k p:Nat) (hk:Qak.drop k=p :: Qak.drop (k+1)):wit n (Qak.drop k)=(Qcj n p&&wit n (Qak.drop (k+1))):=by rw [hk,wit]
theorem ix0 (W:World):(Instr.index 174 (.agg #[.int .u64 2,.int .u64 3,.int .u64 5,.int .u64 7,.int .u64 11,.int .u64 13,.int .u64 17,.int .u64 19,.int .u64 23,.int .u64 29,.int .u64 31,.int .u64 37]) (.int .i64 0)).run Tryz.prog W=.ok (.int .u64 2) W:=by kernel_rfl
theorem ix1 (W:World):(Instr.index 174 (.agg #[.int .u64 2,.int .u64 3,.int .u64 5,.int .u64 7,.int .u64 11,.int .u64 13,.int .u64 17,.int .u64 19,.int .u64 23,.int .u64 29,.int .u64 31,.int .u64 37]) (.int .i64 1)).run Tryz.prog W=.ok (.int .u64 3) W:=by kernel_rfl
theorem ix2 (W:World):(Instr.index 174 (.agg #[.int .u64 2,.int .u64 3,.int .u64 5,.int .u64 7,.int .u64 11,.int .u64 13,.int .u64 17,.int .u64 19,.int .u64 23,.int .u64 29,.int .u64 31,.int .u64 37]) (.int .i64 2)).run Tryz.prog W=.ok (.int .u64 5) W:=by kernel_rfl
theorem ix3 (W:World):(Instr.index 174 (.agg #[.int .u64 2,.int .u64 3,.int .u64 5,.int .u64 7,.int .u64 11,.int .u64 13,.int .u64 17,.int .u64 19,.int .u64 23,.int .u64 29,.int .u64 31,.int .u64 37]) (.int .i64 3)).run Tryz.prog W=.ok (.int .u64 7) W:=by kernel_rfl
theorem ix4 (W:World):(Instr.index 174 (.agg #[.int .u64 2,.int .u64 3,.int .u64 5,.int .u64 7,.int .u64 11,.int .u64 13,.int .u64 17,.int .u64 19,.int .u64 23,.int .u64 29,.int .u64 31,.int .u64 37]) (.int .i64 4)).run Tryz.prog W=.ok (.int .u64 11) W:=by kernel_rfl
theorem ix5 (W:World):(Instr.index 174 (.agg #[.int .u64 2,.int .u64 3,.int .u64 5,.int .u64 7,.int .u64 11,.int .u64 13,.int .u64 17,.int .u64 19,.int .u64 23,.int .u64 29,.int .u64 31,.int .u64 37]) (.int .i64 5)).run Tryz.prog W=.ok (.int .u64 13) W:=by kernel_rfl
theorem ix6 (W:World):(Instr.index 174 (.agg #[.int .u64 2,.int .u64 3,.int .u64 5,.int .u64 7,.int .u64 11,.int .u64 13,.int .u64 17,.int .u64 19,.int .u64 23,.int .u64 29,.int .u64 31,.int .u64 37]) (.int .i64 6)).run Tryz.prog W=.ok (.int .u64 17) W:=by kernel_rfl
theorem ix7 (W:World):(Instr.index 174 (.agg #[.int .u64 2,.int .u64 3,.int .u64 5,.int .u64 7,.int .u64 11,.int .u64 13,.int .u64 17,.int .u64 19,.int .u64 23,.int .u64 29,.int .u64 31,.int .u64 37]) (.int .i64 7)).run Tryz.prog W=.ok (.int .u64 19) W:=by kernel_rfl
theorem ix8 (W:World):(Instr.index 174 (.agg #[.int .u64 2,.int .u64 3,.int .u64 5,.int .u64 7,.int .u64 11,.int .u64 13,.int .u64 17,.int .u64 19,.int .u64 23,.int .u64 29,.int .u64 31,.int .u64 37]) (.int .i64 8)).run Tryz.prog W=.ok (.int .u64 23) W:=by kernel_rfl
theorem ix9 (W:World):(Instr.index 174 (.agg #[.int .u64 2,.int .u64 3,.int .u64 5,.int .u64 7,.int .u64 11,.int .u64 13,.int .u64 17,.int .u64 19,.int .u64 23,.int .u64 29,.int .u64 31,.int .u64 37]) (.int .i64 9)).run Tryz.prog W=.ok (.int .u64 29) W:=by kernel_rfl
theorem Q0i (W:World):(Instr.index 174 (.agg #[.int .u64 2,.int .u64 3,.int .u64 5,.int .u64 7,.int .u64 11,.int .u64 13,.int .u64 17,.int .u64 19,.int .u64 23,.int .u64 29,.int .u64 31,.int .u64 37]) (.int .i64 10)).run Tryz.prog W=.ok (.int .u64 31) W:=by kernel_rfl
theorem Q0j (W:World):(Instr.index 174 (.agg #[.int .u64 2,.int .u64 3,.int .u64 5,.int .u64 7,.int .u64 11,.int .u64 13,.int .u64 17,.int .u64 19,.int .u64 23,.int .u64 29,.int .u64 31,.int .u64 37]) (.int .i64 11)).run Tryz.prog W=.ok (.int .u64 37) W:=by kernel_rfl
theorem Qav {a b:Bool} (h:a=b):Ending.returned (.bool a)=.returned (.bool b):=by rw [h]
theorem Qo2 (n:Nat) (w:World) (B:Bool) (h2:2≤n) (hn:n<18446744073709551616) (hP:Qeu w) (hT:Qbq w) (S0:St n 0 B) (pr:PR n) :
  Calls Tryz.prog 133 #[.int .u64 n] w fun e w'=>e=.returned (.bool B)/\∃k,w'=w.drewN k:=by
 have p0:w.cell? ⟨0,0,none⟩=some (.int .u64 2):=hP 0 (by decide)
 have p1:w.cell? ⟨0,1,none⟩=some (.int .u64 3):=hP 1 (by decide)
 have p2:w.cell? ⟨0,2,none⟩=some (.int .u64 5):=hP 2 (by decide)
 have p3:w.cell? ⟨0,3,none⟩=some (.int .u64 7):=hP 3 (by decide)
 have p4:w.cell? ⟨0,4,none⟩=some (.int .u64 11):=hP 4 (by decide)
 have p5:w.cell? ⟨0,5,none⟩=some (.int .u64 13):=hP 5 (by decide)
 have p6:w.cell? ⟨0,6,none⟩=some (.int .u64 17):=hP 6 (by decide)
 have p7:w.cell? ⟨0,7,none⟩=some (.int .u64 19):=hP 7 (by decide)
 have p8:w.cell? ⟨0,8,none⟩=some (.int .u64 23):=hP 8 (by decide)
 have p9:w.cell? ⟨0,9,none⟩=some (.int .u64 29):=hP 9 (by decide)
 have p10:w.cell? ⟨0,10,none⟩=some (.int .u64 31):=hP 10 (by decide)
 have p11:w.cell? ⟨0,11,none⟩=some (.int .u64 37):=hP 11 (by decide)
 clear hP;have hd2:decide ((n:Int)<2)=false:=by simp;omega
 have HS:Hid (St n 0 B):=S0;have HT:Hid (Qbq w):=hT;have PH:Hid (PR n):=pr;clear S0 hT pr;go_enter Tryz.func133,Tryz.ntmps133;go_wp2_with fail
 go_loop [10] (fun k=>∃k':Nat,k'<=12/\Hid (St n k' B)/\k=.int .i64 k') (fun k=>12 - (intOf k).toNat)
 case atStart=>exact ⟨0,by omega,HS,rfl⟩
 case round=>
  obtain ⟨k,hk,H1,rfl⟩:=hrel;clear HS
  by_cases hlt:k<12
  ·have hdk:decide ((k:Int)<12)=true:=by simp;omega
   rcases twelve k hlt with rfl | rfl | rfl | rfl | rfl | rfl | rfl | rfl | rfl | rfl | rfl | rfl
   ·have ix:=ix0
    by_cases hm:n%2=0
    ·have HB:Hid ((n==2)=B):=(H1.out.hit (p:=2) rfl hm).symm;have hbm:((n:Int)%2==0)=true:=by simp;omega
     have hbe:((n:Int)==2)=(n==2):=by rw [Bool.eq_iff_iff];simp;omega
     clear hm;go_wp2_with fail;go_ret;exact ⟨Qav HB.out,0,rfl⟩
    ·have H2:Hid (St n 1 B):=H1.out.next (p:=2) rfl rfl hm;have hbm:((n:Int)%2==0)=false:=by simp;omega
     clear hm H1;go_wp2_with fail;exact ⟨⟨1,by omega,H2,rfl⟩,by simp [intOf]⟩
   ·have ix:=ix1
    by_cases hm:n%3=0
    ·have HB:Hid ((n==3)=B):=(H1.out.hit (p:=3) rfl hm).symm;have hbm:((n:Int)%3==0)=true:=by simp;omega
     have hbe:((n:Int)==3)=(n==3):=by rw [Bool.eq_iff_iff];simp;omega
     clear hm;go_wp2_with fail;go_ret;exact ⟨Qav HB.out,0,rfl⟩
    ·have H2:Hid (St n 2 B):=H1.out.next (p:=3) rfl rfl hm;have hbm:((n:Int)%3==0)=false:=by simp;omega
     clear hm H1;go_wp2_with fail;exact ⟨⟨2,by omega,H2,rfl⟩,by simp [intOf]⟩
   ·have ix:=ix2
    by_cases hm:n%5=0
    ·have HB:Hid ((n==5)=B):=(H1.out.hit (p:=5) rfl hm).symm;have hbm:((n:Int)%5==0)=true:=by simp;omega
     have hbe:((n:Int)==5)=(n==5):=by rw [Bool.eq_iff_iff];simp;omega
     clear hm;go_wp2_with fail;go_ret;exact ⟨Qav HB.out,0,rfl⟩
    ·have H2:Hid (St n 3 B):=H1.out.next (p:=5) rfl rfl hm;have hbm:((n:Int)%5==0)=false:=by simp;omega
     clear hm H1;go_wp2_with fail;exact ⟨⟨3,by omega,H2,rfl⟩,by simp [intOf]⟩
   ·have ix:=ix3
    by_cases hm:n%7=0
    ·have HB:Hid ((n==7)=B):=(H1.out.hit (p:=7) rfl hm).symm;have hbm:((n:Int)%7==0)=true:=by simp;omega
     have hbe:((n:Int)==7)=(n==7):=by rw [Bool.eq_iff_iff];simp;omega
     clear hm;go_wp2_with fail;go_ret;exact ⟨Qav HB.out,0,rfl⟩
    ·have H2:Hid (St n 4 B):=H1.out.next (p:=7) rfl rfl hm;have hbm:((n:Int)%7==0)=false:=by simp;omega
     clear hm H1;go_wp2_with fail;exact ⟨⟨4,by omega,H2,rfl⟩,by simp [intOf]⟩
   ·have ix:=ix4
    by_cases hm:n%11=0
    ·have HB:Hid ((n==11)=B):=(H1.out.hit (p:=11) rfl hm).symm;have hbm:((n:Int)%11==0)=true:=by simp;omega
     have hbe:((n:Int)==11)=(n==11):=by rw [Bool.eq_iff_iff];simp;omega
     clear hm;go_wp2_with fail;go_ret;exact ⟨Qav HB.out,0,rfl⟩
    ·have H2:Hid (St n 5 B):=H1.out.next (p:=11) rfl rfl hm;have hbm:((n:Int)%11==0)=false:=by simp;omega
     clear hm H1;go_wp2_with fail;exact ⟨⟨5,by omega,H2,rfl⟩,by simp [intOf]⟩
   ·have ix:=ix5
    by_cases hm:n%13=0
    ·have HB:Hid ((n==13)=B):=(H1.out.hit (p:=13) rfl hm).symm;have hbm:((n:Int)%13==0)=true:=by simp;omega
     have hbe:((n:Int)==13)=(n==13):=by rw [Bool.eq_iff_iff];simp;omega
     clear hm;go_wp2_with fail;go_ret;exact ⟨Qav HB.out,0,rfl⟩
    ·have H2:Hid (St n 6 B):=H1.out.next (p:=13) rfl rfl hm;have hbm:((n:Int)%13==0)=false:=by simp;omega
     clear hm H1;go_wp2_with fail;exact ⟨⟨6,by omega,H2,rfl⟩,by simp [intOf]⟩
   ·have ix:=ix6
    by_cases hm:n%17=0
    ·have HB:Hid ((n==17)=B):=(H1.out.hit (p:=17) rfl hm).symm;have hbm:((n:Int)%17==0)=true:=by simp;omega
     have hbe:((n:Int)==17)=(n==17):=by rw [Bool.eq_iff_iff];simp;omega
     clear hm;go_wp2_with fail;go_ret;exact ⟨Qav HB.out,0,rfl⟩
    ·have H2:Hid (St n 7 B):=H1.out.next (p:=17) rfl rfl hm;have hbm:((n:Int)%17==0)=false:=by simp;omega
     clear hm H1;go_wp2_with fail;exact ⟨⟨7,by omega,H2,rfl⟩,by simp [intOf]⟩
   ·have ix:=ix7
    by_cases hm:n%19=0
    ·have HB:Hid ((n==19)=B):=(H1.out.hit (p:=19) rfl hm).symm;have hbm:((n:Int)%19==0)=true:=by simp;omega
     have hbe:((n:Int)==19)=(n==19):=by rw [Bool.eq_iff_iff];simp;omega
     clear hm;go_wp2_with fail;go_ret;exact ⟨Qav HB.out,0,rfl⟩
    ·have H2:Hid (St n 8 B):=H1.out.next (p:=19) rfl rfl hm;have hbm:((n:Int)%19==0)=false:=by simp;omega
     clear hm H1;go_wp2_with fail;exact ⟨⟨8,by omega,H2,rfl⟩,by simp [intOf]⟩
   ·have ix:=ix8
    by_cases hm:n%23=0
    ·have HB:Hid ((n==23)=B):=(H1.out.hit (p:=23) rfl hm).symm;have hbm:((n:Int)%23==0)=true:=by simp;omega
     have hbe:((n:Int)==23)=(n==23):=by rw [Bool.eq_iff_iff];simp;omega
     clear hm;go_wp2_with fail;go_ret;exact ⟨Qav HB.out,0,rfl⟩
    ·have H2:Hid (St n 9 B):=H1.out.next (p:=23) rfl rfl hm;have hbm:((n:Int)%23==0)=false:=by simp;omega
     clear hm H1;go_wp2_with fail;exact ⟨⟨9,by omega,H2,rfl⟩,by simp [intOf]⟩
   ·have ix:=ix9
    by_cases hm:n%29=0
    ·have HB:Hid ((n==29)=B):=(H1.out.hit (p:=29) rfl hm).symm;have hbm:((n:Int)%29==0)=true:=by simp;omega
     have hbe:((n:Int)==29)=(n==29):=by rw [Bool.eq_iff_iff];simp;omega
     clear hm;go_wp2_with fail;go_ret;exact ⟨Qav HB.out,0,rfl⟩
    ·have H2:Hid (St n 10 B):=H1.out.next (p:=29) rfl rfl hm;have hbm:((n:Int)%29==0)=false:=by simp;omega
     clear hm H1;go_wp2_with fail;exact ⟨⟨10,by omega,H2,rfl⟩,by simp [intOf]⟩
   ·have ix:=Q0i
    by_cases hm:n%31=0
    ·have HB:Hid ((n==31)=B):=(H1.out.hit (p:=31) rfl hm).symm;have hbm:((n:Int)%31==0)=true:=by simp;omega
     have hbe:((n:Int)==31)=(n==31):=by rw [Bool.eq_iff_iff];simp;omega
     clear hm;go_wp2_with fail;go_ret;exact ⟨Qav HB.out,0,rfl⟩
    ·have H2:Hid (St n 11 B):=H1.out.next (p:=31) rfl rfl hm;have hbm:((n:Int)%31==0)=false:=by simp;omega
     clear hm H1;go_wp2_with fail;exact ⟨⟨11,by omega,H2,rfl⟩,by simp [intOf]⟩
   ·have ix:=Q0j
    by_cases hm:n%37=0
    ·have HB:Hid ((n==37)=B):=(H1.out.hit (p:=37) rfl hm).symm;have hbm:((n:Int)%37==0)=true:=by simp;omega
     have hbe:((n:Int)==37)=(n==37):=by rw [Bool.eq_iff_iff];simp;omega
     clear hm;go_wp2_with fail;go_ret;exact ⟨Qav HB.out,0,rfl⟩
    ·have H2:Hid (St n 12 B):=H1.out.next (p:=37) rfl rfl hm;have hbm:((n:Int)%37==0)=false:=by simp;omega
     clear hm H1;go_wp2_with fail;exact ⟨⟨12,by omega,H2,rfl⟩,by simp [intOf]⟩
  ·have hdk:decide ((k:Int)<12)=false:=by simp;omega
   obtain rfl:k=12:=by omega
   obtain ⟨hw0,h41⟩:=H1.out.fin h2;have H3:Hid (wit n (Qak.drop 0)=B):=hw0;clear H1 hw0;go_wp2_with fail
   go_loopw [22] (fun k W=>∃k' m:Nat,k'<=12/\Hid (wit n (Qak.drop k')=B)/\k=.int .i64 k'/\W=w.drewN m) (fun k _=>12 - (intOf k).toNat)
   case atStart=>exact ⟨0,0,by omega,H3,rfl,rfl⟩
   case round=>
    obtain ⟨k,m,hk2,H4,rfl,rfl⟩:=hrel;clear H3
    by_cases hlt2:k<12
    ·have hdk2:decide ((k:Int)<12)=true:=by simp;omega
     rcases twelve k hlt2 with rfl | rfl | rfl | rfl | rfl | rfl | rfl | rfl | rfl | rfl | rfl | rfl
     ·have ix:=ix0;have hw:wit n (Qak.drop 0)=(Qcj n 2&&wit n (Qak.drop 1)):=Qb5 n 0 2 rfl;have H4':=H4.out;rw [hw] at H4';have cp:=fun W (h:Hid (Qbq W))=>Qbg n 2 W PH.out h.out (by omega) hn (by omega)
      cases hp:Qcj n 2
      ·have HB:Hid (false=B):=by show _ = _;rw [← H4',hp];rfl
       rw [hp] at cp;clear H4' hw H4 hp;go_wp2_with fail;refine (cp _ (show Hid (Qbq (w.drewN m)) from HT.out)).mono ?_
       rintro e w3 ⟨rfl,k3,rfl⟩;go_wp2_with fail;go_ret;exact ⟨Qav HB.out,_,rfl⟩
      ·have H5:Hid (wit n (Qak.drop 1)=B):=by show _ = _;rw [← H4',hp];rfl
       rw [hp] at cp;clear H4' hw H4 hp;go_wp2_with fail;refine (cp _ (show Hid (Qbq (w.drewN m)) from HT.out)).mono ?_
       rintro e w3 ⟨rfl,k3,rfl⟩;go_wp2_with fail
       go_roundw
       case rel=>exact ⟨1,_,by omega,H5,rfl,rfl⟩
       case measure=>simp [intOf]
     ·have ix:=ix1;have hw:wit n (Qak.drop 1)=(Qcj n 3&&wit n (Qak.drop 2)):=Qb5 n 1 3 rfl;have H4':=H4.out;rw [hw] at H4';have cp:=fun W (h:Hid (Qbq W))=>Qbg n 3 W PH.out h.out (by omega) hn (by omega)
      cases hp:Qcj n 3
      ·have HB:Hid (false=B):=by show _ = _;rw [← H4',hp];rfl
       rw [hp] at cp;clear H4' hw H4 hp;go_wp2_with fail;refine (cp _ (show Hid (Qbq (w.drewN m)) from HT.out)).mono ?_
       rintro e w3 ⟨rfl,k3,rfl⟩;go_wp2_with fail;go_ret;exact ⟨Qav HB.out,_,rfl⟩
      ·have H5:Hid (wit n (Qak.drop 2)=B):=by show _ = _;rw [← H4',hp];rfl
       rw [hp] at cp;clear H4' hw H4 hp;go_wp2_with fail;refine (cp _ (show Hid (Qbq (w.drewN m)) from HT.out)).mono ?_
       rintro e w3 ⟨rfl,k3,rfl⟩;go_wp2_with fail
       go_roundw
       case rel=>exact ⟨2,_,by omega,H5,rfl,rfl⟩
       case measure=>simp [intOf]
     ·have ix:=ix2;have hw:wit n (Qak.drop 2)=(Qcj n 5&&wit n (Qak.drop 3)):=Qb5 n 2 5 rfl;have H4':=H4.out;rw [hw] at H4';have cp:=fun W (h:Hid (Qbq W))=>Qbg n 5 W PH.out h.out (by omega) hn (by omega)
      cases hp:Qcj n 5
      ·have HB:Hid (false=B):=by show _ = _;rw [← H4',hp];rfl
       rw [hp] at cp;clear H4' hw H4 hp;go_wp2_with fail;refine (cp _ (show Hid (Qbq (w.drewN m)) from HT.out)).mono ?_
       rintro e w3 ⟨rfl,k3,rfl⟩;go_wp2_with fail;go_ret;exact ⟨Qav HB.out,_,rfl⟩
      ·have H5:Hid (wit n (Qak.drop 3)=B):=by show _ = _;rw [← H4',hp];rfl
       rw [hp] at cp;clear H4' hw H4 hp;go_wp2_with fail;refine (cp _ (show Hid (Qbq (w.drewN m)) from HT.out)).mono ?_
       rintro e w3 ⟨rfl,k3,rfl⟩;go_wp2_with fail
       go_roundw
       case rel=>exact ⟨3,_,by omega,H5,rfl,rfl⟩
       case measure=>simp [intOf]
     ·have ix:=ix3;have hw:wit n (Qak.drop 3)=(Qcj n 7&&wit n (Qak.drop 4)):=Qb5 n 3 7 rfl;have H4':=H4.out;rw [hw] at H4';have cp:=fun W (h:Hid (Qbq W))=>Qbg n 7 W PH.out h.out (by omega) hn (by omega)
      cases hp:Qcj n 7
      ·have HB:Hid (false=B):=by show _ = _;rw [← H4',hp];rfl
       rw [hp] at cp;clear H4' hw H4 hp;go_wp2_with fail;refine (cp _ (show Hid (Qbq (w.drewN m)) from HT.out)).mono ?_
       rintro e w3 ⟨rfl,k3,rfl⟩;go_wp2_with fail;go_ret;exact ⟨Qav HB.out,_,rfl⟩
      ·have H5:Hid (wit n (Qak.drop 4)=B):=by show _ = _;rw [← H4',hp];rfl
       rw [hp] at cp;clear H4' hw H4 hp;go_wp2_with fail;refine (cp _ (show Hid (Qbq (w.drewN m)) from HT.out)).mono ?_
       rintro e w3 ⟨rfl,k3,rfl⟩;go_wp2_with fail
       go_roundw
       case rel=>exact ⟨4,_,by omega,H5,rfl,rfl⟩
       case measure=>simp [intOf]
     ·have ix:=ix4;have hw:wit n (Qak.drop 4)=(Qcj n 11&&wit n (Qak.drop 5)):=Qb5 n 4 11 rfl;have H4':=H4.out;rw [hw] at H4';have cp:=fun W (h:Hid (Qbq W))=>Qbg n 11 W PH.out h.out (by omega) hn (by omega)
      cases hp:Qcj n 11
      ·have HB:Hid (false=B):=by show _ = _;rw [← H4',hp];rfl
       rw [hp] at cp;clear H4' hw H4 hp;go_wp2_with fail;refine (cp _ (show Hid (Qbq (w.drewN m)) from HT.out)).mono ?_
       rintro e w3 ⟨rfl,k3,rfl⟩;go_wp2_with fail;go_ret;exact ⟨Qav HB.out,_,rfl⟩
      ·have H5:Hid (wit n (Qak.drop 5)=B):=by show _ = _;rw [← H4',hp];rfl
       rw [hp] at cp;clear H4' hw H4 hp;go_wp2_with fail;refine (cp _ (show Hid (Qbq (w.drewN m)) from HT.out)).mono ?_
       rintro e w3 ⟨rfl,k3,rfl⟩;go_wp2_with fail
       go_roundw
       case rel=>exact ⟨5,_,by omega,H5,rfl,rfl⟩
       case measure=>simp [intOf]
     ·have ix:=ix5;have hw:wit n (Qak.drop 5)=(Qcj n 13&&wit n (Qak.drop 6)):=Qb5 n 5 13 rfl;have H4':=H4.out;rw [hw] at H4';have cp:=fun W (h:Hid (Qbq W))=>Qbg n 13 W PH.out h.out (by omega) hn (by omega)
      cases hp:Qcj n 13
      ·have HB:Hid (false=B):=by show _ = _;rw [← H4',hp];rfl
       rw [hp] at cp;clear H4' hw H4 hp;go_wp2_with fail;refine (cp _ (show Hid (Qbq (w.drewN m)) from HT.out)).mono ?_
       rintro e w3 ⟨rfl,k3,rfl⟩;go_wp2_with fail;go_ret;exact ⟨Qav HB.out,_,rfl⟩
      ·have H5:Hid (wit n (Qak.drop 6)=B):=by show _ = _;rw [← H4',hp];rfl
       rw [hp] at cp;clear H4' hw H4 hp;go_wp2_with fail;refine (cp _ (show Hid (Qbq (w.drewN m)) from HT.out)).mono ?_
       rintro e w3 ⟨rfl,k3,rfl⟩;go_wp2_with fail
       go_roundw
       case rel=>exact ⟨6,_,by omega,H5,rfl,rfl⟩
       case measure=>simp [intOf]
     ·have ix:=ix6;have hw:wit n (Qak.drop 6)=(Qcj n 17&&wit n (Qak.drop 7)):=Qb5 n 6 17 rfl;have H4':=H4.out;rw [hw] at H4';have cp:=fun W (h:Hid (Qbq W))=>Qbg n 17 W PH.out h.out (by omega) hn (by omega)
      cases hp:Qcj n 17
      ·have HB:Hid (false=B):=by show _ = _;rw [← H4',hp];rfl
       rw [hp] at cp;clear H4' hw H4 hp;go_wp2_with fail;refine (cp _ (show Hid (Qbq (w.drewN m)) from HT.out)).mono ?_
       rintro e w3 ⟨rfl,k3,rfl⟩;go_wp2_with fail;go_ret;exact ⟨Qav HB.out,_,rfl⟩
      ·have H5:Hid (wit n (Qak.drop 7)=B):=by show _ = _;rw [← H4',hp];rfl
       rw [hp] at cp;clear H4' hw H4 hp;go_wp2_with fail;refine (cp _ (show Hid (Qbq (w.drewN m)) from HT.out)).mono ?_
       rintro e w3 ⟨rfl,k3,rfl⟩;go_wp2_with fail
       go_roundw
       case rel=>exact ⟨7,_,by omega,H5,rfl,rfl⟩
       case measure=>simp [intOf]
     ·have ix:=ix7;have hw:wit n (Qak.drop 7)=(Qcj n 19&&wit n (Qak.drop 8)):=Qb5 n 7 19 rfl;have H4':=H4.out;rw [hw] at H4';have cp:=fun W (h:Hid (Qbq W))=>Qbg n 19 W PH.out h.out (by omega) hn (by omega)
      cases hp:Qcj n 19
      ·have HB:Hid (false=B):=by show _ = _;rw [← H4',hp];rfl
       rw [hp] at cp;clear H4' hw H4 hp;go_wp2_with fail;refine (cp _ (show Hid (Qbq (w.drewN m)) from HT.out)).mono ?_
       rintro e w3 ⟨rfl,k3,rfl⟩;go_wp2_with fail;go_ret;exact ⟨Qav HB.out,_,rfl⟩
      ·have H5:Hid (wit n (Qak.drop 8)=B):=by show _ = _;rw [← H4',hp];rfl
       rw [hp] at cp;clear H4' hw H4 hp;go_wp2_with fail;refine (cp _ (show Hid (Qbq (w.drewN m)) from HT.out)).mono ?_
       rintro e w3 ⟨rfl,k3,rfl⟩;go_wp2_with fail
       go_roundw
       case rel=>exact ⟨8,_,by omega,H5,rfl,rfl⟩
       case measure=>simp [intOf]
     ·have ix:=ix8;have hw:wit n (Qak.drop 8)=(Qcj n 23&&wit n (Qak.drop 9)):=Qb5 n 8 23 rfl;have H4':=H4.out;rw [hw] at H4';have cp:=fun W (h:Hid (Qbq W))=>Qbg n 23 W PH.out h.out (by omega) hn (by omega)
      cases hp:Qcj n 23
      ·have HB:Hid (false=B):=by show _ = _;rw [← H4',hp];rfl
       rw [hp] at cp;clear H4' hw H4 hp;go_wp2_with fail;refine (cp _ (show Hid (Qbq (w.drewN m)) from HT.out)).mono ?_
       rintro e w3 ⟨rfl,k3,rfl⟩;go_wp2_with fail;go_ret;exact ⟨Qav HB.out,_,rfl⟩
      ·have H5:Hid (wit n (Qak.drop 9)=B):=by show _ = _;rw [← H4',hp];rfl
       rw [hp] at cp;clear H4' hw H4 hp;go_wp2_with fail;refine (cp _ (show Hid (Qbq (w.drewN m)) from HT.out)).mono ?_
       rintro e w3 ⟨rfl,k3,rfl⟩;go_wp2_with fail
       go_roundw
       case rel=>exact ⟨9,_,by omega,H5,rfl,rfl⟩
       case measure=>simp [intOf]
     ·have ix:=ix9;have hw:wit n (Qak.drop 9)=(Qcj n 29&&wit n (Qak.drop 10)):=Qb5 n 9 29 rfl;have H4':=H4.out;rw [hw] at H4';have cp:=fun W (h:Hid (Qbq W))=>Qbg n 29 W PH.out h.out (by omega) hn (by omega)
      cases hp:Qcj n 29
      ·have HB:Hid (false=B):=by show _ = _;rw [← H4',hp];rfl
       rw [hp] at cp;clear H4' hw H4 hp;go_wp2_with fail;refine (cp _ (show Hid (Qbq (w.drewN m)) from HT.out)).mono ?_
       rintro e w3 ⟨rfl,k3,rfl⟩;go_wp2_with fail;go_ret;exact ⟨Qav HB.out,_,rfl⟩
      ·have H5:Hid (wit n (Qak.drop 10)=B):=by show _ = _;rw [← H4',hp];rfl
       rw [hp] at cp;clear H4' hw H4 hp;go_wp2_with fail;refine (cp _ (show Hid (Qbq (w.drewN m)) from HT.out)).mono ?_
       rintro e w3 ⟨rfl,k3,rfl⟩;go_wp2_with fail
       go_roundw
       case rel=>exact ⟨10,_,by omega,H5,rfl,rfl⟩
       case measure=>simp [intOf]
     ·have ix:=Q0i;have hw:wit n (Qak.drop 10)=(Qcj n 31&&wit n (Qak.drop 11)):=Qb5 n 10 31 rfl;have H4':=H4.out;rw [hw] at H4';have cp:=fun W (h:Hid (Qbq W))=>Qbg n 31 W PH.out h.out (by omega) hn (by omega)
      cases hp:Qcj n 31
      ·have HB:Hid (false=B):=by show _ = _;rw [← H4',hp];rfl
       rw [hp] at cp;clear H4' hw H4 hp;go_wp2_with fail;refine (cp _ (show Hid (Qbq (w.drewN m)) from HT.out)).mono ?_
       rintro e w3 ⟨rfl,k3,rfl⟩;go_wp2_with fail;go_ret;exact ⟨Qav HB.out,_,rfl⟩
      ·have H5:Hid (wit n (Qak.drop 11)=B):=by show _ = _;rw [← H4',hp];rfl
       rw [hp] at cp;clear H4' hw H4 hp;go_wp2_with fail;refine (cp _ (show Hid (Qbq (w.drewN m)) from HT.out)).mono ?_
       rintro e w3 ⟨rfl,k3,rfl⟩;go_wp2_with fail
       go_roundw
       case rel=>exact ⟨11,_,by omega,H5,rfl,rfl⟩
       case measure=>simp [intOf]
     ·have ix:=Q0j;have hw:wit n (Qak.drop 11)=(Qcj n 37&&wit n (Qak.drop 12)):=Qb5 n 11 37 rfl;have H4':=H4.out;rw [hw] at H4';have cp:=fun W (h:Hid (Qbq W))=>Qbg n 37 W PH.out h.out (by omega) hn (by omega)
      cases hp:Qcj n 37
      ·have HB:Hid (false=B):=by show _ = _;rw [← H4',hp];rfl
       rw [hp] at cp;clear H4' hw H4 hp;go_wp2_with fail;refine (cp _ (show Hid (Qbq (w.drewN m)) from HT.out)).mono ?_
       rintro e w3 ⟨rfl,k3,rfl⟩;go_wp2_with fail;go_ret;exact ⟨Qav HB.out,_,rfl⟩
      ·have H5:Hid (wit n (Qak.drop 12)=B):=by show _ = _;rw [← H4',hp];rfl
       rw [hp] at cp;clear H4' hw H4 hp;go_wp2_with fail;refine (cp _ (show Hid (Qbq (w.drewN m)) from HT.out)).mono ?_
       rintro e w3 ⟨rfl,k3,rfl⟩;go_wp2_with fail
       go_roundw
       case rel=>exact ⟨12,_,by omega,H5,rfl,rfl⟩
       case measure=>simp [intOf]
    ·have hdk2:decide ((k:Int)<12)=false:=by simp;omega
     obtain rfl:k=12:=by omega
     have HB:Hid (true=B):=H4.out;clear H4;go_wp2_with fail;go_ret;exact ⟨Qav HB.out,m,rfl⟩
end Go.Proofs.YtjjohooeehjjcaaGreatDoor
namespace Go.Proofs.YtjjohooeehjjcaaGreatDoor.F1
open Go.Proofs.YtjjohooeehjjcaaGreatDoor
open M1
def w5 (a n r x:Nat):Nat:=Nat.mod (Nat.mul (Nat.pow r 32) (Nat.pow a (Nat.mod x 32))) n
end Go.Proofs.YtjjohooeehjjcaaGreatDoor.F1
