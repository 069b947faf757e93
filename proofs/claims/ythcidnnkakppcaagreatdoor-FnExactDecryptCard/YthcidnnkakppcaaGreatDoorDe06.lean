/- Proved: what its theorems say. -/
import Derived.Handy
import Derived.Test.YthcidnnkakppcaaGreatDoorDe05
set_option linter.unusedVariables false
set_option linter.unusedSimpArgs false
set_option maxHeartbeats 1000000
namespace Go.Proofs.YthcidnnkakppcaaGreatDoor
open Go.ChangeShapes Go.WideShapes Go.ChangeAt Go.RowKit
open M1
theorem Ql0 (p a e:Nat) (hp:2≤p) (hp':p≤4294967296) (ha:a<p) (he:e<18446744073709551616) (w:World) :
  Calls Tryz.prog 164 #[.iface 194 (.int .u64 p),.int .u64 a,.int .u64 e] w fun en w'=>en=.returned (.int .u64 (Qeb a e p:Nat))/\∃n,w'=w.drewN n:=by
 have H0:Hid (1*a^e%p=Qeb a e p):=by show _ = _;rw [Nat.one_mul];rfl
 generalize hR:Qeb a e p=R at *;clear hR;go_enter Tryz.func164,Tryz.ntmps164;go_wp2_with fail
 go_loopw [1,2,7] (fun a e r W=>∃a' e' r' n:Nat,a'<p/\e'<18446744073709551616/\r'<p/\Hid (r'*a'^e'%p=R)/\a=.int .u64 a'/\e=.int .u64 e'/\r=.int .u64 r'/\W=w.drewN n) (fun _ e _ _=>(intOf e).toNat)
 case atStart=>exact ⟨a,e,1,0,ha,he,by omega,H0,rfl,rfl,rfl,rfl⟩
 case round=>
  obtain ⟨a1,e1,r1,n1,ha1,he1,hr1,H1,rfl,rfl,rfl,rfl⟩:=hrel;clear H0
  by_cases hz:e1=0
  ·subst hz
   have H2:Hid (r1=R):=by
    have:=H1.out;rw [Nat.pow_zero,Nat.mul_one,Nat.mod_eq_of_lt hr1] at this;exact this
   go_wp2_with fail;go_ret;exact ⟨by rw [<- H2.out];rfl,n1,rfl⟩
  ·have hsq:a1*a1<18446744073709551616:=by
    have:=Nat.mul_lt_mul'' ha1 ha1;have h2:=Nat.mul_le_mul hp' hp';omega
   have hra:r1*a1<18446744073709551616:=by
    have:=Nat.mul_lt_mul'' hr1 ha1;have h2:=Nat.mul_le_mul hp' hp';omega
   have csq:=fun W=>Qdz p a1 a1 (by omega) (by omega) hsq (by omega) (by omega) W
   have cra:=fun W=>Qdz p r1 a1 (by omega) (by omega) hra (by omega) (by omega) W
   have m1:r1*a1%p<p:=Nat.mod_lt _ (by omega);have m2:a1*a1%p<p:=Nat.mod_lt _ (by omega);generalize hg1:r1*a1%p=ra at *;generalize hg2:a1*a1%p=aa at *
   by_cases ho:e1%2=1
   ·have H3:Hid (ra*aa^(e1/2)%p=R):=by show _ = _;rw [← H1.out,← hg1,← hg2];exact Qjw r1 a1 e1 p ho
    clear hg1 hg2 hsq hra;have hb:((e1:Int)%2==1)=true:=by simp;omega
    clear ho;go_wp2_with fail;refine (cra _).mono ?_
    rintro en w' ⟨rfl,n2,rfl⟩;go_wp2_with fail;refine (csq _).mono ?_
    rintro en w' ⟨rfl,n3,rfl⟩;go_wp2_with fail
    go_roundw
    case rel=>exact ⟨aa,e1/2,ra,_,m2,by omega,m1,H3,rfl,by go_num,rfl,rfl⟩
    case measure=>simp [intOf];omega
   ·have H3:Hid (r1*aa^(e1/2)%p=R):=by show _ = _;rw [← H1.out,← hg2];exact Qhd r1 a1 e1 p (by omega)
    clear hg1 hg2 hsq hra;have hb:((e1:Int)%2==1)=false:=by simp;omega
    clear ho;go_wp2_with fail;refine (csq _).mono ?_
    rintro en w' ⟨rfl,n3,rfl⟩;go_wp2_with fail
    go_roundw
    case rel=>exact ⟨aa,e1/2,r1,_,m2,by omega,hr1,H3,rfl,by go_num,rfl,rfl⟩
    case measure=>simp [intOf];omega
theorem Qn0 (a b:Nat) (ha:a<=9223372036854775807) (hb:b<=9223372036854775807):bits .and .i64 (a:Int) (b:Int)=((a &&& b:Nat):Int):=by
 have hx:a &&& b<2^63:=Nat.and_lt_two_pow _ (by omega)
 have h1:(BitVec.ofInt 64 (a:Int)).toNat=a:=by
  rw [BitVec.ofInt_natCast,BitVec.toNat_ofNat];exact Nat.mod_eq_of_lt (by omega)
 have h2:(BitVec.ofInt 64 (b:Int)).toNat=b:=by
  rw [BitVec.ofInt_natCast,BitVec.toNat_ofNat];exact Nat.mod_eq_of_lt (by omega)
 show IntKind.i64.wrap ((BitVec.ofInt 64 (a:Int) &&& BitVec.ofInt 64 (b:Int)).toNat:Int)=_
 rw [BitVec.toNat_and,h1,h2,IntKind.wrap_i64];omega
def Q3p (e p:Int):Bool:=decide (2<=p/\p<=268435456/\0<=e)
theorem Qv2 {e p:Int} (h:Q3p e p=true):Qi7 p=true/\0<=e/\2<=p/\p<=268435456:=by simp [Q3p] at h;simp [Qi7];omega
theorem Qhl (a e p:Int) (w:World) (ha : -9223372036854775808≤a∧a≤9223372036854775807) (he : -9223372036854775808≤e∧e≤9223372036854775807) (h:Q3p e p=true) :
  Calls Tryz.prog 160 #[.int .i64 a,.int .i64 e,.int .i64 p] w fun en w'=>en=.returned (.int .i64 (Qeb (a%p).toNat e.toNat p.toNat:Nat))/\∃n,w'=w.drewN n:=by
 obtain ⟨h1,h2,h3,h4⟩:=Qv2 h;clear h;have hd:decide (e<0)=false:=by simp;omega
 have r0:=Int.emod_nonneg a (show p≠0 by omega);have r1:=Int.emod_lt_of_pos a (b:=p) (by omega);have hlt:=Qjx (a%p).toNat e.toNat p.toNat (by omega);have c:=fun W=>Ql0 p.toNat (a%p).toNat e.toNat (by omega) (by omega) (by omega) (by omega) W
 rw [Int.toNat_of_nonneg r0,Int.toNat_of_nonneg h2,Int.toNat_of_nonneg (show 0<=p by omega)] at c;generalize Qeb (a%p).toNat e.toNat p.toNat=R at *;generalize hA:a%p=A at *;have HA:Hid (a%p=A):=hA;clear hA;go_enter Tryz.func160,Tryz.ntmps160;go_wp2_with (first | (go_at_call 72;refine (Qcl _ _).mono ?_;rintro en w' ⟨rfl,rfl⟩) | (go_at_call 70;refine (Qcm _ _ _ ha ⟨by omega,by omega⟩).mono ?_;rintro en w' ⟨rfl,rfl⟩;rw [HA.out]));refine (c _).mono ?_
 rintro en w2 ⟨rfl,n,rfl⟩;go_wp2_with fail;go_ret;exact ⟨rfl,n,rfl⟩
end Go.Proofs.YthcidnnkakppcaaGreatDoor
