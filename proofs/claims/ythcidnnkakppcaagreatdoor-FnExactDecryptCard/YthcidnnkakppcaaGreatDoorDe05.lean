/- Proved: what its theorems say. -/
import Derived.Lib.Mul64
import Derived.Test.YthcidnnkakppcaaGreatDoorDe04
set_option linter.unusedVariables false
set_option linter.unusedSimpArgs false
set_option maxHeartbeats 1000000
namespace Go.Proofs.YthcidnnkakppcaaGreatDoor
open Go.ChangeShapes Go.WideShapes Go.ChangeAt Go.RowKit
open M1
namespace Mul64
theorem maskN (a:Nat) (ha:a<18446744073709551616):bits .and .u64 (a:Int) 4294967295=((a%4294967296:Nat):Int):=by
 have h:=bits_and_u64_nat a 4294967295 ha (by omega);have e:a &&& 4294967295=a%4294967296:=Nat.and_two_pow_sub_one_eq_mod a 32;rw [e] at h;exact h
theorem divN (a:Nat):(a:Int)/4294967296=((a/4294967296:Nat):Int):=by omega
theorem mulN (a b:Nat):(a:Int)*(b:Int)=((a*b:Nat):Int):=(Int.natCast_mul a b).symm
theorem addN (a b:Nat):(a:Int)+(b:Int)=((a+b:Nat):Int):=(Int.natCast_add a b).symm
theorem wrapN (a:Nat) (ha:a<18446744073709551616):IntKind.u64.wrap (a:Int)=(a:Int):=by rw [IntKind.wrap_u64];omega
theorem wrapM (a:Nat):IntKind.u64.wrap (a:Int)=((a%18446744073709551616:Nat):Int):=by rw [IntKind.wrap_u64];omega
end Mul64
theorem bits_Mul64 (x y:Nat) (hx:x<18446744073709551616) (hy:y<18446744073709551616) (w:World) :
  Calls Tryz.prog 168 #[.int .u64 x,.int .u64 y] w fun e w'=>e=.returned (.tuple #[.int .u64 ((x*y/18446744073709551616:Nat):Int),.int .u64 ((x*y%18446744073709551616:Nat):Int)])/\w'=w:=by
 obtain ⟨bd,bt,bw,hhi⟩:=Lib.mul64_hi x y hx hy;have ba:=Lib.half_mul_le (a:=x/4294967296) (b:=y/4294967296) (by omega) (by omega);have bb:=Lib.half_mul_le (a:=x/4294967296) (b:=y%4294967296) (by omega) (by omega);have bc:=Lib.half_mul_le (a:=x%4294967296) (b:=y/4294967296) (by omega) (by omega);have ba':x/4294967296*(y/4294967296)<18446744073709551616:=by omega
 have bb':x/4294967296*(y%4294967296)<18446744073709551616:=by omega
 have bc':x%4294967296*(y/4294967296)<18446744073709551616:=by omega
 have bh1:x/4294967296*(y/4294967296)+(x/4294967296*(y%4294967296)+x%4294967296*(y%4294967296)/4294967296)/4294967296<18446744073709551616:=by omega
 have bh:x/4294967296*(y/4294967296)+(x/4294967296*(y%4294967296)+x%4294967296*(y%4294967296)/4294967296)/4294967296+((x/4294967296*(y%4294967296)+x%4294967296*(y%4294967296)/4294967296)%4294967296+x%4294967296*(y/4294967296))/4294967296<18446744073709551616:=by omega
 go_enter Tryz.func168,Tryz.ntmps168
 go_wp2
 simp only [Mul64.maskN x hx,Mul64.maskN y hy,Mul64.divN,Mul64.mulN,Mul64.addN,Mul64.wrapN _ bd,Mul64.wrapN _ bb',Mul64.wrapN _ bt,Mul64.maskN _ bt,Mul64.wrapN _ bc',Mul64.wrapN _ bw,Mul64.wrapN _ ba',Mul64.wrapN _ bh1,Mul64.wrapN _ bh,Mul64.wrapM (x*y)];rw [hhi]
 go_ret2
 exact ⟨rfl,rfl⟩
end Go.Proofs.YthcidnnkakppcaaGreatDoor
namespace Go.Proofs.YthcidnnkakppcaaGreatDoor
open Go.ChangeShapes Go.WideShapes Go.ChangeAt Go.RowKit
open M1
theorem Qdl {k l:IntKind} {a b c d:Int} (h:a=b) (g:c=d):Ending.returned (.tuple #[.int k a,.int l c])=.returned (.tuple #[.int k b,.int l d]):=by rw [h,g]
theorem Qed (lo y:Nat) (hl:lo<18446744073709551616) (hy:0<y) (hy':y<18446744073709551616) (w:World) :
  Calls Tryz.prog 173 #[.int .u64 0,.int .u64 lo,.int .u64 y] w fun e w'=>e=.returned (.tuple #[.int .u64 ((lo/y:Nat):Int),.int .u64 ((lo%y:Nat):Int)])/\∃n,w'=w.drewN n:=by
 have hq:=Nat.div_le_self lo y;have h0:((y:Int)==0)=false:=by simp;omega
 go_enter Tryz.func173,Tryz.ntmps173
 go_wp2
 go_region
 all_goals go_wp2
 all_goals go_ret2
 all_goals exact ⟨Qdl (by rw [<- Int.natCast_ediv];exact Mul64.wrapN _ (by omega)) (Int.natCast_emod _ _).symm,1,rfl⟩
theorem Qgz (lo y:Nat) (hl:lo<18446744073709551616) (hy:0<y) (hy':y<18446744073709551616) (w:World) :
  Calls Tryz.prog 169 #[.int .u64 0,.int .u64 lo,.int .u64 y] w fun e w'=>e=.returned (.int .u64 ((lo%y:Nat):Int))/\∃n,w'=w.drewN n:=by
 go_enter Tryz.func169,Tryz.ntmps169;go_wp2_with (first | (go_at_call 173;refine (Qed lo y hl hy hy' _).mono ?_;rintro e w' ⟨rfl,n,rfl⟩));go_ret;exact ⟨rfl,_,rfl⟩
theorem Qdz (p x y:Nat) (hp:0<p) (hp':p<18446744073709551616) (h:x*y<18446744073709551616) (hx:x<18446744073709551616) (hy:y<18446744073709551616) (w:World) :
  Calls Tryz.prog 165 #[.int .u64 p,.int .u64 x,.int .u64 y] w fun e w'=>e=.returned (.int .u64 ((x*y%p:Nat):Int))/\∃n,w'=w.drewN n:=by
 have c:=bits_Mul64 x y hx hy;rw [Nat.div_eq_of_lt h,Nat.mod_eq_of_lt h] at c;generalize x*y=z at *;go_enter Tryz.func165,Tryz.ntmps165;go_wp2_with fail;refine (c _).mono ?_
 rintro e w' ⟨rfl,rfl⟩;go_wp2_with fail;refine (Qgz z p h hp hp' _).mono ?_
 rintro e w' ⟨rfl,n,rfl⟩;go_wp2_with fail;go_ret;exact ⟨rfl,_,rfl⟩
end Go.Proofs.YthcidnnkakppcaaGreatDoor
