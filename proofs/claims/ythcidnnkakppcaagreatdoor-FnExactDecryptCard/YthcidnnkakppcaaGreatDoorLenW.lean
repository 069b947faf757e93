/- Proved: what its theorems say. -/
import Derived.Test.YthcidnnkakppcaaGreatDoorRows
import Derived.Lib.Walk
import Derived.Lib.BitFns
set_option linter.unusedVariables false
set_option linter.unusedSimpArgs false
set_option maxHeartbeats 1000000
set_option maxRecDepth 100000
namespace Go.Proofs.YthcidnnkakppcaaGreatDoor
theorem Qoq (k b:Int) (x:Nat) (hb:0≤b) (hb':b<256) (hk:0≤k) (hk':k≤64) (h:(Lib.bitLen x:Int)=k+(Lib.bitLen b.toNat:Int)) :
  (k+((Lib.len8 (b%256)+9223372036854775808)%18446744073709551616 - 9223372036854775808)+9223372036854775808)%18446744073709551616 - 9223372036854775808=(Lib.bitLen x:Int):=by
 rw [Int.emod_eq_of_lt hb hb',Lib.len8_int b hb (by omega),h];have l:=Lib.bitLen_le8 ⟨b.toNat,by omega⟩;simp only at l;omega
theorem Qg1 (x:Int) (w:World) (h0:0≤x) (h1:x≤4294967295) :
  Calls Tryz.prog 156 #[.int .u64 x] w fun e w'=>e=.returned (.int .i64 (Lib.bitLen x.toNat))/\w'=w:=by
 go_enter Tryz.func156,Tryz.ntmps156
 go_wp2
 all_goals (go_ret;refine ⟨congrArg Ending.returned (congrArg (Value.int IntKind.i64) ?_),rfl⟩)
 ·rw [show x/65536/256=x/(65536*256) by omega];refine Qoq 24 (x/(65536*256)) _ (by omega) (by omega) (by omega) (by omega) ?_
  rw [Lib.bitLen_shift24 x.toNat (by omega) (by omega),show (x/(65536*256)).toNat=x.toNat/16777216 by omega];omega
 ·refine Qoq 16 (x/65536) _ (by omega) (by omega) (by omega) (by omega) ?_
  rw [Lib.bitLen_shift16 x.toNat (by omega) (by omega),show (x/65536).toNat=x.toNat/65536 by omega];omega
 ·refine Qoq 8 (x/256) _ (by omega) (by omega) (by omega) (by omega) ?_
  rw [Lib.bitLen_shift8 x.toNat (by omega) (by omega),show (x/256).toNat=x.toNat/256 by omega];omega
 ·rw [Int.emod_eq_of_lt h0 (by omega)];exact Lib.len8_int x h0 (by omega)
end Go.Proofs.YthcidnnkakppcaaGreatDoor
