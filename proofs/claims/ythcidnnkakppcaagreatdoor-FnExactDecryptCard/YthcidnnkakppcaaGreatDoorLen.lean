/- Proved: what its theorems say. -/
import Derived.Test.YthcidnnkakppcaaGreatDoorRows
import Derived.Lib.Walk
import Derived.Lib.BitFns
set_option linter.unusedVariables false
set_option linter.unusedSimpArgs false
set_option maxHeartbeats 1000000
set_option maxRecDepth 100000
namespace Go.Proofs.YthcidnnkakppcaaGreatDoor
theorem Qhp (k b:Int) (x:Nat) (hb:0≤b) (hb':b<256) (hk:0≤k) (hk':k≤64) (h:(Lib.bitLen x:Int)=k+(Lib.bitLen b.toNat:Int)) :
  (k+((Lib.len8 (b%256)+9223372036854775808)%18446744073709551616 - 9223372036854775808)+9223372036854775808)%18446744073709551616 - 9223372036854775808=(Lib.bitLen x:Int):=by
 rw [Int.emod_eq_of_lt hb hb',Lib.len8_int b hb (by omega),h];have l:=Lib.bitLen_le8 ⟨b.toNat,by omega⟩;simp only at l;omega
theorem bits_Len64 (x:Int) (w:World) (h0:0≤x) (h1:x≤18446744073709551615) :
  Calls Tryz.prog 156 #[.int .u64 x] w fun e w'=>e=.returned (.int .i64 (Lib.bitLen x.toNat))/\w'=w:=by
 go_enter Tryz.func156,Tryz.ntmps156
 go_wp2
 all_goals (go_ret;refine ⟨congrArg Ending.returned (congrArg (Value.int IntKind.i64) ?_),rfl⟩)
 ·rw [show x/4294967296/65536/256=x/72057594037927936 by omega];refine Qhp 56 (x/72057594037927936) _ (by omega) (by omega) (by omega) (by omega) ?_
  rw [Lib.bitLen_shift56 x.toNat (by omega) (by omega),show (x/72057594037927936).toNat=x.toNat/72057594037927936 by omega];omega
 ·rw [show x/4294967296/65536=x/281474976710656 by omega];refine Qhp 48 (x/281474976710656) _ (by omega) (by omega) (by omega) (by omega) ?_
  rw [Lib.bitLen_shift48 x.toNat (by omega) (by omega),show (x/281474976710656).toNat=x.toNat/281474976710656 by omega];omega
 ·rw [show x/4294967296/256=x/1099511627776 by omega];refine Qhp 40 (x/1099511627776) _ (by omega) (by omega) (by omega) (by omega) ?_
  rw [Lib.bitLen_shift40 x.toNat (by omega) (by omega),show (x/1099511627776).toNat=x.toNat/1099511627776 by omega];omega
 ·refine Qhp 32 (x/4294967296) _ (by omega) (by omega) (by omega) (by omega) ?_
  rw [Lib.bitLen_shift32 x.toNat (by omega) (by omega),show (x/4294967296).toNat=x.toNat/4294967296 by omega];omega
 ·rw [show x/65536/256=x/16777216 by omega];refine Qhp 24 (x/16777216) _ (by omega) (by omega) (by omega) (by omega) ?_
  rw [Lib.bitLen_shift24 x.toNat (by omega) (by omega),show (x/16777216).toNat=x.toNat/16777216 by omega];omega
 ·refine Qhp 16 (x/65536) _ (by omega) (by omega) (by omega) (by omega) ?_
  rw [Lib.bitLen_shift16 x.toNat (by omega) (by omega),show (x/65536).toNat=x.toNat/65536 by omega];omega
 ·refine Qhp 8 (x/256) _ (by omega) (by omega) (by omega) (by omega) ?_
  rw [Lib.bitLen_shift8 x.toNat (by omega) (by omega),show (x/256).toNat=x.toNat/256 by omega];omega
 ·rw [Int.emod_eq_of_lt h0 (by omega)];exact Lib.len8_int x h0 (by omega)
end Go.Proofs.YthcidnnkakppcaaGreatDoor
