/- Proved: what its theorems say. -/
import Derived.Test.YtjjohooeehjjcaaGreatDoorRows
import Derived.Handy
set_option linter.unusedVariables false
set_option linter.unusedSimpArgs false
namespace Go.Proofs.YtjjohooeehjjcaaGreatDoor
open Go.ChangeShapes Go.WideShapes Go.ChangeAt Go.RowKit
def Qis (x p:Int):Bool:=decide (0<=x)&&decide (x<p)
theorem Qmi (x p:Int) (w:World):Calls Tryz.prog 124 #[.int .i64 x,.int .i64 p] w fun e w'=>e=.returned (.bool (Qis x p))/\w'=w:=by
 by_cases h:0<=x
 ·have hd2:decide (0≤x)=true:=by simp;omega
  go_enter Tryz.func124,Tryz.ntmps124;go_wp2_with fail;go_ret;exact ⟨by simp [Qis,hd2],rfl⟩
 ·have hd2:decide (0≤x)=false:=by simp;omega
  go_enter Tryz.func124,Tryz.ntmps124;go_wp2_with fail;go_ret;exact ⟨by simp [Qis,hd2],rfl⟩
def inQ (x lo hi:Int):Bool:=decide (lo<=x)&&decide (x<=hi)
theorem Qqz (x lo hi:Int) (w:World) :
  Calls Tryz.prog 38 #[.int .i64 x,.int .i64 lo,.int .i64 hi] w fun e w'=>e=.returned (.bool (inQ x lo hi))/\w'=w:=by
 by_cases h:lo<=x
 ·have hd2:decide (lo≤x)=true:=by simp;omega
  go_enter Tryz.func38,Tryz.ntmps38;go_wp2_with fail;go_ret;exact ⟨by simp [inQ,hd2],rfl⟩
 ·have hd2:decide (lo≤x)=false:=by simp;omega
  go_enter Tryz.func38,Tryz.ntmps38;go_wp2_with fail;go_ret;exact ⟨by simp [inQ,hd2],rfl⟩
end Go.Proofs.YtjjohooeehjjcaaGreatDoor
