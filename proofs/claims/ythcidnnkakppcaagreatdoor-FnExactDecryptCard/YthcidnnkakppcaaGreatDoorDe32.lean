/- Proved: what its theorems say. -/
import Derived.Test.YthcidnnkakppcaaGreatDoorDe31
import Derived.Deep.RegionHeld3
set_option linter.unusedVariables false
set_option linter.unusedSimpArgs false
namespace Go.Proofs.YthcidnnkakppcaaGreatDoor
open Go.ChangeShapes Go.WideShapes Go.ChangeAt Go.RowKit
open M2
abbrev Dv (n m:Bool) (xs ys:List Int):Prop:=(Good n xs/\Good m ys)/\m=false/\0<ys.length
def Qqu (n m:Bool) (xs ys:List Int):Bool×List Nat×Bool:=if Dv n m xs ys then told ((2*sv n (nat xs)+(val (nat ys):Int))/(2*(val (nat ys):Int))) else nought
def Qyq (n:Bool) (xs:List Int) (k:Int):Int:=if Good n xs/\(2<=k/\k<=268435456) then sv n (nat xs)%k else 0
end Go.Proofs.YthcidnnkakppcaaGreatDoor
