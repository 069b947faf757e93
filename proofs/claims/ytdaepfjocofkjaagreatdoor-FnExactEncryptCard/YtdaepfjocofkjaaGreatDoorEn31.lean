/- Proved: what its theorems say. -/
import Derived.Test.YtdaepfjocofkjaaGreatDoorEn25
import Derived.Test.YtdaepfjocofkjaaGreatDoorEn30
set_option linter.unusedVariables false
set_option linter.unusedSimpArgs false
set_option maxHeartbeats 4000000
set_option maxRecDepth 100000
namespace Go.Proofs.YtdaepfjocofkjaaGreatDoor
open Go.ChangeShapes Go.WideShapes Go.ChangeAt Go.RowKit
theorem Qwm {W:World} {base:Nat} {v:Value} {zs:List Int} (h:Own W base v zs) (h0:0<zs.length):∃g rc,v=.slice (some ⟨g,0,none⟩) zs.length rc/\zs.length<=rc:=by
 rcases h.2 with ⟨e,hn⟩ | ⟨_,_,_,e,_,_,hn,_⟩
 ·omega
 ·exact ⟨_,_,e,hn⟩
theorem Qo0 (p r p' N' r':Int) (Nn:Nat) (n2:Bool) (zs:List Int) (ua ub:Option Addr) (la ca lb cb:Nat) (w:World) (KC:∀W,Old w W->Calls Tryz.prog 108 #[.agg #[.int .i64 p,.int .i64 Nn,.int .i64 r],.slice ua la ca,.slice ub lb cb] W fun e w'=>∃v',e=.returned v'/\Old W w'/\Own w' W.heap.size v' zs) (hz:zs.length=Nn) (h0:0<Nn) :
 Calls Tryz.prog 72 #[.agg #[.int .i64 p,.int .i64 Nn,.int .i64 r,.bool false,.slice ua la ca],.agg #[.int .i64 p',.int .i64 N',.int .i64 r',.bool n2,.slice ub lb cb]] w fun e w'=>∃v',e=.returned v'/\Old w w'/\Own w' w.heap.size v' zs:=by
 obtain ⟨wB,hwB⟩:∃wB,wB=(w.alloc (.cells #[.int .i64 p,.int .i64 Nn,.int .i64 r,.bool false,.slice ua la ca] 91)).alloc (.cells #[.int .i64 p',.int .i64 N',.int .i64 r',.bool n2,.slice ub lb cb] 91):=⟨_,rfl⟩
 have HWB:Hid (Old w wB):=by rw [hwB];exact ((Old.refl w).alloc _).alloc _
 have kc:=KC wB HWB.out;clear KC;go_enter Tryz.func72,Tryz.ntmps72;go_wp2_with fail;rw [<- hwB];refine kc.mono ?_
 rintro e w2 ⟨v2,rfl,g2,o2⟩;have HG2:=Qaa (Old.trans HWB.out g2);obtain ⟨g,cp,e2,hcp⟩:=Qwm o2 (by omega);rw [hz] at e2 hcp;subst e2;have HO2:=Qaa (o2.low HWB.out.size);clear g2 o2;go_wp2_with fail;go_ret;exact ⟨_,rfl,HG2.out,HO2.out⟩
end Go.Proofs.YtdaepfjocofkjaaGreatDoor
