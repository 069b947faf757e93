/- Proved: what its theorems say. -/
import Derived.Test.YtdaepfjocofkjaaGreatDoorEn44
import Derived.Deep.SlicePairs
set_option linter.unusedVariables false
set_option linter.unusedSimpArgs false
set_option maxRecDepth 100000
namespace Go.Proofs.YtdaepfjocofkjaaGreatDoor
open Go.ChangeShapes Go.WideShapes Go.ChangeAt Go.RowKit Go.Joins
theorem Qrw:Tryz.prog.cellsOf 27=2:=by kernel_rfl
theorem open_pair {H:Type} {enc:TypeId×Value->H} {W:World} {base:Nat} {v:Value} {d:DataW H} {p:List MemPlace} (hok:Value.okWide Tryz.prog W .any base 27 v)
 (h:DataW.Trod enc Tryz.prog W 0 (fun _=>true) true 27 v d p):∃u u' xss yss,v=.agg #[u,u']/\Qci W u xss/\Q23 xss/\Qci W u' yss/\Q23 yss:=by
 obtain ⟨c0,c1,y0,y1,m,rfl,rfl,rfl,hy0,hy1⟩:=open_agg2 Tryz.underlying27 (by kernel_rfl) Qrw hok h;obtain ⟨xss,h1,h2⟩:=Qkc hy0;obtain ⟨yss,h3,h4⟩:=Qkc hy1;exact ⟨_,_,xss,yss,rfl,h1,h2,h3,h4⟩
end Go.Proofs.YtdaepfjocofkjaaGreatDoor
