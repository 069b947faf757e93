/- Proved: what its theorems say. -/
import Derived.Test.YtejhpljichmmpaaGreatDoorNi43
import Derived.Deep.SlicePairs
set_option linter.unusedVariables false
set_option linter.unusedSimpArgs false
set_option maxRecDepth 100000
namespace Go.Proofs.YtejhpljichmmpaaGreatDoor
open Go.ChangeShapes Go.WideShapes Go.ChangeAt Go.RowKit Go.Joins
theorem Qqh:Tryz.prog.cellsOf 65=2:=by kernel_rfl
theorem open_pair {H:Type} {enc:TypeId×Value->H} {W:World} {base:Nat} {v:Value} {d:DataW H} {p:List MemPlace} (hok:Value.okWide Tryz.prog W .any base 65 v)
 (h:DataW.Trod enc Tryz.prog W 0 (fun _=>true) true 65 v d p):∃u u' xss yss,v=.agg #[u,u']/\Qbx W u xss/\Q0f xss/\Qbx W u' yss/\Q0f yss:=by
 obtain ⟨c0,c1,y0,y1,m,rfl,rfl,rfl,hy0,hy1⟩:=open_agg2 Tryz.underlying65 (by kernel_rfl) Qqh hok h;obtain ⟨xss,h1,h2⟩:=Qja hy0;obtain ⟨yss,h3,h4⟩:=Qja hy1;exact ⟨_,_,xss,yss,rfl,h1,h2,h3,h4⟩
end Go.Proofs.YtejhpljichmmpaaGreatDoor
