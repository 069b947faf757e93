/- Proved: what its theorems say. -/
import Derived.Test.YtanijpekdnkicaaGreatDoorTc35
import Derived.Test.YtanijpekdnkicaaGreatDoorTc14
import Derived.Deep.SlicePairs
namespace Go.Proofs.YtanijpekdnkicaaGreatDoor
open Go.ChangeShapes Go.WideShapes Go.ChangeAt Go.RowKit Go.Joins
set_option linter.unusedVariables false
set_option linter.unusedSimpArgs false
theorem cellsPairL:Tryz.prog.cellsOf 71=2:=by kernel_rfl
theorem cellsIntSSP:Tryz.prog.cellsOf 69=1:=by kernel_rfl
theorem choosePr {α:Type} (P:Nat→α→Prop) (d:α) (m:Nat) (h:∀i,i<m→∃x,P i x):∃f:Nat→α,∀i,i<m→P i (f i):=by
 classical
 refine ⟨fun i=>if hi:i<m then Classical.choose (h i hi) else d,fun i hi=>?_⟩
 simp only [hi,dif_pos]
 exact Classical.choose_spec (h i hi)
def LenK (kss:List PrV):Prop:=kss.length≤9223372036854775807∧∀r∈kss,PrLe 9223372036854775807 r
set_option maxRecDepth 100000 in
theorem open_pairsT {H:Type} {enc:TypeId×Value→H} {W:World} {fuel:Nat} {v:Value} {x:DataW H×List MemPlace} (hf:DataW.trod enc Tryz.prog W 0 (fun _=>true) true fuel 28 [v]=some x):∃kss,RowK W v kss∧LenK kss:=by
 rcases Go.Deep.open_slice_pairs Tryz.underlying28 Tryz.underlying71 cellsPairL rfl rfl cellsIntSSP cellsIntSSP hf with ⟨hcs,_⟩ | ⟨a,len,cap,m,n,V0,V1,D0,D1,P0,P1,hcs,hb,hl,hm,hmm,_,hx⟩
 ·simp at hcs
  subst hcs
  exact ⟨[],Or.inl ⟨none,0,rfl,rfl⟩,by simp [LenK]⟩
 ·simp at hcs
  subst hcs
  simp only [if_true] at hmm
  subst hmm
  have each:∀i,i<m→∃y:PrV,W.cell? (a.add (i*2))=some (V0 i)∧W.cell? (a.add (i*2+1))=some (V1 i)∧(RowS W (V0 i) y.1∧LenS y.1)∧RowS W (V1 i) y.2∧LenS y.2:=by
   intro i hi
   obtain ⟨g0,g1,t0,t1⟩:=hx i hi
   obtain ⟨xss,h1⟩:=open_rowsS t0
   obtain ⟨yss,h2⟩:=open_rowsS t1
   exact ⟨(xss,yss),g0,g1,h1,h2⟩
  obtain ⟨f,hfe⟩:=choosePr _ ([],[]) m each
  have hget:∀j,j<len→pk ((List.range len).map f) j=f j:=fun j hj=>by simp [pk,List.getD,hj]
  refine ⟨(List.range len).map f,?_,?_,fun r hr=>?_⟩
  ·rcases Nat.eq_zero_or_pos len with h0 | h0
   ·subst h0
    exact Or.inl ⟨_,_,rfl,rfl⟩
   ·have h1:=(hfe 0 (by omega)).1
    obtain ⟨b,o,spot⟩:=a
    have hspot:spot=none:=by simpa [Addr.add] using World.cell?_spot h1
    subst hspot
    refine Or.inr ⟨b,o,m,V0,V1,by simp,?_,by simpa using h0,fun j hj=>?_⟩
    ·have:=block_lt_of_cell h1
     simpa [Addr.add] using this
    ·have hj':j<len:=by simpa using hj
     rw [hget j hj']
     obtain ⟨g0,g1,⟨r0,_⟩,r1,_⟩:=hfe j (by omega)
     refine ⟨?_,?_,r0,r1⟩
     ·rw [← g0]
      by_cases hj0:j=0
      ·subst hj0;simp [Addr.add]
      ·have hj2:¬j*2=0:=by omega
       simp [Addr.add,hj2]
     ·rw [← g1]
      simp [Addr.add,Nat.add_assoc]
  ·rw [List.length_map,List.length_range]
   have:m≤2^63 - 1:=hm
   omega
  ·obtain ⟨j,hj,rfl⟩:=List.mem_map.1 hr
   obtain ⟨_,_,⟨_,l1,l2⟩,_,l3,l4⟩:=hfe j (by have:=List.mem_range.1 hj;omega)
   exact ⟨⟨by omega,fun q hq=>by have:=l2 q hq;omega⟩,by omega,fun q hq=>by have:=l4 q hq;omega⟩
set_option maxRecDepth 100000 in
theorem open_pairs {H:Type} {enc:TypeId×Value→H} {W:World} {base:Nat} {v:Value} {d:DataW H} {p:List MemPlace} (hok:Value.okWide Tryz.prog W .any base 28 v)
 (h:DataW.Trod enc Tryz.prog W 0 (fun _=>true) true 28 v d p):∃kss,RowK W v kss∧LenK kss:=by
 obtain ⟨a0,len0,cap0,rfl⟩:=okWide_slice Tryz.underlying28 hok
 obtain ⟨fuel,hf⟩:=h
 have hf':DataW.trod enc Tryz.prog W 0 (fun _=>true) true fuel 28 [.slice a0 len0 cap0]=some (d,p):=by simpa [Value.cells] using hf
 exact open_pairsT hf'
end Go.Proofs.YtanijpekdnkicaaGreatDoor
