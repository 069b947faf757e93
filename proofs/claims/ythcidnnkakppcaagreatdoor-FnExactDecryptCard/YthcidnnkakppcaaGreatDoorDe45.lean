/- Proved: what its theorems say. -/
import Derived.Test.YthcidnnkakppcaaGreatDoorDe44
import Derived.Test.YthcidnnkakppcaaGreatDoorDe10
import Derived.Deep.Matrix
set_option linter.unusedVariables false
set_option linter.unusedSimpArgs false
set_option maxRecDepth 100000
namespace Go.Proofs.YthcidnnkakppcaaGreatDoor
open Go.ChangeShapes Go.WideShapes Go.ChangeAt Go.RowKit Go.Joins
theorem Qsb:Tryz.prog.cellsOf 22=1:=by kernel_rfl
theorem Q1t {W:World} {a:Addr} {len cap:Nat} {A:Nat→Option Addr} {L C:Nat→Nat} {Z:Nat→List Int} (hl:len≤cap)
  (hr:∀r,r<cap→W.cell? (a.add r)=some (.slice (A r) (L r) (C r))∧L r≤C r∧C r≤maxLen∧(Z r).length=C r∧(∀n∈Z r,(Lit.int .i64 n).wf=true)∧(A r=none→C r=0)∧
     ∀a',A r=some a'->0<=a'.block/\∀c,c<C r->W.cell? (a'.add c)=some (.int .i64 ((Z r).getD c 0))) :
  ∃xss:List (List Int),xss.length=len/\Qdq W (.slice (some a) len cap) xss/\(∀r∈xss,r.length<=9223372036854775807)/\∀r∈xss,∀n∈r,(Lit.int .i64 n).wf=true:=by
 have hget:∀j,j<len->((List.range len).map fun r=>(Z r).take (L r)).getD j []=(Z j).take (L j):=fun j hj=>by simp [List.getD,hj]
 have hlen:∀j,j<cap->((Z j).take (L j)).length=L j:=fun j hj=>by
  obtain ⟨_,h2,_,h4,_⟩:=hr j hj;rw [List.length_take,h4];omega
 refine ⟨(List.range len).map fun r=>(Z r).take (L r),by simp,?_,?_,?_⟩
 ·rcases Nat.eq_zero_or_pos len with h0 | h0
  ·subst h0;exact Or.inl ⟨_,_,rfl,rfl⟩
  ·have hrow:∀j,j<len→Row W (.slice (A j) (L j) (C j)) ((Z j).take (L j)):=fun j hj=>by
    obtain ⟨h1,h2,h3,h4,h5,h6,h7⟩:=hr j (by omega)
    cases hA:A j with
    | none=>
      have hc:=h6 hA;have hL:L j=0:=by omega
      exact Or.inl ⟨none,C j,by rw [hL],by rw [hL];rfl⟩
    | some a'=>exact Qfe h2 h4 (fun i hi=>(h7 a' hA).2 i (by omega))
   obtain ⟨h1,_⟩:=hr 0 (by omega);obtain ⟨b,o,spot⟩:=a;have hspot:spot=none:=by simpa [Addr.add] using World.cell?_spot h1
   subst hspot;refine Or.inr ⟨b,o,cap,fun j=>.slice (A j) (L j) (C j),by simp,?_,by simpa using h0,fun j hj=>?_⟩
   ·have:=block_lt_of_cell h1
    simpa [Addr.add] using this
   ·have hj':j<len:=by simpa using hj
    rw [hget j hj'];refine ⟨?_,hrow j hj'⟩;rw [<- (hr j (by omega)).1]
    by_cases hj0:j=0
    ·subst hj0;simp [Addr.add]
    ·simp [Addr.add,hj0]
 ·intro r hr2;obtain ⟨j,hj,rfl⟩:=List.mem_map.1 hr2;have hj':j<len:=by simpa using hj
  rw [hlen j (by omega)];obtain ⟨_,h2,h3,_⟩:=hr j (by omega);have:C j<=2^63 - 1:=h3;omega
 ·intro r hr2 n hn;obtain ⟨j,hj,rfl⟩:=List.mem_map.1 hr2;have hj':j<len:=by simpa using hj
  exact (hr j (by omega)).2.2.2.2.1 n (List.mem_of_mem_take hn)
theorem Qpe:Tryz.prog.cellsOf 27=1:=by kernel_rfl
theorem Qpf:Tryz.prog.cellsOf 54=1:=by kernel_rfl
theorem Qvj {H:Type} {enc:TypeId×Value→H} {P:Program} {w:World} {base:Nat} {spare:Nat→Bool} {held:Bool} {r:Reach} {b0:Nat} {t:TypeId} {f0:Field} {v:Value} {d:DataW H} {p:List MemPlace} (hs:P.underlying t=some (.struct #[f0])) (hone:Go.Deep.oneCellFields P #[f0]=true) (hC:P.cellsOf t=1)
  (hv:Value.okWide P w r b0 t v) (h:DataW.Trod enc P w base spare held t v d p) :
  ∃(v0:Value) (y0:DataW H×List MemPlace) (n:Nat),v=.agg #[v0]/\DataW.trod enc P w base spare held n f0.type [v0]=some y0:=by
 obtain ⟨cs,rfl,hsz⟩:=okWide_struct hs hv;have hs1:=hsz.trans hC
 obtain ⟨c0,rfl⟩:∃c0,cs=#[c0]:=by
  refine ⟨cs[0]'(by omega),?_⟩;apply Array.ext
  ·simpa using hs1
  ·intro i h1 h2;have:i=0:=by omega
   subst this;simp
 obtain ⟨fuel,hf⟩:=h;obtain ⟨y0,n,hx,_,h0⟩:=trod_struct1 hs hf;obtain ⟨o0,k0⟩:=Go.Deep.hone_of hone 0 f0 rfl;exact ⟨c0,y0,n,rfl,by simpa [Value.cells,o0,k0] using h0⟩
def Q3s (xss:List (List Int)):Prop:=xss.length<=9223372036854775807/\∀q∈xss,q.length<=9223372036854775807
theorem Qsc {H:Type} {enc:TypeId×Value->H} {W:World} {fuel:Nat} {v:Value} {x:DataW H×List MemPlace} (h:DataW.trod enc Tryz.prog W 0 (fun _=>true) true fuel 54 [v]=some x):∃xss,Qdq W v xss/\Q3s xss:=by
 rcases Go.Deep.open_int_rows Tryz.underlying54 Tryz.underlying22 Tryz.underlying3 Qsb Qii h with ⟨hcs,_⟩ | ⟨a,len,cap,A,L,C,Z,hcs,_,hl,hm,_,hr⟩
 ·simp at hcs;subst hcs;exact ⟨[],Or.inl ⟨none,0,rfl,rfl⟩,by simp [Q3s]⟩
 ·simp at hcs;subst hcs;obtain ⟨xss,e,h1,h2,h3⟩:=Q1t hl hr;refine ⟨xss,h1,?_,h2⟩;rw [e];have:cap<=2^63 - 1:=hm;omega
theorem Qpg {H:Type} {enc:TypeId×Value→H} {W:World} {base:Nat} {v:Value} {d:DataW H} {p:List MemPlace} (hok:Value.okWide Tryz.prog W .any base 27 v)
  (h:DataW.Trod enc Tryz.prog W 0 (fun _=>true) true 27 v d p):∃u xsss,v=.agg #[u]/\Qmd W u xsss/\xsss.length<=9223372036854775807/\∀r∈xsss,Q3s r:=by
 obtain ⟨c0,y0,n,rfl,hy0⟩:=Qvj Tryz.underlying27 (by kernel_rfl) Qpe hok h;rcases Go.Deep.open_slice1 Tryz.underlying25 Qpf hy0 with ⟨hcs,_⟩ | ⟨a,len,cap,m,n',V,D,Pl,hcs,_,hl,hm,hmm,_,hv⟩
 ·simp at hcs;subst hcs;exact ⟨_,[],rfl,.inl ⟨none,0,rfl,rfl⟩,by simp,by simp⟩
 ·simp at hcs;subst hcs;simp only [if_true] at hmm;subst hmm
  have key:∀i,∃xss:List (List Int),i<m->Qdq W (V i) xss/\Q3s xss:=fun i=>by
   by_cases hi:i<m
   ·obtain ⟨xss,h1,h2⟩:=Qsc (hv i hi).2;exact ⟨xss,fun _=>⟨h1,h2⟩⟩
   ·exact ⟨[],fun h=>absurd h hi⟩
  obtain ⟨f,hf⟩:=Classical.skolem.1 key;have hget:∀j,j<len->((List.range len).map f).getD j []=f j:=fun j hj=>by simp [List.getD,hj]
  refine ⟨_,(List.range len).map f,rfl,?_,?_,fun r hr=>?_⟩
  ·rcases Nat.eq_zero_or_pos len with h0 | h0
   ·subst h0;exact Or.inl ⟨_,_,rfl,rfl⟩
   ·have h1:=(hv 0 (by omega)).1;obtain ⟨b,o,spot⟩:=a;have hspot:spot=none:=by simpa [Addr.add] using World.cell?_spot h1
    subst hspot;refine Or.inr ⟨b,o,m,V,by simp,?_,by simpa using h0,fun j hj=>?_⟩
    ·have:=block_lt_of_cell h1
     simpa [Addr.add] using this
    ·have hj':j<len:=by simpa using hj
     rw [hget j hj'];refine ⟨?_,(hf j (by omega)).1⟩;rw [<- (hv j (by omega)).1]
     by_cases hj0:j=0
     ·subst hj0;simp [Addr.add]
     ·simp [Addr.add,hj0]
  ·rw [List.length_map,List.length_range];have:m<=2^63 - 1:=hm;omega
  ·obtain ⟨j,hj,rfl⟩:=List.mem_map.1 hr;exact (hf j (by have:=List.mem_range.1 hj;omega)).2
end Go.Proofs.YthcidnnkakppcaaGreatDoor
