/- Proved: what its theorems say. -/
import Derived.Test.YtdaepfjocofkjaaGreatDoorEn43
import Derived.Test.YtdaepfjocofkjaaGreatDoorEn12
import Derived.Deep.Matrix
set_option linter.unusedVariables false
set_option linter.unusedSimpArgs false
namespace Go.Proofs.YtdaepfjocofkjaaGreatDoor
open Go.ChangeShapes Go.WideShapes Go.ChangeAt Go.RowKit Go.Joins
theorem Qrv:Tryz.prog.cellsOf 22=1:=by kernel_rfl
theorem Q1c {W:World} {a:Addr} {len cap:Nat} {A:Nat->Option Addr} {L C:Nat->Nat} {Z:Nat->List Int} (hl:len<=cap)
 (hr:∀r,r<cap→W.cell? (a.add r)=some (.slice (A r) (L r) (C r))∧L r≤C r∧C r≤maxLen∧(Z r).length=C r∧(∀n∈Z r,(Lit.int .i64 n).wf=true)∧(A r=none→C r=0)∧
    ∀a',A r=some a'->0<=a'.block/\∀c,c<C r->W.cell? (a'.add c)=some (.int .i64 ((Z r).getD c 0))) :
 ∃xss:List (List Int),xss.length=len/\Qci W (.slice (some a) len cap) xss/\(∀r∈xss,r.length<=9223372036854775807)/\∀r∈xss,∀n∈r,(Lit.int .i64 n).wf=true:=by
 have hget:∀j,j<len->((List.range len).map fun r=>(Z r).take (L r)).getD j []=(Z j).take (L j):=fun j hj=>by simp [List.getD,hj]
 have hlen:∀j,j<cap->((Z j).take (L j)).length=L j:=fun j hj=>by
  obtain ⟨_,h2,_,h4,_⟩:=hr j hj;rw [List.length_take,h4];omega
 refine ⟨(List.range len).map fun r=>(Z r).take (L r),by simp,?_,?_,?_⟩
 ·rcases Nat.eq_zero_or_pos len with h0 | h0
  ·subst h0;exact Or.inl ⟨_,_,rfl,rfl⟩
  ·have hrow:∀j,j<len→Row W (.slice (A j) (L j) (C j)) ((Z j).take (L j)):=fun j hj=>by
    obtain ⟨h1,h2,h3,h4,h5,h6,h7⟩:=hr j (by omega)
    cases hA:A j with
    | none=>
      have hc:=h6 hA;have hL:L j=0:=by omega
      exact Or.inl ⟨none,C j,by rw [hL],by rw [hL];rfl⟩
    | some a'=>exact Qfe h2 h4 (fun i hi=>(h7 a' hA).2 i (by omega))
   obtain ⟨h1,_⟩:=hr 0 (by omega);obtain ⟨b,o,spot⟩:=a;have hspot:spot=none:=by simpa [Addr.add] using World.cell?_spot h1
   subst hspot;refine Or.inr ⟨b,o,cap,fun j=>.slice (A j) (L j) (C j),by simp,?_,by simpa using h0,fun j hj=>?_⟩
   ·have:=block_lt_of_cell h1
    simpa [Addr.add] using this
   ·have hj':j<len:=by simpa using hj
    rw [hget j hj'];refine ⟨?_,hrow j hj'⟩;rw [<- (hr j (by omega)).1]
    by_cases hj0:j=0
    ·subst hj0;simp [Addr.add]
    ·simp [Addr.add,hj0]
 ·intro r hr2;obtain ⟨j,hj,rfl⟩:=List.mem_map.1 hr2;have hj':j<len:=by simpa using hj
  rw [hlen j (by omega)];obtain ⟨_,h2,h3,_⟩:=hr j (by omega);have:C j<=2^63 - 1:=h3;omega
 ·intro r hr2 n hn;obtain ⟨j,hj,rfl⟩:=List.mem_map.1 hr2;have hj':j<len:=by simpa using hj
  exact (hr j (by omega)).2.2.2.2.1 n (List.mem_of_mem_take hn)
def Q23 (xss:List (List Int)):Prop:=xss.length<=9223372036854775807/\∀q∈xss,q.length<=9223372036854775807
theorem Qkc {H:Type} {enc:TypeId×Value->H} {W:World} {fuel:Nat} {v:Value} {x:DataW H×List MemPlace} (h:DataW.trod enc Tryz.prog W 0 (fun _=>true) true fuel 25 [v]=some x):∃xss,Qci W v xss/\Q23 xss:=by
 rcases Go.Deep.open_int_rows Tryz.underlying25 Tryz.underlying22 Tryz.underlying3 Qrv Qi0 h with ⟨hcs,_⟩ | ⟨a,len,cap,A,L,C,Z,hcs,_,hl,hm,_,hr⟩
 ·simp at hcs;subst hcs;exact ⟨[],Or.inl ⟨none,0,rfl,rfl⟩,by simp [Q23]⟩
 ·simp at hcs;subst hcs;obtain ⟨xss,e,h1,h2,h3⟩:=Q1c hl hr;refine ⟨xss,h1,?_,h2⟩;rw [e];have:cap<=2^63 - 1:=hm;omega
end Go.Proofs.YtdaepfjocofkjaaGreatDoor
