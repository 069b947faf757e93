/- Proved: what its theorems say. -/
import Derived.Test.YthcidnnkakppcaaGreatDoorBoth
import Derived.Test.YthcidnnkakppcaaGreatDoorCards
import Derived.Test.YthcidnnkakppcaaGreatDoorTie
import Derived.Deep.DeepHandedRow
import Derived.Stop.LaidErr
import Derived.Lib.SmallJoins
set_option linter.unusedVariables false
set_option linter.unusedSimpArgs false
set_option maxRecDepth 100000
namespace Go.Proofs.YthcidnnkakppcaaGreatDoor
open Go.ChangeShapes Go.WideShapes Go.ChangeAt Go.RowKit Go.Joins
set_option maxRecDepth 100000
theorem laidOut:laidOutB Tryz.prog=true:=by kernel_rfl
theorem Qpb:ownKnob Tryz.prog.godebug=none:=by kernel_rfl
theorem Q42 : Tryz.prog.globalNamed "math/bits.deBruijn64tab" = some 1 := by kernel_rfl
theorem Qxz:(Tryz.prog.globals[1]?).map (·.type)=some 198:=by kernel_rfl
theorem Q43 : Tryz.prog.globalNamed "loop.example/g00133/impl.smallPrimes" = some 0 := by kernel_rfl
theorem Qx0:(Tryz.prog.globals[0]?).map (·.type)=some 191:=by kernel_rfl
theorem Qvh:Tryz.prog.cellsOf 198=64:=by kernel_rfl
theorem Qvi:Tryz.prog.cellsOf 191=12:=by kernel_rfl
theorem Q1r:Tryz.prog.cellsOf 5=1:=by kernel_rfl
theorem Qx1:Tryz.prog.cellsOf 146=1:=by kernel_rfl
theorem Qii:Tryz.prog.cellsOf 3=1:=by kernel_rfl
theorem Qx2 : varsRowed Tryz.prog ["loop.example/g00133/impl.smallPrimes"] = true := by kernel_rfl
def Q3q:List Int:=[0,1,56,2,57,49,28,3,61,58,42,50,38,29,17,4,62,47,59,36,45,43,51,22,53,39,33,30,24,18,12,5,63,55,48,27,60,41,37,16,46,35,44,21,52,32,23,11,54,26,40,15,34,20,31,10,25,14,19,9,13,8,7,6]
def Q3r:List Int:=[2,3,5,7,11,13,17,19,23,29,31,37]
theorem Q3n {W : World} {L : List (String × DataW Unit)} (h : laidMet Tryz.prog (("math/bits.deBruijn64tab", Lib.tabData .u8 Q3q) :: L) W) : Qbb W := by
 have t1:=Lib.tabIs_of_head Q42 Qxz Tryz.underlying198 Tryz.underlying5 Q1r Qvh h;intro j hj;rw [t1.cell Q42 j hj];exact congrArg (fun z=>some (Value.int .u8 z)) ((show ∀j,j<64->Q3q.getD j 0=((Lib.deBruijn64tab.getD j 0:Nat):Int) by decide) j hj)
theorem Q3o {W : World} {L : List (String × DataW Unit)} (h : laidMet Tryz.prog (("loop.example/g00133/impl.smallPrimes", Lib.tabData .u64 Q3r) :: L) W) : Qe0 W := by
 have t2:=Lib.tabIs_of_head Q43 Qx0 Tryz.underlying191 Tryz.underlying146 Qx1 Qvi h;intro j hj;rw [t2.cell Q43 j hj];exact congrArg (fun z=>some (Value.int .u64 z)) ((show ∀j,j<12->Q3r.getD j 0=((Qae.getD j 0:Nat):Int) by decide) j hj)
theorem Qfe {w:World} {a:Addr} {len cap:Nat} {zs:List Int} (hl:len<=cap) (hz:zs.length=cap) (hc:∀i,i<zs.length->w.cell? (a.add i)=some (.int .i64 (zs.getD i 0))):Row w (.slice (some a) len cap) (zs.take len):=by
 have el:(zs.take len).length=len:=by rw [List.length_take,Nat.min_eq_left (by omega)]
 rcases Nat.eq_zero_or_pos len with h0 | h0
 ·subst h0;exact Or.inl ⟨some a,cap,rfl,by simp⟩
 ·obtain ⟨b,o,spot⟩:=a;have hspot:spot=none:=by simpa [Addr.add] using World.cell?_spot (hc 0 (by omega))
  subst hspot;refine Or.inr ⟨b,o,cap,by rw [el],?_,by omega,fun j hj=>?_⟩
  ·have:=block_lt_of_cell (hc 0 (by omega))
   simpa [Addr.add] using this
  ·rw [el] at hj;have h1:=hc j (by omega);have e1:(zs.take len).getD j 0=zs.getD j 0:=by simp [List.getD,List.getElem?_take,hj]
   rw [e1,<- h1]
   by_cases hj0:j=0
   ·subst hj0;simp [Addr.add]
   ·simp [Addr.add,hj0]
theorem open_row {H:Type} {enc:TypeId×Value→H} {W:World} {base:Nat} {v:Value} {d:DataW H} {p:List MemPlace} (hok:Value.okWide Tryz.prog W .any base 22 v)
  (h:DataW.Trod enc Tryz.prog W 0 (fun _=>true) true 22 v d p):∃xs,Row W v xs/\xs.length<=9223372036854775807/\∀n∈xs,(Lit.int .i64 n).wf=true:=by
 obtain ⟨a0,len0,cap0,rfl⟩:=okWide_slice Tryz.underlying22 hok;obtain ⟨fuel,hf⟩:=h;rcases open_ints Tryz.underlying22 Tryz.underlying3 Qii hf with ⟨hcs,_⟩ | ⟨x,l,c,zs,hcs,_,hl,hm,hz,_,hcell,hwz⟩
 ·simp [Value.cells] at hcs;obtain ⟨rfl,rfl,rfl⟩:=hcs;exact ⟨[],Or.inl ⟨none,0,rfl,rfl⟩,by simp,by simp⟩
 ·simp [Value.cells] at hcs;obtain ⟨rfl,rfl,rfl⟩:=hcs;have hz':zs.length=cap0:=by simpa using hz
  refine ⟨zs.take len0,Qfe hl hz' hcell,?_,fun n hn=>hwz n (List.mem_of_mem_take hn)⟩;rw [List.length_take];have:cap0<=2^63 - 1:=hm;omega
def Q1s (h:Array Obj):Array Obj:=(h.modify 0 fun o=>match o with
 | .cells _ t frozen=>.cells #[.int .u64 2,.int .u64 3,.int .u64 5,.int .u64 7,.int .u64 11,.int .u64 13,.int .u64 17,.int .u64 19,.int .u64 23,.int .u64 29,.int .u64 31,.int .u64 37] t frozen
 | o=>o).modify 1 fun o=>match o with
 | .cells _ t frozen=>.cells #[.int .u8 0,.int .u8 1,.int .u8 56,.int .u8 2,.int .u8 57,.int .u8 49,.int .u8 28,.int .u8 3,.int .u8 61,.int .u8 58,.int .u8 42,.int .u8 50,.int .u8 38,.int .u8 29,.int .u8 17,.int .u8 4,.int .u8 62,.int .u8 47,.int .u8 59,.int .u8 36,.int .u8 45,.int .u8 43,.int .u8 51,.int .u8 22,.int .u8 53,.int .u8 39,.int .u8 33,.int .u8 30,.int .u8 24,.int .u8 18,.int .u8 12,.int .u8 5,.int .u8 63,.int .u8 55,.int .u8 48,.int .u8 27,.int .u8 60,.int .u8 41,.int .u8 37,.int .u8 16,.int .u8 46,.int .u8 35,.int .u8 44,.int .u8 21,.int .u8 52,.int .u8 32,.int .u8 23,.int .u8 11,.int .u8 54,.int .u8 26,.int .u8 40,.int .u8 15,.int .u8 34,.int .u8 20,.int .u8 31,.int .u8 10,.int .u8 25,.int .u8 14,.int .u8 19,.int .u8 9,.int .u8 13,.int .u8 8,.int .u8 7,.int .u8 6] t frozen
 | o=>o
def lay (w:World):World:={w with heap:=Q1s w.heap}
theorem Qpc:Tryz.prog.cellsOf 24=4:=by kernel_rfl
theorem Qpd {H:Type} {enc:TypeId×Value→H} {W:World} {base:Nat} {v:Value} {d:DataW H} {p:List MemPlace} (hok:Value.okWide Tryz.prog W .any base 24 v)
  (h:DataW.Trod enc Tryz.prog W 0 (fun _=>true) true 24 v d p):∃n t e u xs,v=.agg #[.int .i64 n,.int .i64 t,.int .i64 e,u]/\Row W u xs/\xs.length<=9223372036854775807/\(Lit.int .i64 n).wf=true/\∀n∈xs,(Lit.int .i64 n).wf=true:=by
 obtain ⟨c0,c1,c2,c3,y0,y1,y2,y3,m,rfl,rfl,rfl,hy0,hy1,hy2,hy3⟩:=open_agg4 Tryz.underlying24 (by kernel_rfl) Qpc hok h;obtain ⟨n,e0,_,wn⟩:=DataW.trod_int Tryz.underlying3 hy0;obtain ⟨t,e1,_,wt⟩:=DataW.trod_int Tryz.underlying3 hy1;obtain ⟨e,e2,_,we⟩:=DataW.trod_int Tryz.underlying3 hy2;simp at e0 e1 e2;subst e0 e1 e2;rcases open_ints Tryz.underlying22 Tryz.underlying3 Qii hy3 with ⟨hcs,_⟩ | ⟨x,l,c,zs,hcs,_,hl,hm,hz,_,hcell,hwz⟩
 ·simp at hcs;subst hcs;exact ⟨n,t,e,_,[],rfl,Or.inl ⟨none,0,rfl,rfl⟩,by simp,wn,by simp⟩
 ·simp at hcs;subst hcs;have hz':zs.length=c:=by simpa using hz
  refine ⟨n,t,e,_,zs.take l,rfl,Qfe hl hz' hcell,?_,wn,fun n hn=>hwz n (List.mem_of_mem_take hn)⟩;rw [List.length_take];have:c<=2^63 - 1:=hm;omega
end Go.Proofs.YthcidnnkakppcaaGreatDoor
