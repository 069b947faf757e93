/- Proved: what its theorems say. -/
import Derived.Test.YthcidnnkakppcaaGreatDoorDe02
import Derived.Deep.RegionLawGrows
set_option linter.unusedVariables false
set_option linter.unusedSimpArgs false
namespace Go.Proofs.YthcidnnkakppcaaGreatDoor
open Go.ChangeShapes Go.WideShapes Go.ChangeAt Go.RowKit
open M2
def nat (xs:List Int):List Nat:=xs.map Int.toNat
theorem Qcu (xs:List Int):(nat xs).length=xs.length:=by simp [nat]
theorem Qt1 (xs:List Int) (j:Nat):(nat xs).getD j 0=(xs.getD j 0).toNat:=by
 simp only [nat,List.getD,List.getElem?_map]
 cases xs[j]? <;> rfl
theorem Q0v {xs:List Int} (h:∀j,j<xs.length->0<=xs.getD j 0):toI (nat xs)=xs:=by
 apply List.ext_getElem
 ·simp [toI,nat]
 ·intro i h1 h2;have:=h i h2;simp only [toI,nat,List.map_map,List.getElem_map,Function.comp];have e:xs.getD i 0=xs[i]:=by simp [List.getD,h2]
  rw [e] at this;omega
theorem Qd3 {n:Bool} {xs:List Int} (h:Good n xs):toI (nat xs)=xs/\Gw n (nat xs)/\(nat xs).length<=40:=by
 have hr:=fun j hj=>(h.2.2 j hj).1.1
 refine ⟨Q0v hr,⟨⟨?_,?_⟩,?_⟩,by rw [Qcu];exact h.1⟩
 ·intro x hx;obtain ⟨j,hj,e⟩:=List.getElem_of_mem hx;rw [Qcu] at hj;have h2:=(h.2.2 j hj).1;have h3:=Qt1 xs j;have e2:(nat xs).getD j 0=x:=by rw [← e];simp [List.getD,Qcu,hj]
  rw [e2] at h3;unfold LB;omega
 ·intro hne h0
  have hl:0<xs.length:=by
   rcases Nat.eq_zero_or_pos xs.length with h1 | h1
   ·exact absurd (List.length_eq_zero_iff.1 (by rw [Qcu];exact h1)) hne
   ·exact h1
  rw [List.getLast_eq_getElem] at h0;have hj:xs.length - 1<xs.length:=by omega
  have h2:=h.2.2 (xs.length - 1) hj;have h3:=Qt1 xs (xs.length - 1)
  have e2:(nat xs).getD (xs.length - 1) 0=0:=by
   rw [<- h0];simp [List.getD,Qcu,hj]
  rw [e2] at h3;exact h2.2 ⟨by omega,by omega⟩
 ·intro hn he;have:xs.length=0:=by rw [← Qcu,he];rfl
  exact h.2.1 ⟨this,hn⟩
def told (z:Int):Bool×List Nat×Bool:=if (dg z).length<=40 then (ng z,dg z,true) else (false,[],false)
def nought:Bool×List Nat×Bool:=(false,[],false)
def Qt2 (n m:Bool) (xs ys:List Int):Bool×List Nat×Bool:=if Good n xs/\Good m ys then told (sv n (nat xs)+sv m (nat ys)) else nought
def Qvn (n m:Bool) (xs ys:List Int):Bool×List Nat×Bool:=if Good n xs/\Good m ys then told (sv n (nat xs)*sv m (nat ys)) else nought
theorem Qfw (z:Int) (h0 : -9223372036854775808<=z) (h1:z<=9223372036854775807):(dg z).length<=40:=by
 refine Nat.le_trans (Qpt (k:=3) ?_) (by omega);unfold LB;omega
end Go.Proofs.YthcidnnkakppcaaGreatDoor
