/- Proved: what its theorems say. -/
import Derived.Lib.LaidTab
import Derived.OpenVars
import Derived.Test.YthcidnnkakppcaaGreatDoorModel
import Derived.Test.YthcidnnkakppcaaGreatDoorRem2
set_option linter.unusedVariables false
set_option linter.unusedSimpArgs false
namespace Go.Proofs.YthcidnnkakppcaaGreatDoor
open Go.ChangeShapes Go.WideShapes Go.ChangeAt Go.RowKit
open M1
theorem Ql3 (n:Nat) (h:n<2):isP n=false:=by unfold isP;rw [if_pos h]
theorem Ql4 (n:Nat) (w:World) (hn:n<18446744073709551616) :
  Calls Tryz.prog 128 #[.int .u64 n] w fun e w'=>e=.returned (.bool (isP n))/\Old w w':=by
 by_cases h2:n<2
 ·rw [Ql3 n h2];have hd:decide ((n:Int)<2)=true:=by simp;omega
  go_enter Tryz.func128,Tryz.ntmps128;go_wp2_with fail;go_ret;exact ⟨rfl,Old.refl _⟩
 ·exact Qra n w _ (by omega) hn (St.start n h2)
theorem Ql5 (n:Nat) (w:World) (hn:n<18446744073709551616) (hP:Qe0 w) (hT:Qbb w) :
  Calls Tryz.prog 141 #[.int .u64 n] w fun e w'=>e=.returned (.bool (isP n))/\∃k,w'=w.drewN k:=by
 by_cases h2:n<2
 ·rw [Ql3 n h2];have hd:decide ((n:Int)<2)=true:=by simp;omega
  go_enter Tryz.func141,Tryz.ntmps141;go_wp2_with fail;go_ret;exact ⟨rfl,0,rfl⟩
 ·exact Qq9 n w _ (by omega) hn hP hT (St.start n h2) (Q2b n (by omega) hn)
theorem lt_of_cell {w:World} {b o:Nat} {v:Value} (h:w.cell? ⟨b,o,none⟩=some v):b<w.heap.size:=by
 by_cases hb:b<w.heap.size
 ·exact hb
 ·exfalso;have h0:w.heap[b]? = none:=Array.getElem?_eq_none (by omega)
  simp [World.cell?,h0] at h
theorem Qe0.old {w w1:World} (h:Qe0 w) (g:Old w w1):Qe0 w1:=fun j hj=>by rw [g.cell (lt_of_cell (h j hj))];exact h j hj
theorem Qbb.old {w w1:World} (h:Qbb w) (g:Old w w1):Qbb w1:=fun j hj=>by rw [g.cell (lt_of_cell (h j hj))];exact h j hj
theorem var_stays {H:Type} {enc:TypeId×Value→H} {P:Program} (hl:laidOutB P=true) {W W':World} (hg:Old W W') {n:String} {gs:List (DataW H)} {ps:List MemPlace}
  (hv:varsRowed P [n]=true) (h:DataW.TrodVars enc P W (fun _=>true) [n] gs ps) {sp:Nat->Bool} (hsp:∀p∈ps,sp p.block=true):DataW.TrodVars enc P W' sp [n] gs ps:=by
 have hlt:=h.lt;obtain ⟨g,t,cs,fuel,d,p,rfl,h1,h2,h3,h4,rfl⟩:=trodVars_one h
 have ht:P.readableRec t=true/\t<P.types.size:=by
  have:=hv;simp only [varsRowed,List.all_cons,List.all_nil,Bool.and_true] at this;rw [h1] at this
  cases hgl:P.globals[g]? with
  | none=>rw [hgl] at h2;cases h2
  | some gl=>
    rw [hgl] at h2;obtain rfl:gl.type=t:=Option.some.inj h2
    simpa [hgl] using this
 have hp:∀x∈p,x.block<W.heap.size:=fun x hx=>hlt x (by simp [hx])
 have hgb:g<W.heap.size:=by
  unfold World.var? at h3
  rw [h1] at h3;simp only [Option.bind_some] at h3
  cases hh:W.heap[g]? with
  | none=>rw [hh] at h3;cases h3
  | some o=>exact (Array.getElem?_eq_some_iff.1 hh).1
 have h3':W'.var? P n=some cs:=by
  unfold World.var? at h3 ⊢
  rw [h1] at h3 ⊢;simp only [Option.bind_some] at h3 ⊢;rw [hg.block _ hgb];exact h3
 have same:∀x∈p,W.sameAt W' x:=by
  intro x hx;have:=hp x hx
  cases x with
  | cell b o=>exact hg.cell this
  | map b=>exact hg.block _ this
 exact trodVars_mk1 h1 h2 h3' (DataW.trod_stays (Go.kids_book hl ht.1) (Go.book_sized ht.1) (fun h=>by cases h) ⟨ht.2,Go.book_self t⟩ h4 same (fun x hx=>hsp x (by simp [hx])))
end Go.Proofs.YthcidnnkakppcaaGreatDoor
