/- Proved: what its theorems say. -/
import Derived.Test.YthcidnnkakppcaaGreatDoorDe00
import Derived.Deep.WholeRow
import Derived.Deep.LoopGhost
set_option linter.unusedVariables false
set_option linter.unusedSimpArgs false
set_option maxHeartbeats 1000000
namespace Go.Proofs.YthcidnnkakppcaaGreatDoor
open Go.ChangeShapes Go.WideShapes Go.ChangeAt Go.RowKit
open M2
theorem Qkc (n:Int):bits .and .i64 n 268435455=n%268435456:=by
 have h127:(BitVec.ofInt 64 268435455).toNat=2^28 - 1:=by decide
 have key:(BitVec.ofInt 64 n &&& BitVec.ofInt 64 268435455).toNat=(n%((2^64:Nat):Int)).toNat%2^28:=by
  rw [BitVec.toNat_and,BitVec.toNat_ofInt,h127,Nat.and_two_pow_sub_one_eq_mod]
 show IntKind.i64.wrap ((BitVec.ofInt 64 n &&& BitVec.ofInt 64 268435455).toNat:Nat)=n%268435456
 rw [key,IntKind.wrap_i64];omega
def szA (ls:List Nat) (c:Nat):Array Value:=(ls.map (fun n:Nat=>Value.int .i64 (n:Int))++[Value.int .i64 (c:Int)]).toArray
theorem Qah {ls:List Nat} (h:ls.length=80) (c:Nat):(szA ls c).size=81:=by simp [szA,h]
theorem Qjf {ls:List Nat} (h:ls.length=80) (c:Nat) {j:Nat} (hj:j<80):(szA ls c)[j]? = some (.int .i64 ((ls.getD j 0:Nat):Int)):=by
 simp [szA,List.getElem?_append,h,hj,List.getD]
theorem Qb2 {ls:List Nat} (h:ls.length=80) (c:Nat):(szA ls c)[80]? = some (.int .i64 (c:Int)):=by
 simp [szA,List.getElem?_append,h]
theorem Q0k {ls:List Nat} (h:ls.length=80) (c:Nat) {j:Nat} (hj:j<80) (y:Nat):(szA ls c).setIfInBounds j (.int .i64 (y:Int))=szA (ls.set j y) c:=by
 simp only [szA,List.setIfInBounds_toArray];rw [List.set_append_left _ _ (by simp [h,hj])]
 congr 1
 simp [List.map_set]
theorem Qqb {ls:List Nat} (h:ls.length=80) (c k:Nat):(szA ls c).setIfInBounds 80 (.int .i64 (k:Int))=szA ls k:=by
 simp only [szA,List.setIfInBounds_toArray];rw [List.set_append_right _ _ (by simp [h])];simp [h]
theorem Qoi (ls:List Nat) (c:Nat):(szA ls c).all (·.oneCell')=true:=by
 simp [szA,Value.oneCell']
def szV (n:Nat):Array Value:=szA (pad n) (cnt n)
theorem Qyi:Tryz.zeroCells103=szA (ext []) 0:=by kernel_rfl
theorem Qd8:(Tryz.prog.info? 103).map (·.size)=some 81:=by kernel_rfl
structure Sz (w:World) (g:Nat) (ls:List Nat) (c:Nat):Prop where
 blk:w.heap[g]? = some (.cells (szA ls c) 103 (0,0))
 len:ls.length=80
theorem Sz.lt {w:World} {g:Nat} {ls:List Nat} {c:Nat} (h:Sz w g ls c):g<w.heap.size:=(Array.getElem?_eq_some_iff.1 h.blk).1
theorem Sz.at {w:World} {g:Nat} {ls:List Nat} {c:Nat} (h:Sz w g ls c) {j:Nat} (hj:j<80):w.cell? ⟨g,j,none⟩=some (.int .i64 ((ls.getD j 0:Nat):Int)):=by
 rw [cell_of_row _ _ _ _ _ _ h.blk,Qjf h.len c hj]
theorem Sz.cnt {w:World} {g:Nat} {ls:List Nat} {c:Nat} (h:Sz w g ls c):w.cell? ⟨g,80,none⟩=some (.int .i64 (c:Int)):=by
 rw [cell_of_row _ _ _ _ _ _ h.blk,Qb2 h.len c]
theorem Sz.fro {w:World} {g:Nat} {ls:List Nat} {c:Nat} (h:Sz w g ls c) (j:Nat):w.frozen? ⟨g,j,none⟩=false:=frozen_of_row _ _ _ _ _ h.blk
theorem Sz.old {w w':World} {g:Nat} {ls:List Nat} {c:Nat} (h:Sz w g ls c) (o:Old w w'):Sz w' g ls c:=⟨by rw [o.block g h.lt];exact h.blk,h.len⟩
theorem Sz.set {w:World} {g:Nat} {ls:List Nat} {c:Nat} (h:Sz w g ls c) {j:Nat} (hj:j<80) (y:Nat):Sz (w.setCell ⟨g,j,none⟩ (.int .i64 (y:Int))) g (ls.set j y) c:=
 ⟨by rw [heap_setCell_same w g j _ _ _ h.blk,Q0k h.len c hj y],by rw [List.length_set,h.len]⟩
theorem Sz.setc {w:World} {g:Nat} {ls:List Nat} {c:Nat} (h:Sz w g ls c) (k:Nat):Sz (w.setCell ⟨g,80,none⟩ (.int .i64 (k:Int))) g ls k:=
 ⟨by rw [heap_setCell_same w g 80 _ _ _ h.blk,Qqb h.len c k],h.len⟩
theorem Sz.other {w:World} {g:Nat} {ls:List Nat} {c:Nat} (h:Sz w g ls c) (p:Addr) (hp:g≠p.block) (v:Value):Sz (w.setCell p v) g ls c:=
 ⟨by rw [heap_setCell_other w p g v hp];exact h.blk,h.len⟩
theorem Sz.row {w:World} {g:Nat} {ls:List Nat} {c:Nat} (h:Sz w g ls c) (ls':List Nat) (c':Nat) (hl:ls'.length=80):Sz (w.setRow g (szA ls' c')) g ls' c':=
 ⟨setRow_heap w g _ _ _ _ h.blk,hl⟩
theorem Sz.otherRow {w:World} {g:Nat} {ls:List Nat} {c:Nat} (h:Sz w g ls c) {g':Nat} (hg:g≠g') (cs:Array Value):Sz (w.setRow g' cs) g ls c:=
 ⟨by rw [setRow_other w g' g cs hg];exact h.blk,h.len⟩
theorem Sz.drew {w:World} {g:Nat} {ls:List Nat} {c:Nat} (h:Sz w g ls c) (n:Nat):Sz (w.drewN n) g ls c:=⟨h.blk,h.len⟩
theorem Sz.alloc {w:World} {g:Nat} {ls:List Nat} {c:Nat} (h:Sz w g ls c) (o:Obj):Sz (w.alloc o) g ls c:=⟨by rw [show (w.alloc o).heap[g]? = w.heap[g]? from heap_alloc_old w o h.lt];exact h.blk,h.len⟩
theorem Sz.new (w:World) (ls:List Nat) (c:Nat) (hl:ls.length=80):Sz (w.alloc (.cells (szA ls c) 103)) w.heap.size ls c:=⟨heap_alloc_new w _,hl⟩
theorem Sz.new' (w:World) (ls:List Nat) (c g:Nat) (hl:ls.length=80) (hg:g=w.heap.size):Sz (w.alloc (.cells (szA ls c) 103)) g ls c:=by subst hg;exact Sz.new w ls c hl
theorem Sz.zero (w:World) (g:Nat) (hg:g=w.heap.size):Sz (w.alloc (.cells Tryz.zeroCells103 103)) g (ext []) 0:=by
 rw [Qyi];exact Sz.new' w _ _ g (Qdy (by simp)) hg
theorem Old.row {a b:World} (h:Old a b) {g:Nat} (hg:a.heap.size<=g) (cs:Array Value):Old a (b.setRow g cs):=
 ⟨h.os,h.tape,h.output,by rw [setRow_size];exact h.size,fun k hk=>by rw [setRow_other b g k cs (by omega)];exact h.block k hk⟩
section
variable {ops:Array Oper} {rest:List Oper} {a:Act} {w:World} {Q:Exit->Act->World->Prop} {ty:TypeId} {pos:String} {d:Option Tmp} {x y:Operand}
theorem Qaq {af:Array Edge} {g:Nat} {ls:List Nat} {c:Nat} (hs:Sz w g ls c) (hx:a.eval x=.pointer (some ⟨g,0,none⟩))
  (h:wpList Tryz.prog ops Q rest (a.put d (.agg (szA ls c))) w):wpList Tryz.prog ops Q (⟨d,.load 103 x,ty,pos,af,none⟩ :: rest) a w:=
 wpList_load_row rfl 103 x rfl g hx 103 (szA ls c) (0,0) _ hs.blk Tryz.underlying103 rfl (by rw [Qah hs.len];exact Qd8) h
theorem Qap {af:Array Edge} {g:Nat} {ls:List Nat} {c:Nat} (hs:Sz w g ls c) (ls':List Nat) (c':Nat) (hl:ls'.length=80) (hx:a.eval x=.pointer (some ⟨g,0,none⟩)) (hy:a.eval y=.agg (szA ls' c'))
  (h:wpList Tryz.prog ops Q rest (a.put d undef) (w.setRow g (szA ls' c'))):wpList Tryz.prog ops Q (⟨d,.store 103 x y,ty,pos,af,none⟩ :: rest) a w:=by
 refine wpList_store_row rfl 103 x y rfl g (szA ls' c') hx hy 103 (szA ls c) hs.blk (by rw [Qah hl];exact Qd8) (by rw [Qah hs.len,Qah hl]) (Qoi _ _) h
end
theorem Qdf {fn:Func} {p:Tmp} (h:fn.results=#[.cell p 103]) (tmps:Array Value) (w:World) {g:Nat} {ls:List Nat} {c:Nat} (hp:tmps.getD p undef=.pointer (some ⟨g,0,none⟩)) (hs:Sz w g ls c) :
  (results fn tmps).run Tryz.prog w=.ok (.agg (szA ls c)) w:=
 results_cell_row h tmps w g 103 (szA ls c) (0,0) _ hp hs.blk Tryz.underlying103 rfl (by rw [Qah hs.len];exact Qd8)
theorem Q0l {fn:Func} {p u:Tmp} (h:fn.results=#[.cell p 103,.tmp u]) (tmps:Array Value) (w:World) {g:Nat} {ls:List Nat} {c:Nat} {y:Value} (hp:tmps.getD p undef=.pointer (some ⟨g,0,none⟩)) (hu:tmps.getD u undef=y) (hs:Sz w g ls c) :
  (results fn tmps).run Tryz.prog w=.ok (.tuple #[.agg (szA ls c),y]) w:=by
 have hld:=run_loadVar_row (P:=Tryz.prog) w g 103 103 (szA ls c) (0,0) _ hs.blk Tryz.underlying103 rfl (by rw [Qah hs.len];exact Qd8);rw [results_cell_tmp h,hp,hu];simp [asAddr,Result.andThen,hld]
theorem Qfb {fn:Func} {p u:Tmp} (h:fn.results=#[.cell p 103,.cell u 103]) (tmps:Array Value) (w:World) {g g':Nat} {ls ls':List Nat} {c c':Nat} (hp:tmps.getD p undef=.pointer (some ⟨g,0,none⟩)) (hu:tmps.getD u undef=.pointer (some ⟨g',0,none⟩)) (hs:Sz w g ls c) (hs':Sz w g' ls' c') :
  (results fn tmps).run Tryz.prog w=.ok (.tuple #[.agg (szA ls c),.agg (szA ls' c')]) w:=by
 have hld:=run_loadVar_row (P:=Tryz.prog) w g 103 103 (szA ls c) (0,0) _ hs.blk Tryz.underlying103 rfl (by rw [Qah hs.len];exact Qd8);have hld':=run_loadVar_row (P:=Tryz.prog) w g' 103 103 (szA ls' c') (0,0) _ hs'.blk Tryz.underlying103 rfl (by rw [Qah hs'.len];exact Qd8);have hp':tmps[p]?.getD undef=.pointer (some ⟨g,0,none⟩):=by simpa using hp
 have hu':tmps[u]?.getD undef=.pointer (some ⟨g',0,none⟩):=by simpa using hu
 simp [results,h,hp',hu',asAddr,Sem.run_bind,Result.andThen,hld,hld']
theorem Qoj (ls:List Nat) (c most:Nat) (w:World) (hl:ls.length=80) (hlim:Lim ls) (hm:most≤80) (hv:val (ls.take most)=val ls) :
  Calls Tryz.prog 105 #[.agg (szA ls c),.int .i64 (most:Int)] w fun e w'=>e=.returned (.agg (szA ls (cnt (val ls))))/\Old w w':=by
 have HV:=Qaa hv;have HL:=Qaa hl;have c80:=Qb2 hl c;clear hv hl;go_enter Tryz.func105,Tryz.ntmps105;go_wp2_with fail;clear c80;rw [Qqb HL.out]
 go_loopw [] (fun W=>∃k:Nat,k<=80/\Hid (Sz W w.heap.size ls k)/\Hid (Sz W (w.heap.size+1) (ext []) 0)/\Hid (val (ls.take k)=val ls)/\Hid (Old w W)) (fun W=>match W.cell? ⟨w.heap.size,80,none⟩ with | some v=>(intOf v).toNat | _=>0)
 case atStart=>exact ⟨most,hm,(Sz.new w ls most HL.out).alloc _,Sz.zero _ _ (by simp),HV,((Old.refl w).alloc _).alloc _⟩
 case round=>
  obtain ⟨k,hk,HS,HZ,HV,HG⟩:=hrel;have c80:=HS.out.cnt;have f80:=HS.out.fro 80;rcases Nat.eq_zero_or_pos k with hk0 | hk0
  ·subst hk0;have e:=Qx6 hlim 0 (by omega) HV.out (Or.inl rfl);have HE:=Qaa e;clear e;go_wp2_with (first | ((with_reducible refine Qaq HS.out ?_ ?_);exact rfl;simp only [Act.put,List.setIfInBounds_toArray,List.set_cons_succ,List.set_cons_zero]) | ((with_reducible refine Qap HZ.out ls 0 HL.out ?_ ?_ ?_);exact rfl;exact rfl;simp only [Act.put]) | ((with_reducible refine bodyPost_ret (Qdf Tryz.results105 _ _ ?_ (HZ.out.row ls 0 HL.out)) ?_ ?_);exact rfl;exact rfl;exact ⟨by rw [HE.out],HG.out.row (by omega) _⟩))
  ·obtain ⟨m,rfl⟩:∃m,k=m+1:=⟨k - 1,by omega⟩
   have c1:=HS.out.at (j:=m) (by omega)
   by_cases hx:ls.getD m 0=0
   ·have HV2:=Qaa (Qil m HV.out hx);rw [hx] at c1;clear HV hx;go_wp2_with fail;refine ⟨⟨m,by omega,HS.out.setc m,HZ.out.other _ (by simp) _,HV2,HG.out.own (by simp) _⟩,?_⟩;rw [(HS.out.setc m).cnt,c80];simp [intOf]
   ·have e:=Qx6 hlim (m+1) (by rw [HL.out];exact hk) HV.out (Or.inr hx);have HE:=Qaa e;clear e;have d1:=Q3v _ hx;generalize ls.getD m 0=x at *;go_wp2_with (first | ((with_reducible refine Qaq HS.out ?_ ?_);exact rfl;simp only [Act.put,List.setIfInBounds_toArray,List.set_cons_succ,List.set_cons_zero]) | ((with_reducible refine Qap HZ.out ls (m+1) HL.out ?_ ?_ ?_);exact rfl;exact rfl;simp only [Act.put]) | ((with_reducible refine bodyPost_ret (Qdf Tryz.results105 _ _ ?_ (HZ.out.row ls (m+1) HL.out)) ?_ ?_);exact rfl;exact rfl;exact ⟨by rw [HE.out],HG.out.row (by omega) _⟩))
end Go.Proofs.YthcidnnkakppcaaGreatDoor
