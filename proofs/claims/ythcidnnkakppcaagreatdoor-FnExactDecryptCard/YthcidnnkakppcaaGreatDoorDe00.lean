/- Proved: what its theorems say. -/
import Derived.Test.YthcidnnkakppcaaGreatDoorRows
import Derived.Handy
import Derived.ShutString
import Derived.BigQuiet
import Derived.Test.YthcidnnkakppcaaGreatDoorDe01
set_option linter.unusedVariables false
set_option linter.unusedSimpArgs false
set_option maxHeartbeats 4000000
namespace Go.Proofs.YthcidnnkakppcaaGreatDoor
open Go.ChangeShapes Go.WideShapes Go.ChangeAt Go.RowKit
def Row (w:World) (v:Value) (xs:List Int):Prop:=
 (∃a cap,v=.slice a 0 cap/\xs=[])∨∃b o cap,v=.slice (some ⟨b,o,none⟩) xs.length cap/\b<w.heap.size/\0<xs.length/\∀j,j<xs.length->w.cell? ⟨b,o+j,none⟩=some (.int .i64 (xs.getD j 0))
abbrev Old (w w':World):Prop:=Below w.heap.size w w'
theorem Qaa {P:Prop} (h:P):Hid P:=h
theorem Old.refl (w:World):Old w w:=Below.refl _ _
theorem Old.trans {a b c:World} (h:Old a b) (k:Old b c):Old a c:=Below.trans h (k.mono h.size)
theorem Old.drewN {a b:World} (h:Old a b) (n:Nat):Old a (b.drewN n):=⟨h.os,h.tape,h.output,h.size,h.block⟩
theorem Old.alloc {a b:World} (h:Old a b) (o:Obj):Old a (b.alloc o):=Below.alloc h h.size o
theorem Old.own {a b:World} (h:Old a b) {p:Addr} (hp:a.heap.size<=p.block) (v:Value):Old a (b.setCell p v):=Below.setCell h hp v
theorem Row.old {w w':World} {v:Value} {xs:List Int} (h:Row w v xs) (g:Old w w'):Row w' v xs:=by
 rcases h with h1 | ⟨b,o,cap,e,hb,h0,hc⟩
 ·exact Or.inl h1
 ·exact Or.inr ⟨b,o,cap,e,Nat.lt_of_lt_of_le hb g.size,h0,fun j hj=>by rw [g.cell (p:=⟨b,o+j,none⟩) hb];exact hc j hj⟩
theorem Row.slice {w:World} {v:Value} {xs:List Int} (h:Row w v xs):∃a cap,v=.slice a xs.length cap:=by
 rcases h with ⟨a,cap,e,e2⟩ | ⟨b,o,cap,e,_⟩
 ·exact ⟨a,cap,by rw [e,e2];rfl⟩
 ·exact ⟨_,cap,e⟩
abbrev Own (w:World) (base:Nat) (v:Value) (xs:List Int):Prop:=w.ownsRow base 3 1 v xs.length (xs.map (Value.int .i64))
theorem Own.row {w:World} {base:Nat} {v:Value} {xs:List Int} (h:Own w base v xs):Row w v xs:=by
 rcases h.2 with ⟨e,h0⟩ | ⟨g,cap,cur,e,hb,hg,h1,h2,h3,h4⟩
 ·exact Or.inl ⟨none,0,e,List.length_eq_zero_iff.1 h0⟩
 ·subst e
  by_cases h0:xs.length=0
  ·exact Or.inl ⟨_,cap,by rw [h0],List.length_eq_zero_iff.1 h0⟩
  ·refine Or.inr ⟨g,0,cap,rfl,(Array.getElem?_eq_some_iff.1 hg).1,by omega,fun j hj=>?_⟩;have:=World.ownsRow.cellAt h j (by omega);rw [Nat.zero_add,this];simp [List.getD,hj]
theorem Own.old {w w':World} {base:Nat} {v:Value} {xs:List Int} (h:Own w base v xs) (g:Old w w'):Own w' base v xs:=by
 refine ⟨h.1,?_⟩;rcases h.2 with hn | ⟨p,cap,cur,rfl,hb,hgg,rest⟩
 ·exact .inl hn
 ·refine .inr ⟨p,cap,cur,rfl,hb,?_,rest⟩;rw [g.block p (Array.getElem?_eq_some_iff.1 hgg).1];exact hgg
theorem Own.low {w:World} {base base':Nat} {v:Value} {xs:List Int} (h:Own w base v xs) (hb:base'<=base):Own w base' v xs:=by
 refine ⟨h.1,?_⟩;rcases h.2 with hn | ⟨p,cap,cur,rfl,hb1,rest⟩
 ·exact .inl hn
 ·exact .inr ⟨p,cap,cur,rfl,Nat.le_trans hb hb1,rest⟩
theorem Own.take {w:World} {base:Nat} {a:Option Addr} {cap:Nat} {xs:List Int} (h:Own w base (.slice a xs.length cap) xs) (k:Nat) (hk:k<=xs.length):Own w base (.slice a k cap) (xs.take k):=by
 have e:(xs.take k).length=k:=by rw [List.length_take,Nat.min_eq_left hk]
 unfold Own;rw [e];refine ⟨by simp [Nat.min_eq_left hk],?_⟩;rcases h.2 with ⟨h1,h2⟩ | ⟨g,cap',cur,h1,hb,hg,h2,h3,h4,h5⟩
 ·simp only [Value.slice.injEq] at h1;obtain ⟨rfl,_,rfl⟩:=h1;exact .inl ⟨by rw [show k=0 by omega],by omega⟩
 ·simp only [Value.slice.injEq] at h1;obtain ⟨rfl,_,rfl⟩:=h1;refine .inr ⟨g,cap,cur,rfl,hb,hg,by omega,h3,h4,?_⟩;rw [Nat.mul_one] at h5 ⊢;rw [List.map_take,<- h5,List.take_take,Nat.min_eq_left hk]
theorem Qbg {a b:World} (h:a.grownBy b none):Old a b:=Below.grown (Below.refl _ _) h (Nat.le_refl _) (fun _ h=>by cases h)
theorem Qad (w:World) (xs:Array Value) (t:TypeId) (b j:Nat) (hb:b=w.heap.size):(w.alloc (.cells xs t)).cell? ⟨b,j,none⟩=xs[j]?:=by
 subst hb;exact cell_of_row _ _ _ _ _ (0,0) (heap_alloc_new w _)
theorem Qa0 (w:World) (o:Obj) (b j:Nat) (hb:b<w.heap.size):(w.alloc o).cell? ⟨b,j,none⟩=w.cell? ⟨b,j,none⟩:=World.cell?_of_block (heap_alloc_old w o hb)
theorem Qbp (w:World) (xs:Array Value) (t:TypeId) (b j:Nat) (hb:b=w.heap.size):(w.alloc (.cells xs t)).frozen? ⟨b,j,none⟩=false:=by
 subst hb;exact frozen_of_row _ _ _ _ _ (heap_alloc_new w _)
theorem Qca (w:World) (o:Obj) (b j:Nat) (hb:b<w.heap.size):(w.alloc o).frozen? ⟨b,j,none⟩=w.frozen? ⟨b,j,none⟩:=World.frozen?_of_block (heap_alloc_old w o hb)
theorem Q11 (w:World) (A B C:Array Value) (t u v:TypeId) (j:Nat):(((w.alloc (.cells A t)).alloc (.cells B u)).alloc (.cells C v)).cell? ⟨w.heap.size,j,none⟩=A[j]?:=by
 rw [Qa0 _ _ _ _ (by simp;omega),Qa0 _ _ _ _ (by simp),Qad _ _ _ _ _ rfl]
theorem Q1u (w:World) (A B C:Array Value) (t u v:TypeId) (j:Nat):(((w.alloc (.cells A t)).alloc (.cells B u)).alloc (.cells C v)).cell? ⟨w.heap.size+1,j,none⟩=B[j]?:=by
 rw [Qa0 _ _ _ _ (by simp),Qad _ _ _ _ _ (by simp)]
theorem Qvk (w:World) (A B C:Array Value) (t u v:TypeId) (j:Nat):(((w.alloc (.cells A t)).alloc (.cells B u)).alloc (.cells C v)).cell? ⟨w.heap.size+1+1,j,none⟩=C[j]?:=by
 rw [Qad _ _ _ _ _ (by simp)]
theorem Q3u (w:World) (A B:Array Value) (t u:TypeId) (j:Nat):((w.alloc (.cells A t)).alloc (.cells B u)).cell? ⟨w.heap.size,j,none⟩=A[j]?:=by
 rw [Qa0 _ _ _ _ (by simp),Qad _ _ _ _ _ rfl]
theorem Q1v (w:World) (A B:Array Value) (t u:TypeId) (j:Nat):((w.alloc (.cells A t)).alloc (.cells B u)).cell? ⟨w.heap.size+1,j,none⟩=B[j]?:=by
 rw [Qad _ _ _ _ _ (by simp)]
theorem Q4u (w:World) (A B C:Array Value) (t u v:TypeId) (j:Nat):(((w.alloc (.cells A t)).alloc (.cells B u)).alloc (.cells C v)).frozen? ⟨w.heap.size+1,j,none⟩=false:=by
 rw [Qca _ _ _ _ (by simp),Qbp _ _ _ _ _ (by simp)]
theorem Qvl (w:World) (A B C:Array Value) (t u v:TypeId) (j:Nat):(((w.alloc (.cells A t)).alloc (.cells B u)).alloc (.cells C v)).frozen? ⟨w.heap.size+1+1,j,none⟩=false:=by
 rw [Qbp _ _ _ _ _ (by simp)]
theorem Q1w (w:World) (A B:Array Value) (t u:TypeId) (j:Nat):((w.alloc (.cells A t)).alloc (.cells B u)).frozen? ⟨w.heap.size+1,j,none⟩=false:=by
 rw [Qbp _ _ _ _ _ (by simp)]
theorem Tryz.infoInt:(Tryz.prog.info? 3).map (fun i=>(i.zero,i.size,i.bytes))=some (some (.int .i64 0),1,8):=by kernel_rfl
def Qbr (xs:List Int) (k:Nat):List Int:=xs.take k++List.replicate (xs.length - k) 0
theorem Qbd (xs:List Int) (k:Nat) (h:k<=xs.length):(Qbr xs k).length=xs.length:=by simp [Qbr];omega
theorem Qch (xs:List Int):Qbr xs 0=List.replicate xs.length 0:=by simp [Qbr]
theorem Qc3 (xs:List Int):Qbr xs xs.length=xs:=by simp [Qbr]
theorem Qeq (xs:List Int) (k:Nat) (h:k<xs.length):xs.take (k+1)=xs.take k++[xs.getD k 0]:=by
 rw [List.take_add_one]
 congr 1
 simp [List.getD,h]
theorem Qc4 (xs:List Int) (k:Nat) (h:k<xs.length):(Qbr xs k).set k (xs.getD k 0)=Qbr xs (k+1):=by
 unfold Qbr;have e:xs.length - k=(xs.length - (k+1))+1:=by omega
 rw [e,List.replicate_succ,List.set_append_right _ _ (by simp [Nat.min_eq_left (Nat.le_of_lt h)]),List.length_take,Nat.min_eq_left (Nat.le_of_lt h),Nat.sub_self,List.set_cons_zero,Qeq xs k h,List.append_assoc];rfl
theorem Qbj (n:Nat):(madeCells (Value.int .i64 0).cells (n*1)).toList=(List.replicate n (0:Int)).map (Value.int .i64):=by
 rw [Nat.mul_one];have:=toList_madeCells_one (.int .i64 0) n;rw [List.map_replicate];exact this
theorem Qf6 (xs:List Int) (v:Value) (w:World) (h:Row w v xs) (hl:xs.length≤1048576) :
  Calls Tryz.prog 8 #[v] w fun e w'=>e=.returned (.slice (some ⟨w.heap.size,0,none⟩) xs.length xs.length)/\Old w w'/\Own w' w.heap.size (.slice (some ⟨w.heap.size,0,none⟩) xs.length xs.length) xs:=by
 obtain ⟨i0,hi,hz0,hz1,hz2⟩:=info_parts Tryz.infoInt;rcases h with ⟨a0,cap0,rfl,rfl⟩ | ⟨b,o,cap0,rfl,hb,h0,hc⟩
 ·go_enter Tryz.func8,Tryz.ntmps8;go_wp2_with (at_make;refine wpList_make_full _ rfl _ _ 22 rfl w.heap.size 3 i0 (.int .i64 0) 1 Tryz.underlying22 hi hz0 hz1 .i64 .i64 _ _ 0 rfl rfl rfl rfl (by rw [hz2];omega) (by unfold maxLen;omega) (Nat.le_refl _) ?_;intro w1 hown hgrow);have HO:Hid (Own w1 w.heap.size (.slice (some ⟨w.heap.size,0,none⟩) 0 0) []):=by rw [Qbj] at hown;exact hown
  have HG:Hid (Old w w1):=Below.grown (Below.refl _ _) hgrow (Nat.le_refl _) (fun _ h=>by cases h);clear hown hgrow;refine wp_loop_rounds 1 ?_
  rw [rounds_succ];go_wp2_with fail;go_ret;exact ⟨rfl,HG.out,HO.out⟩
 ·have HC:=Qaa hc;clear hc;go_enter Tryz.func8,Tryz.ntmps8;go_wp2_with (at_make;refine wpList_make_full _ rfl _ _ 22 rfl w.heap.size 3 i0 (.int .i64 0) 1 Tryz.underlying22 hi hz0 hz1 .i64 .i64 _ _ xs.length rfl rfl rfl rfl (by rw [hz2];omega) (by unfold maxLen;omega) (Nat.le_refl _) ?_;intro w1 hown hgrow);rw [Qbj,← Qch] at hown;have HO:=Qaa hown;have HG:Hid (Old w w1):=Below.grown (Below.refl _ _) hgrow (Nat.le_refl _) (fun _ h=>by cases h);clear hown hgrow
  go_loopw [4] (fun i W=>∃k:Nat,k<=xs.length/\i=.int .i64 k/\Hid (W.ownsRow w.heap.size 3 1 (.slice (some ⟨w.heap.size,0,none⟩) xs.length xs.length) xs.length ((Qbr xs k).map (Value.int .i64)))/\Hid (Old w W)) (fun i _=>xs.length - (intOf i).toNat)
  case atStart=>exact ⟨0,by omega,rfl,HO,HG⟩
  case round=>
   obtain ⟨k,hk,rfl,HO1,HG1⟩:=hrel;clear HO HG
   by_cases hlt:k<xs.length
   ·have c1:=(HG1.out.cell (p:=⟨b,o+k,none⟩) hb).trans (HC.out k hlt)
    have c2:wr.cell? ⟨w.heap.size,k,none⟩=some (.int .i64 ((Qbr xs k).getD k 0)):=by
     rw [World.ownsRow.cellAt HO1.out k (by omega)];have:=Qbd xs k hk;simp [List.getD,this,hlt]
    have c3:=World.ownsRow.frozenAt HO1.out k
    have HS:Hid ((wr.setCell ⟨w.heap.size,k,none⟩ (.int .i64 (xs.getD k 0))).ownsRow w.heap.size 3 1 (.slice (some ⟨w.heap.size,0,none⟩) xs.length xs.length) xs.length ((Qbr xs (k+1)).map (Value.int .i64))):=by
     have:=(World.ownsRow.stored HO1.out k (.int .i64 (xs.getD k 0))).1;rw [<- List.map_set,Qc4 xs k hlt] at this;exact this
    generalize xs.getD k 0=x at *;generalize (Qbr xs k).getD k 0=y at *;go_wp2_with fail;exact ⟨⟨k+1,by omega,by go_num,HS,HG1.out.own (Nat.le_refl _) _⟩,by simp [intOf];omega⟩
   ·have d1:decide ((k:Int)<(xs.length:Int))=false:=by simp;omega
    obtain rfl:k=xs.length:=by omega
    have HF:=HO1.out;rw [Qc3] at HF;have HF':Hid (Own wr w.heap.size (.slice (some ⟨w.heap.size,0,none⟩) xs.length xs.length) xs):=HF;clear HF HO1;go_wp2_with fail;go_ret;exact ⟨rfl,HG1.out,HF'.out⟩
theorem Row.two {w:World} {v u:Value} {xs:List Int} (h:Row w v xs) (k:Row w u xs) :
  (∃a cap a' cap',v=.slice a 0 cap/\u=.slice a' 0 cap'/\xs=[])∨∃b o cap b' o' cap',v=.slice (some ⟨b,o,none⟩) xs.length cap/\u=.slice (some ⟨b',o',none⟩) xs.length cap'/\0<xs.length/\(b<w.heap.size/\b'<w.heap.size)/\(∀j,j<xs.length->w.cell? ⟨b,o+j,none⟩=some (.int .i64 (xs.getD j 0)))/\(∀j,j<xs.length->w.cell? ⟨b',o'+j,none⟩=some (.int .i64 (xs.getD j 0))):=by
 rcases h with ⟨a,cap,e,e2⟩ | ⟨b,o,cap,e,hb,h0,hc⟩
 ·rcases k with ⟨a',cap',e',_⟩ | ⟨b',o',cap',e',hb',h0',hc'⟩
  ·exact Or.inl ⟨a,cap,a',cap',e,e',e2⟩
  ·rw [e2] at h0';simp at h0'
 ·rcases k with ⟨a',cap',e',e2⟩ | ⟨b',o',cap',e',hb',h0',hc'⟩
  ·rw [e2] at h0;simp at h0
  ·exact Or.inr ⟨b,o,cap,b',o',cap',e,e',h0,⟨hb,hb'⟩,hc,hc'⟩
theorem Qer (xs:List Int) (v u:Value) (w:World) (h:Row w v xs) (k:Row w u xs) (hl:xs.length≤1073741824) :
  Calls Tryz.prog 11 #[v,u] w fun e w'=>e=.returned (.bool true)/\Old w w':=by
 rcases Row.two h k with ⟨a,cap,a',cap',rfl,rfl,rfl⟩ | ⟨b,o,cap,b',o',cap',rfl,rfl,h0,⟨hb,hb'⟩,hc,hc'⟩
 ·clear h k;go_enter Tryz.func11,Tryz.ntmps11;go_wp2_with fail;refine wp_loop_rounds 1 ?_
  rw [rounds_succ];go_wp2_with fail;go_ret;exact ⟨rfl,Old.refl _⟩
 ·have HC:=Qaa hc;have HC':=Qaa hc';clear hc hc' h k;go_enter Tryz.func11,Tryz.ntmps11;go_wp2_with fail
  go_loopw [5] (fun i W=>∃k:Nat,k<=xs.length/\i=.int .i64 k/\Hid (Old w W)) (fun i _=>xs.length - (intOf i).toNat)
  case atStart=>exact ⟨0,by omega,rfl,Old.refl _⟩
  case round=>
   obtain ⟨k,hk,rfl,HG⟩:=hrel
   by_cases hlt:k<xs.length
   ·have c1:=(HG.out.cell (p:=⟨b,o+k,none⟩) hb).trans (HC.out k hlt);have c2:=(HG.out.cell (p:=⟨b',o'+k,none⟩) hb').trans (HC'.out k hlt);generalize xs.getD k 0=x at *;go_wp2_with fail
    go_quiet (fail)
    go_wp2_with fail;exact ⟨⟨k+1,by omega,by go_num,HG.out.drewN _⟩,by simp [intOf];omega⟩
   ·go_wp2_with fail;go_ret;exact ⟨rfl,HG.out⟩
def marks (k:Int) (n:Nat):List Int:=(List.range n).map (fun (i:Nat)=>k+(i:Int))
theorem Qb5 (k:Int) (n:Nat):(marks k n).length=n:=by simp [marks]
theorem Qsi (k:Int) (n j:Nat) (h:j<n):(marks k n).getD j 0=k+j:=by simp [marks,List.getD,h]
def Qfj (xs:List Int) (k:Int) (j:Nat):List Int:=marks k j++xs.drop j
theorem Qsj (xs:List Int) (k:Int) (j:Nat) (h:j<=xs.length):(Qfj xs k j).length=xs.length:=by simp [Qfj,Qb5];omega
theorem Qq5 (xs:List Int) (k:Int):Qfj xs k 0=xs:=by simp [Qfj,marks]
theorem Qsk (xs:List Int) (k:Int):Qfj xs k xs.length=marks k xs.length:=by simp [Qfj]
theorem Qsl (xs:List Int) (k:Int) (j:Nat) (h:j<xs.length):(Qfj xs k j).set j (k+j)=Qfj xs k (j+1):=by
 unfold Qfj;rw [List.set_append_right _ _ (by rw [Qb5];exact Nat.le_refl _),Qb5,Nat.sub_self,List.drop_eq_getElem_cons h,List.set_cons_zero];unfold marks;rw [List.range_succ,List.map_append];simp
theorem Qdb (xs:List Int) (v:Value) (k:Int) (base:Nat) (w:World) (h:Own w base v xs) (hl:xs.length≤1073741824) (hk:0≤k) (hk':k≤1073741824) :
  Calls Tryz.prog 15 #[v,.int .i64 k] w fun e w'=>e=.returned (.int .i64 (k+xs.length))/\w.grownBy w' v.ownBlock/\Own w' base v (marks k xs.length):=by
 by_cases h0:xs.length=0
 ·obtain rfl:=List.length_eq_zero_iff.1 h0;have HF:Hid (Own w base v (marks k 0)):=h;obtain ⟨a0,cap0,rfl⟩:=(Own.row h).slice;clear h;go_enter Tryz.func15,Tryz.ntmps15;go_wp2_with fail;refine wp_loop_rounds 1 ?_
  rw [rounds_succ];go_wp2_with fail;go_ret;exact ⟨by simp,World.grownBy.refl _ _,HF.out⟩
 ·obtain ⟨g,cap,rfl⟩:∃g cap,v=.slice (some ⟨g,0,none⟩) xs.length cap:=by
   rcases h.2 with ⟨_,h1⟩ | ⟨g,cap,cur,e,_⟩
   ·exact absurd h1 h0
   ·exact ⟨g,cap,e⟩
  have HO:Hid (w.ownsRow base 3 1 (.slice (some ⟨g,0,none⟩) xs.length cap) xs.length ((Qfj xs k 0).map (Value.int .i64))):=by rw [Qq5];exact h
  clear h;go_enter Tryz.func15,Tryz.ntmps15;go_wp2_with fail
  go_loopw [1,5] (fun m i W=>∃j:Nat,j<=xs.length/\i=.int .i64 j/\m=.int .i64 (k+j)/\Hid (W.ownsRow base 3 1 (.slice (some ⟨g,0,none⟩) xs.length cap) xs.length ((Qfj xs k j).map (Value.int .i64)))/\Hid (w.grownBy W (some g))) (fun _ i _=>xs.length - (intOf i).toNat)
  case atStart=>exact ⟨0,by omega,rfl,by go_num,HO,World.grownBy.refl _ _⟩
  case round=>
   obtain ⟨j,hj,rfl,rfl,HO1,HG1⟩:=hrel;clear HO
   by_cases hlt:j<xs.length
   ·have c2:wr.cell? ⟨g,j,none⟩=some (.int .i64 ((Qfj xs k j).getD j 0)):=by
     rw [World.ownsRow.cellAt HO1.out j (by omega)];have:=Qsj xs k j hj;simp [List.getD,this,hlt]
    have c3:=World.ownsRow.frozenAt HO1.out j;have st:=World.ownsRow.stored HO1.out j (.int .i64 (k+j))
    have HS:Hid ((wr.setCell ⟨g,j,none⟩ (.int .i64 (k+j))).ownsRow base 3 1 (.slice (some ⟨g,0,none⟩) xs.length cap) xs.length ((Qfj xs k (j+1)).map (Value.int .i64))):=by
     have:=st.1;rw [<- List.map_set,Qsl xs k j hlt] at this;exact this
    have HG2:Hid (w.grownBy (wr.setCell ⟨g,j,none⟩ (.int .i64 (k+j))) (some g)):=
     ⟨st.2.os.trans HG1.out.os,st.2.tape.trans HG1.out.tape,st.2.output.trans HG1.out.output,Nat.le_trans HG1.out.size st.2.size,fun p hp hne=>(st.2.block p (Nat.lt_of_lt_of_le hp HG1.out.size) hne).trans (HG1.out.block p hp hne)⟩
    generalize (Qfj xs k j).getD j 0=y at *;clear st HO1 HG1;go_wp2_with fail;exact ⟨⟨j+1,by omega,by go_num,by go_num,HS,HG2⟩,by simp [intOf];omega⟩
   ·have d1:decide ((j:Int)<(xs.length:Int))=false:=by simp;omega
    obtain rfl:j=xs.length:=by omega
    have HF:=HO1.out;rw [Qsk] at HF;have HF':Hid (Own wr base (.slice (some ⟨g,0,none⟩) xs.length cap) (marks k xs.length)):=by unfold Own;rw [Qb5];exact HF
    clear HF HO1;go_wp2_with fail;go_ret;exact ⟨rfl,HG1.out,HF'.out⟩
theorem Qlu (n:Nat) (v:Value) (k:Int) (w:World) (h:Row w v (marks k n)) (hl:n≤1073741824) (hk:0≤k) (hk':k≤1073741824) :
  Calls Tryz.prog 17 #[v,.int .i64 k] w fun e w'=>e=.returned (.int .i64 (k+n))/\Old w w':=by
 rcases h with ⟨a0,cap0,rfl,e2⟩ | ⟨b,o,cap,rfl,hb,h0,hc⟩
 ·have hn:=congrArg List.length e2;rw [Qb5] at hn;obtain rfl:n=0:=by simpa using hn
  clear e2 hn;go_enter Tryz.func17,Tryz.ntmps17;go_wp2_with fail;refine wp_loop_rounds 1 ?_
  rw [rounds_succ];go_wp2_with fail;go_ret;exact ⟨by simp,Old.refl _⟩
 ·rw [Qb5] at hc ⊢;have HC:Hid (∀j,j<n→w.cell? ⟨b,o+j,none⟩=some (.int .i64 (k+j))):=fun j hj=>by rw [hc j hj,Qsi k n j hj]
  clear hc h0;go_enter Tryz.func17,Tryz.ntmps17;go_wp2_with fail
  go_loopw [1,5] (fun m i W=>∃j:Nat,j<=n/\i=.int .i64 j/\m=.int .i64 (k+j)/\Hid (Old w W)) (fun _ i _=>n - (intOf i).toNat)
  case atStart=>exact ⟨0,by omega,rfl,by go_num,Old.refl _⟩
  case round=>
   obtain ⟨j,hj,rfl,rfl,HG⟩:=hrel
   by_cases hlt:j<n
   ·have c1:=(HG.out.cell (p:=⟨b,o+j,none⟩) hb).trans (HC.out j hlt);go_wp2_with fail;exact ⟨⟨j+1,by omega,by go_num,by go_num,HG⟩,by simp [intOf];omega⟩
   ·have d1:decide ((j:Int)<(n:Int))=false:=by simp;omega
    obtain rfl:j=n:=by omega
    go_wp2_with fail;go_ret;exact ⟨rfl,HG.out⟩
end Go.Proofs.YthcidnnkakppcaaGreatDoor
namespace Go.Proofs.YthcidnnkakppcaaGreatDoor
open Go.ChangeShapes Go.WideShapes Go.ChangeAt Go.RowKit
open M2
def toI (xs:List Nat):List Int:=xs.map (fun (n:Nat)=>(n:Int))
theorem Qam (xs:List Nat):(toI xs).length=xs.length:=by simp [toI]
theorem Qj0 (xs:List Nat) (j:Nat):(toI xs).getD j 0=((xs.getD j 0:Nat):Int):=by
 simp only [toI,List.getD,List.getElem?_map]
 cases xs[j]? <;> rfl
theorem Qpp (xs:List Nat) (k:Nat):(toI xs).take k=toI (xs.take k):=by simp [toI]
theorem Qq6 (xs ys:List Nat):toI (xs++ys)=toI xs++toI ys:=by simp [toI]
theorem Row.at {w:World} {a:Option Addr} {n cap:Nat} {xs:List Nat} (h:Row w (.slice a n cap) (toI xs)) (h0:0<xs.length) :
  ∃b o,a=some ⟨b,o,none⟩/\b<w.heap.size/\∀j,j<xs.length->w.cell? ⟨b,o+j,none⟩=some (.int .i64 ((xs.getD j 0:Nat):Int)):=by
 rcases h with ⟨a',cap',e,e2⟩ | ⟨b,o,cap',e,hb,_,hc⟩
 ·have:=congrArg List.length e2;rw [Qam,List.length_nil] at this;omega
 ·simp only [Value.slice.injEq] at e;obtain ⟨rfl,_,_⟩:=e;rw [Qam] at hc;exact ⟨b,o,rfl,hb,fun j hj=>by rw [hc j hj,Qj0]⟩
theorem Row.sliceN {w:World} {v:Value} {xs:List Nat} (h:Row w v (toI xs)):∃a cap,v=.slice a xs.length cap:=by
 obtain ⟨a,cap,e⟩:=h.slice;rw [Qam] at e;exact ⟨a,cap,e⟩
theorem Qpq {xs:List Nat} (h:Lim xs) (k:Nat) (hk:k<=xs.length) (h0:0<k->xs.getD (k - 1) 0≠0):Nrm (xs.take k):=by
 refine ⟨h.take k,fun hne=>?_⟩
 have hk0:0<k:=by
  rcases Nat.eq_zero_or_pos k with e | e
  ·subst e;simp at hne
  ·exact e
 have:=h0 hk0;rw [List.getLast_eq_getElem];simp only [List.length_take,Nat.min_eq_left hk,List.getElem_take]
 simpa [List.getD,show k - 1<xs.length by omega] using this
theorem Q3v (x:Nat) (h:x≠0):((x:Int)==0)=false:=by simp;omega
theorem Qsm {a b:Int} (h:a<b):decide (a<b)=true:=by simp;omega
theorem Qx7 {a b:Int} (h:¬a<b):decide (a<b)=false:=by simp;omega
def sliceLen:Value->Nat
 | .slice _ k _=>k
 | _=>0
theorem Qes (xs:List Nat) (v:Value) (base:Nat) (w:World) (h:Own w base v (toI xs)) (hl:Lim xs) (hn:xs.length≤1073741824) :
  Calls Tryz.prog 90 #[v] w fun e w'=>∃v',e=.returned v'/\Old w w'/\Own w' base v' (toI (Qlm xs)):=by
 by_cases h0:xs.length=0
 ·obtain rfl:=List.length_eq_zero_iff.1 h0
  have HF:Hid (Own w base v (toI (Qlm []))):=by
   have:Qlm []=[]:=Qax;rw [this];exact h
  obtain ⟨a0,cap0,rfl⟩:=(Own.row h).slice;rw [Qam] at *;clear h;go_enter Tryz.func90,Tryz.ntmps90;go_wp2_with fail;refine wp_loop_rounds 1 ?_
  rw [rounds_succ];go_wp2_with fail;go_ret;exact ⟨_,rfl,Old.refl _,HF.out⟩
 ·obtain ⟨g,cap,e⟩:∃g cap,v=.slice (some ⟨g,0,none⟩) xs.length cap:=by
   rcases h.2 with ⟨_,h1⟩ | ⟨g,cap,cur,e,_⟩
   ·rw [Qam] at h1;exact absurd h1 h0
   ·rw [Qam] at e;exact ⟨g,cap,e⟩
  subst e
  have hcap:xs.length<=cap/\cap<=9223372036854775807:=by
   rcases h.2 with ⟨h1,_⟩ | ⟨g',cap',cur,e,_,_,h1,h2,_⟩
   ·simp at h1
   ·simp only [Value.slice.injEq] at e;obtain ⟨_,_,rfl⟩:=e;rw [Qam] at h1;exact ⟨h1,h2⟩
  obtain ⟨hcap1,hcap2⟩:=hcap;have HO:=Qaa h;obtain ⟨b,o,e1,hb,hc⟩:=Row.at (Own.row h) (by omega);obtain ⟨rfl,rfl⟩:b=g/\o=0:=by cases e1;exact ⟨rfl,rfl⟩
  simp only [Nat.zero_add] at hc;have HC:=Qaa hc;clear h hc e1;go_enter Tryz.func90,Tryz.ntmps90;go_wp2_with fail
  go_loopw [0] (fun u W=>∃k:Nat,k<=xs.length/\u=.slice (some ⟨b,0,none⟩) k cap/\Hid (val (xs.take k)=val xs)/\Hid (Old w W)) (fun u _=>sliceLen u)
  case atStart=>exact ⟨xs.length,Nat.le_refl _,rfl,by rw [List.take_length];rfl,Old.refl _⟩
  case round=>
   obtain ⟨k,hk,rfl,HV,HG⟩:=hrel;rcases Nat.eq_zero_or_pos k with hk0 | hk0
   ·subst hk0
    have HF:Hid (Own wr base (.slice (some ⟨b,0,none⟩) 0 cap) (toI (Qlm xs))):=by
     have e:Qlm xs=xs.take 0:=by
      unfold Qlm;rw [<- HV.out];exact Qea (Qpq hl 0 (by omega) (fun h=>absurd h (by omega)))
     rw [e,<- Qpp];exact Own.take (by rw [Qam];exact HO.out.old HG.out) 0 (by omega)
    clear HO;go_wp2_with fail;go_ret;exact ⟨_,rfl,HG.out,HF.out⟩
   ·obtain ⟨m,rfl⟩:∃m,k=m+1:=⟨k - 1,by omega⟩
    have c1:=(HG.out.cell (p:=⟨b,m,none⟩) hb).trans (HC.out m (by omega));have d0:decide ((0:Int)<((m+1:Nat):Int))=true:=by simp <;> omega
    by_cases hx:xs.getD m 0=0
    ·have HV2:Hid (val (xs.take m)=val xs):=by
      have:=HV.out;rw [Qan,hx,Nat.mul_zero,Nat.add_zero] at this;exact this
     rw [hx] at c1;clear HV hx;go_wp2_with fail;exact ⟨⟨m,by omega,rfl,HV2,HG⟩,by simp [sliceLen]⟩
    ·have HF:Hid (Own wr base (.slice (some ⟨b,0,none⟩) (m+1) cap) (toI (Qlm xs))):=by
      have e:Qlm xs=xs.take (m+1):=by
       unfold Qlm;rw [<- HV.out];exact Qea (Qpq hl (m+1) hk (fun _=>hx))
      rw [e,<- Qpp];exact Own.take (by rw [Qam];exact HO.out.old HG.out) (m+1) (by rw [Qam];exact hk)
     have d1:=Q3v _ hx;generalize xs.getD m 0=x at *;clear HO;go_wp2_with fail;go_ret;exact ⟨_,rfl,HG.out,HF.out⟩
theorem Qhh (xs ys:List Nat) (v u:Value) (w:World) (hv:Row w v (toI xs)) (hu:Row w u (toI ys)) (ha:Nrm xs) (hb:Nrm ys) (la:xs.length≤1073741824) (lb:ys.length≤1073741824) :
  Calls Tryz.prog 83 #[v,u] w fun e w'=>e=.returned (.int .i64 (Qb3 (val xs) (val ys)))/\Old w w':=by
 have HV:=Qaa hv;have HU:=Qaa hu;obtain ⟨a0,cap0,rfl⟩:=hv.sliceN;obtain ⟨a1,cap1,rfl⟩:=hu.sliceN;clear hv hu
 by_cases hlen:xs.length=ys.length
 ·have d1:((xs.length:Int) != (ys.length:Int))=false:=by simp;omega
  have HL:=Qaa hlen;clear hlen;go_enter Tryz.func83,Tryz.ntmps83;go_wp2_with fail
  go_loopw [5] (fun i W=>∃k:Nat,k<=xs.length/\i=.int .i64 ((k:Int) - 1)/\Hid (xs.drop k=ys.drop k)/\Hid (Old w W)) (fun i _=>(intOf i+1).toNat)
  case atStart=>exact ⟨xs.length,Nat.le_refl _,rfl,(by show xs.drop xs.length=ys.drop xs.length;rw [List.drop_length,HL.out,List.drop_length]),Old.refl _⟩
  case round=>
   obtain ⟨k,hk,rfl,HD,HG⟩:=hrel;rcases Nat.eq_zero_or_pos k with hk0 | hk0
   ·subst hk0
    have e:Qb3 (val xs) (val ys)=0:=by
     have:xs=ys:=by simpa using HD.out
     rw [this];unfold Qb3;rw [if_neg (by omega),if_neg (by omega)]
    have HE:=Qaa e;clear e;go_wp2_with fail;go_ret;exact ⟨congrArg (fun z=>Ending.returned (.int .i64 z)) HE.out.symm,HG.out⟩
   ·obtain ⟨m,rfl⟩:∃m,k=m+1:=⟨k - 1,by omega⟩
    obtain ⟨b,o,rfl,hb1,hc1⟩:=Row.at (HV.out.old HG.out) (by omega);obtain ⟨b',o',rfl,hb2,hc2⟩:=Row.at (HU.out.old HG.out) (by have:=HL.out;omega);have c1:=hc1 m (by omega);have c2:=hc2 m (by have:=HL.out;omega);clear hc1 hc2;have hm:m<ys.length:=by have:=HL.out;omega
    have em:((m+1:Nat):Int) - 1=(m:Int):=by omega
    have LTa:=Qph (i:=m) ha.1 (by omega) HL.out HD.out;have LTb:=Qph (i:=m) hb.1 hm HL.out.symm HD.out.symm;have EQ:=Qln (i:=m) (by omega) HL.out HD.out;have HA:=Qaa LTa;have HB:=Qaa LTb;have HE:=Qaa EQ;clear LTa LTb EQ HD;generalize xs.getD m 0=x at *;generalize ys.getD m 0=y at *;rw [em];clear em;rcases Nat.lt_trichotomy x y with hxy | hxy | hxy
    ·have d1:decide (x<y)=true:=by simp;omega
     have HE2:Hid (Qb3 (val xs) (val ys) = -1):=by have:=HA.out hxy;unfold Qb3;rw [if_pos this];rfl
     clear hxy;go_wp2_with fail
     go_quiet (fail)
     go_wp2_with fail;go_ret;exact ⟨congrArg (fun z=>Ending.returned (.int .i64 z)) HE2.out.symm,HG.out.drewN _⟩
    ·subst hxy;have HE3:=Qaa (HE.out rfl);clear HE HA HB;go_wp2_with fail
     go_quiet (fail)
     go_wp2_with fail
     go_quiet (fail)
     go_wp2_with fail;exact ⟨⟨m,by omega,rfl,HE3,HG.out.drewN _⟩,by simp [intOf]⟩
    ·have d1:decide (x<y)=false:=by simp;omega
     have d2:decide (y<x)=true:=by simp;omega
     have HE2:Hid (Qb3 (val xs) (val ys)=1):=by have:=HB.out hxy;unfold Qb3;rw [if_neg (by omega),if_pos this];rfl
     clear hxy;go_wp2_with fail
     go_quiet (fail)
     go_wp2_with fail
     go_quiet (fail)
     go_wp2_with fail;go_ret;exact ⟨congrArg (fun z=>Ending.returned (.int .i64 z)) HE2.out.symm,(HG.out.drewN _).drewN _⟩
 ·have d1:((xs.length:Int) != (ys.length:Int))=true:=by simp;omega
  by_cases hlt:xs.length<ys.length
  ·have e:Qb3 (val xs) (val ys) = -1:=by unfold Qb3;rw [if_pos (Qfh ha hb hlt)]
   rw [e];go_enter Tryz.func83,Tryz.ntmps83;go_wp2_with fail;go_ret;exact ⟨rfl,Old.refl _⟩
  ·have e:Qb3 (val xs) (val ys)=1:=by
    have:=Qfh hb ha (by omega);unfold Qb3;rw [if_neg (by omega),if_pos this]
   rw [e];go_enter Tryz.func83,Tryz.ntmps83;go_wp2_with fail;go_ret;exact ⟨rfl,Old.refl _⟩
abbrev Q44 (xs:List Int) (j:Nat):Prop:=(0<=xs.getD j 0/\xs.getD j 0<=268435455)/\¬(xs.getD j 0=0/\j+1=xs.length)
abbrev Good (n:Bool) (xs:List Int):Prop:=xs.length<=40/\¬(xs.length=0/\n=true)/\∀j,j<xs.length->Q44 xs j
end Go.Proofs.YthcidnnkakppcaaGreatDoor
namespace Go.Proofs.YthcidnnkakppcaaGreatDoor
open Go.ChangeShapes Go.WideShapes Go.ChangeAt Go.RowKit
theorem Qf7 (a:Option Addr) (len cap:Nat) (left:Int) (w:World) (hl:len≤9223372036854775807) (h0:0≤left) (h1:left≤1048576) :
  Calls Tryz.prog 18 #[.slice a len cap,.int .i64 left] w fun e w'=>e=.returned (.int .i64 (if left<(len:Int) then -1 else left - len))/\w'=w:=by
 by_cases h:left<(len:Int)
 ·have d:decide (left - (len:Int)<0)=true:=by simp;omega
  rw [if_pos h];go_enter Tryz.func18,Tryz.ntmps18;go_wp2_with fail;go_ret;exact ⟨rfl,rfl⟩
 ·have d:decide (left - (len:Int)<0)=false:=by simp;omega
  rw [if_neg h];go_enter Tryz.func18,Tryz.ntmps18;go_wp2_with fail;go_ret;exact ⟨rfl,rfl⟩
structure Chg (w w':World) (lo hi:Nat):Prop where
 os:w'.os=w.os
 tape:w'.tape=w.tape
 output:w'.output=w.output
 size:w.heap.size<=w'.heap.size
 block:∀b,b<w.heap.size->(b<lo∨hi<=b)->w'.heap[b]? = w.heap[b]?
theorem Old.toChg {w w':World} (h:Old w w') (lo hi:Nat):Chg w w' lo hi:=⟨h.os,h.tape,h.output,h.size,fun b hb _=>h.block b hb⟩
theorem Chg.trans {a b c:World} {lo hi:Nat} (h:Chg a b lo hi) (k:Chg b c lo hi):Chg a c lo hi:=
 ⟨k.os.trans h.os,k.tape.trans h.tape,k.output.trans h.output,Nat.le_trans h.size k.size,fun i hi ho=>(k.block i (Nat.lt_of_lt_of_le hi h.size) ho).trans (h.block i hi ho)⟩
theorem Old.chg {a w w':World} {lo hi:Nat} (h:Old a w) (c:Chg w w' lo hi) (hlo:a.heap.size<=lo):Old a w':=
 ⟨c.os.trans h.os,c.tape.trans h.tape,c.output.trans h.output,Nat.le_trans h.size c.size,fun b hb=>(c.block b (Nat.lt_of_lt_of_le hb h.size) (Or.inl (Nat.lt_of_lt_of_le hb hlo))).trans (h.block b hb)⟩
theorem Q12 {w w':World} {ob:Option Nat} {lo hi:Nat} (g:w.grownBy w' ob) (hb:∀b,ob=some b->lo<=b/\b<hi):Chg w w' lo hi:=
 ⟨g.os,g.tape,g.output,g.size,fun b hl ho=>g.block b hl (fun h=>by have:=hb b h.symm;omega)⟩
def Far {α:Type} (R:World->Nat->Nat->α->Prop):Prop:=∀W W' lo hi v,R W lo hi v->(∀b,lo<=b->b<hi->W'.heap[b]? = W.heap[b]?)->W.heap.size<=W'.heap.size->R W' lo hi v
theorem Far.old {α:Type} {R:World->Nat->Nat->α->Prop} (f:Far R) {W W':World} {lo hi:Nat} {v:α} (h:R W lo hi v) (g:Old W W') (hh:hi<=W.heap.size):R W' lo hi v:=
 f W W' lo hi v h (fun b _ hb=>g.block b (by omega)) g.size
theorem Far.chg {α:Type} {R:World->Nat->Nat->α->Prop} (f:Far R) {W W':World} {lo hi lo' hi':Nat} {v:α} (h:R W lo hi v) (c:Chg W W' lo' hi') (hh:hi<=W.heap.size) (hd:hi<=lo'∨hi'<=lo):R W' lo hi v:=
 f W W' lo hi v h (fun b h1 h2=>c.block b (by omega) (by omega)) c.size
end Go.Proofs.YthcidnnkakppcaaGreatDoor
namespace Go.Proofs.YthcidnnkakppcaaGreatDoor
open Go.ChangeShapes Go.WideShapes Go.ChangeAt Go.RowKit
open M2
theorem Qbt (w:World) (x:Value) (t:TypeId):∀j u,[x][j]? = some u->(w.alloc (.cells #[x] t)).cell? ((⟨w.heap.size,0,none⟩:Addr).add j)=some u:=by
 intro j u hj
 match j,hj with
 | 0,hj=>simp at hj;subst hj;simp [Addr.add]
theorem Qcc (x:Int):∀u∈[Value.int .i64 x],u.oneCell'=true:=by intro u hu;simp at hu;subst hu;rfl
theorem Own.snocW {w:World} {base:Nat} {v:Value} {xs:List Nat} {y:Nat} (h:w.ownsRow base 3 1 v ((toI xs).length+1) ((toI xs).map (Value.int .i64)++[.int .i64 (y:Int)])):Own w base v (toI (xs++[y])):=by
 unfold Own;rw [Qq6]
 simpa [toI] using h
theorem Old.growW {a b c:World} {v:Value} {xs:List Value} {n:Nat} (h:Old a b) (ho:b.ownsRow a.heap.size 3 1 v n xs) (g:b.grownBy c v.ownBlock):Old a c:=
 Below.grown h g h.size (fun k hk=>(ho.lt k hk).1)
theorem Qj1 (xs ys:List Nat) (v u:Value) (w:World) (hv:Row w v (toI xs)) (hu:Row w u (toI ys)) (ha:Lim xs) (hb:Lim ys) (la:xs.length≤1048576) (lb:ys.length≤1048576) :
  Calls Tryz.prog 57 #[v,u] w fun e w'=>∃v',e=.returned v'/\Old w w'/\Own w' w.heap.size v' (toI (dig (val xs+val ys))):=by
 obtain ⟨i0,hi,hz0,hz1,hz2⟩:=info_parts Tryz.infoInt;have HV:=Qaa hv;have HU:=Qaa hu;obtain ⟨a0,cap0,rfl⟩:=hv.sliceN;obtain ⟨a1,cap1,rfl⟩:=hu.sliceN;clear hv hu;go_enter Tryz.func57,Tryz.ntmps57;go_wp2_with fail
 go_loopw [5,6,7] (fun o c i W=>∃(k:Nat) (out:List Nat) (cc:Nat),(k+cc<=1048577/\cc<=1)/\i=.int .i64 k/\c=.int .i64 cc/\Hid (AddI xs ys k out cc)/\Hid (Own W w.heap.size o (toI out))/\Hid (Old w W)) (fun _ c i _=>2*((max xs.length ys.length) - (intOf i).toNat)+(intOf c).toNat)
 case atStart=>exact ⟨0,[],0,⟨by omega,by omega⟩,rfl,rfl,AddI.start xs ys,World.ownsRow_nil _ _ _ _,Old.refl _⟩
 case round=>
  obtain ⟨k,out,cc,⟨hk,hcc⟩,rfl,rfl,HI,HO,HG⟩:=hrel;have hx:=ha.getD k;have hy:=hb.getD k;have STEP:=HI.out.step ha hb;have HS:=Qaa STEP;clear STEP
  by_cases h1:k<xs.length
  ·obtain ⟨b,o,rfl,hb1,hc1⟩:=Row.at (HV.out.old HG.out) (by omega);have c1:=hc1 k h1;clear hc1
   by_cases h2:k<ys.length
   ·obtain ⟨b',o',rfl,hb2,hc2⟩:=Row.at (HU.out.old HG.out) (by omega);have c2:=hc2 k h2;clear hc2;generalize xs.getD k 0=x at *;generalize ys.getD k 0=y at *;generalize hR:(cc+x+y)%LB=R at *;generalize hQ:(cc+x+y)/LB=Q at *;unfold LB at hR hQ hx hy;have e3:((cc:Int)+(x:Int)+(y:Int))%268435456=(R:Int):=by omega
    have e4:((cc:Int)+(x:Int)+(y:Int))/268435456=(Q:Int):=by omega
    have hQ1:Q<=1:=by omega
    clear hR hQ;go_wp2_with (at_builtin;refine wpList_append_own _ rfl _ _ 47 rfl w.heap.size 3 i0 (.int .i64 0) 1 8 Tryz.underlying47 hi hz0 hz1 hz2 rfl (by decide) _ _ _ rfl (HO.out.alloc _) ⟨wr.heap.size,0,none⟩ 1 1 [.int .i64 (R:Int)] rfl rfl (Qbt _ _ _) (Qcc _) (by rw [Qam,HI.out.len];unfold maxLen;omega) (by rw [Qam,HI.out.len];omega) (by have:=HG.out.size;simp;omega) ?_;intro v' w1 hown hgrow _;have HO2:=Qaa (Own.snocW hown);have HG2:=Qaa (Old.growW (HG.out.alloc _) (HO.out.alloc _) hgrow);clear hown hgrow);exact ⟨⟨k+1,out++[R],Q,⟨by omega,hQ1⟩,by go_num,by first | rw [e4] | (rw [hQ0 hcc];rfl),HS,HO2,HG2⟩,by simp [intOf];omega⟩
   ·have ey0:ys.getD k 0=0:=by simp [List.getD,List.getElem?_eq_none (show ys.length≤k by omega)]
    generalize xs.getD k 0=x at *;rw [ey0] at HS;clear ey0 hy;generalize hR:(cc+x+0)%LB=R at *;generalize hQ:(cc+x+0)/LB=Q at *;unfold LB at hR hQ hx;have e3:((cc:Int)+(x:Int))%268435456=(R:Int):=by omega
    have e4:((cc:Int)+(x:Int))/268435456=(Q:Int):=by omega
    have hQ1:Q<=1:=by omega
    clear hR hQ;go_wp2_with (at_builtin;refine wpList_append_own _ rfl _ _ 47 rfl w.heap.size 3 i0 (.int .i64 0) 1 8 Tryz.underlying47 hi hz0 hz1 hz2 rfl (by decide) _ _ _ rfl (HO.out.alloc _) ⟨wr.heap.size,0,none⟩ 1 1 [.int .i64 (R:Int)] rfl rfl (Qbt _ _ _) (Qcc _) (by rw [Qam,HI.out.len];unfold maxLen;omega) (by rw [Qam,HI.out.len];omega) (by have:=HG.out.size;simp;omega) ?_;intro v' w1 hown hgrow _;have HO2:=Qaa (Own.snocW hown);have HG2:=Qaa (Old.growW (HG.out.alloc _) (HO.out.alloc _) hgrow);clear hown hgrow);exact ⟨⟨k+1,out++[R],Q,⟨by omega,hQ1⟩,by go_num,by first | rw [e4] | (rw [hQ0 hcc];rfl),HS,HO2,HG2⟩,by simp [intOf];omega⟩
  ·by_cases h2:k<ys.length
   ·obtain ⟨b',o',rfl,hb2,hc2⟩:=Row.at (HU.out.old HG.out) (by omega);have c2:=hc2 k h2;clear hc2;have ex0:xs.getD k 0=0:=by simp [List.getD,List.getElem?_eq_none (show xs.length≤k by omega)]
    rw [ex0] at HS;clear ex0 hx;generalize ys.getD k 0=y at *;generalize hR:(cc+0+y)%LB=R at *;generalize hQ:(cc+0+y)/LB=Q at *;unfold LB at hR hQ hy;have e3:((cc:Int)+(y:Int))%268435456=(R:Int):=by omega
    have e4:((cc:Int)+(y:Int))/268435456=(Q:Int):=by omega
    have hQ1:Q<=1:=by omega
    clear hR hQ;go_wp2_with (at_builtin;refine wpList_append_own _ rfl _ _ 47 rfl w.heap.size 3 i0 (.int .i64 0) 1 8 Tryz.underlying47 hi hz0 hz1 hz2 rfl (by decide) _ _ _ rfl (HO.out.alloc _) ⟨wr.heap.size,0,none⟩ 1 1 [.int .i64 (R:Int)] rfl rfl (Qbt _ _ _) (Qcc _) (by rw [Qam,HI.out.len];unfold maxLen;omega) (by rw [Qam,HI.out.len];omega) (by have:=HG.out.size;simp;omega) ?_;intro v' w1 hown hgrow _;have HO2:=Qaa (Own.snocW hown);have HG2:=Qaa (Old.growW (HG.out.alloc _) (HO.out.alloc _) hgrow);clear hown hgrow);exact ⟨⟨k+1,out++[R],Q,⟨by omega,hQ1⟩,by go_num,by first | rw [e4] | (rw [hQ0 hcc];rfl),HS,HO2,HG2⟩,by simp [intOf];omega⟩
   ·rcases Nat.eq_zero_or_pos cc with hc0 | hc0
    ·subst hc0;have HT:=Qaa (HI.out.done (by omega) (by omega) rfl);have HL:Hid (Lim out∧out.length=k):=⟨HI.out.lim,HI.out.len⟩;clear HS HI;go_wp2_with fail;refine (Qes out _ w.heap.size _ HO.out HL.out.1 (by have:=HL.out.2;omega)).mono ?_
     rintro e w1 ⟨v',rfl,g1,o1⟩;have HG2:=Qaa (Old.trans HG.out g1);have HO2:=Qaa o1;clear g1 o1;go_wp2_with fail;go_ret;exact ⟨_,rfl,HG2.out,by rw [<- HT.out];exact HO2.out⟩
    ·have ex0:xs.getD k 0=0:=by simp [List.getD,List.getElem?_eq_none (show xs.length≤k by omega)]
     have ey0:ys.getD k 0=0:=by simp [List.getD,List.getElem?_eq_none (show ys.length<=k by omega)]
     rw [ex0] at HS;clear ex0 hx;rw [ey0] at HS;clear ey0 hy;generalize hR:(cc+0+0)%LB=R at *;generalize hQ:(cc+0+0)/LB=Q at *;unfold LB at hR hQ;have e3:((cc:Int))%268435456=(R:Int):=by omega
     have e4:((cc:Int))/268435456=(Q:Int):=by omega
     have hQ1:Q<=1:=by omega
     have hQ0:cc<=1->Q=0:=by omega
     clear hR hQ;go_wp2_with (at_builtin;refine wpList_append_own _ rfl _ _ 47 rfl w.heap.size 3 i0 (.int .i64 0) 1 8 Tryz.underlying47 hi hz0 hz1 hz2 rfl (by decide) _ _ _ rfl (HO.out.alloc _) ⟨wr.heap.size,0,none⟩ 1 1 [.int .i64 (R:Int)] rfl rfl (Qbt _ _ _) (Qcc _) (by rw [Qam,HI.out.len];unfold maxLen;omega) (by rw [Qam,HI.out.len];omega) (by have:=HG.out.size;simp;omega) ?_;intro v' w1 hown hgrow _;have HO2:=Qaa (Own.snocW hown);have HG2:=Qaa (Old.growW (HG.out.alloc _) (HO.out.alloc _) hgrow);clear hown hgrow);exact ⟨⟨k+1,out++[R],Q,⟨by omega,hQ1⟩,by go_num,by first | rw [e4] | (rw [hQ0 hcc];rfl),HS,HO2,HG2⟩,by simp [intOf];omega⟩
theorem Qhi (xs ys:List Nat) (v u:Value) (w:World) (hv:Row w v (toI xs)) (hu:Row w u (toI ys)) (ha:Nrm xs) (hb:Nrm ys) (la:xs.length≤1048576) (lb:ys.length≤1048576) (hle:val ys≤val xs) :
  Calls Tryz.prog 84 #[v,u] w fun e w'=>∃v',e=.returned v'/\Old w w'/\Own w' w.heap.size v' (toI (dig (val xs - val ys))):=by
 obtain ⟨i0,hi,hz0,hz1,hz2⟩:=info_parts Tryz.infoInt;have hyx:=Qi3 ha hb hle;have HLE:=Qaa hle;have HV:=Qaa hv;have HU:=Qaa hu;obtain ⟨a0,cap0,rfl⟩:=hv.sliceN;obtain ⟨a1,cap1,rfl⟩:=hu.sliceN;clear hv hu hle;go_enter Tryz.func84,Tryz.ntmps84;go_wp2_with fail
 go_loopw [5,6,11] (fun o c i W=>∃(k:Nat) (out:List Nat) (cc:Nat),(k<=xs.length/\cc<=1)/\i=.int .i64 k/\c=.int .i64 cc/\Hid (SubI xs ys k out cc)/\Hid (Own W w.heap.size o (toI out))/\Hid (Old w W)) (fun _ _ i _=>xs.length - (intOf i).toNat)
 case atStart=>exact ⟨0,[],0,⟨by omega,by omega⟩,rfl,rfl,SubI.start xs ys,World.ownsRow_nil _ _ _ _,Old.refl _⟩
 case round=>
  obtain ⟨k,out,cc,⟨hk,hcc⟩,rfl,rfl,HI,HO,HG⟩:=hrel
  by_cases h1:k<xs.length
  ·obtain ⟨b,o,rfl,hb1,hc1⟩:=Row.at (HV.out.old HG.out) (by omega);have c1:=hc1 k h1;clear hc1;have hx:=ha.1.getD k;have hy:=hb.1.getD k;have S0:=HI.out.stepNo ha.1;have S1:=HI.out.stepYes ha.1 hb.1;have H0:=Qaa S0;have H1:=Qaa S1;clear S0 S1
   by_cases h2:k<ys.length
   ·obtain ⟨b',o',rfl,hb2,hc2⟩:=Row.at (HU.out.old HG.out) (by omega);have c2:=hc2 k h2;clear hc2;generalize xs.getD k 0=x at *;generalize ys.getD k 0=y at *;unfold LB at hx hy H1
    by_cases hd:cc+y<=x
    ·have HS:=Qaa (H0.out hd);generalize hD:x - cc - y=D at *;have e1:(x:Int) - (cc:Int) - (y:Int)=(D:Int):=by omega
     have d1:decide ((D:Int)<0)=false:=by simp
     clear H0 H1 hd hD;go_wp2_with (at_builtin;refine wpList_append_own _ rfl _ _ 47 rfl w.heap.size 3 i0 (.int .i64 0) 1 8 Tryz.underlying47 hi hz0 hz1 hz2 rfl (by decide) _ _ _ rfl (HO.out.alloc _) ⟨wr.heap.size,0,none⟩ 1 1 [.int .i64 (D:Int)] rfl rfl (Qbt _ _ _) (Qcc _) (by rw [Qam,HI.out.len];unfold maxLen;omega) (by rw [Qam,HI.out.len];omega) (by have:=HG.out.size;simp;omega) ?_;intro v' w1 hown hgrow _;have HO2:=Qaa (Own.snocW hown);have HG2:=Qaa (Old.growW (HG.out.alloc _) (HO.out.alloc _) hgrow);clear hown hgrow);exact ⟨⟨k+1,out++[D],0,⟨by omega,by omega⟩,by go_num,rfl,HS,HO2,HG2⟩,by simp [intOf];omega⟩
    ·have HS:=Qaa (H1.out (by omega));generalize hD:x+268435456 - cc - y=D at *;have e1:(x:Int) - (cc:Int) - (y:Int)+268435456=(D:Int):=by omega
     have d1:decide ((x:Int) - (cc:Int) - (y:Int)<0)=true:=by simp;omega
     clear H0 H1 hd hD;go_wp2_with (at_builtin;refine wpList_append_own _ rfl _ _ 47 rfl w.heap.size 3 i0 (.int .i64 0) 1 8 Tryz.underlying47 hi hz0 hz1 hz2 rfl (by decide) _ _ _ rfl (HO.out.alloc _) ⟨wr.heap.size,0,none⟩ 1 1 [.int .i64 (D:Int)] rfl rfl (Qbt _ _ _) (Qcc _) (by rw [Qam,HI.out.len];unfold maxLen;omega) (by rw [Qam,HI.out.len];omega) (by have:=HG.out.size;simp;omega) ?_;intro v' w1 hown hgrow _;have HO2:=Qaa (Own.snocW hown);have HG2:=Qaa (Old.growW (HG.out.alloc _) (HO.out.alloc _) hgrow);clear hown hgrow);exact ⟨⟨k+1,out++[D],1,⟨by omega,by omega⟩,by go_num,rfl,HS,HO2,HG2⟩,by simp [intOf];omega⟩
   ·have ey0:ys.getD k 0=0:=by simp [List.getD,List.getElem?_eq_none (show ys.length≤k by omega)]
    rw [ey0] at H0 H1;clear ey0 hy;generalize xs.getD k 0=x at *;unfold LB at hx H1
    by_cases hd:cc+0<=x
    ·have HS:=Qaa (H0.out hd);generalize hD:x - cc - 0=D at *;have e1:(x:Int) - (cc:Int)=(D:Int):=by omega
     have d1:decide ((D:Int)<0)=false:=by simp
     clear H0 H1 hd hD;go_wp2_with (at_builtin;refine wpList_append_own _ rfl _ _ 47 rfl w.heap.size 3 i0 (.int .i64 0) 1 8 Tryz.underlying47 hi hz0 hz1 hz2 rfl (by decide) _ _ _ rfl (HO.out.alloc _) ⟨wr.heap.size,0,none⟩ 1 1 [.int .i64 (D:Int)] rfl rfl (Qbt _ _ _) (Qcc _) (by rw [Qam,HI.out.len];unfold maxLen;omega) (by rw [Qam,HI.out.len];omega) (by have:=HG.out.size;simp;omega) ?_;intro v' w1 hown hgrow _;have HO2:=Qaa (Own.snocW hown);have HG2:=Qaa (Old.growW (HG.out.alloc _) (HO.out.alloc _) hgrow);clear hown hgrow);exact ⟨⟨k+1,out++[D],0,⟨by omega,by omega⟩,by go_num,rfl,HS,HO2,HG2⟩,by simp [intOf];omega⟩
    ·have HS:=Qaa (H1.out (by omega));generalize hD:x+268435456 - cc - 0=D at *;have e1:(x:Int) - (cc:Int)+268435456=(D:Int):=by omega
     have d1:decide ((x:Int) - (cc:Int)<0)=true:=by simp;omega
     clear H0 H1 hd hD;go_wp2_with (at_builtin;refine wpList_append_own _ rfl _ _ 47 rfl w.heap.size 3 i0 (.int .i64 0) 1 8 Tryz.underlying47 hi hz0 hz1 hz2 rfl (by decide) _ _ _ rfl (HO.out.alloc _) ⟨wr.heap.size,0,none⟩ 1 1 [.int .i64 (D:Int)] rfl rfl (Qbt _ _ _) (Qcc _) (by rw [Qam,HI.out.len];unfold maxLen;omega) (by rw [Qam,HI.out.len];omega) (by have:=HG.out.size;simp;omega) ?_;intro v' w1 hown hgrow _;have HO2:=Qaa (Own.snocW hown);have HG2:=Qaa (Old.growW (HG.out.alloc _) (HO.out.alloc _) hgrow);clear hown hgrow);exact ⟨⟨k+1,out++[D],1,⟨by omega,by omega⟩,by go_num,rfl,HS,HO2,HG2⟩,by simp [intOf];omega⟩
  ·obtain rfl:k=xs.length:=by omega
   have HT:=Qaa (HI.out.done rfl hyx HLE.out);have HL:Hid (Lim out/\out.length=xs.length):=⟨HI.out.lim,HI.out.len⟩;clear HI;go_wp2_with fail;refine (Qes out _ w.heap.size _ HO.out HL.out.1 (by have:=HL.out.2;omega)).mono ?_
   rintro e w1 ⟨v',rfl,g1,o1⟩;have HG2:=Qaa (Old.trans HG.out g1);have HO2:=Qaa o1;clear g1 o1;go_wp2_with fail;go_ret;exact ⟨_,rfl,HG2.out,by rw [<- HT.out];exact HO2.out⟩
theorem Qlv (n:Nat) (w:World) (hn:n≤9223372036854775807) :
  Calls Tryz.prog 56 #[.int .i64 n] w fun e w'=>∃v',e=.returned v'/\Old w w'/\Own w' w.heap.size v' (toI (dig n)):=by
 obtain ⟨i0,hi,hz0,hz1,hz2⟩:=info_parts Tryz.infoInt;have hlen:(dig n).length<=3:=Qay (by unfold LB;omega);go_enter Tryz.func56,Tryz.ntmps56;go_wp2_with fail
 go_loopw [0,3] (fun m o W=>∃(m':Nat) (out:List Nat),m'<=9223372036854775807/\m=.int .i64 m'/\Hid (dig n=out++dig m')/\Hid (Own W w.heap.size o (toI out))/\Hid (Old w W)) (fun m _ _=>(intOf m).toNat)
 case atStart=>exact ⟨n,[],hn,rfl,rfl,World.ownsRow_nil _ _ _ _,Old.refl _⟩
 case round=>
  obtain ⟨m,out,hm,rfl,HI,HO,HG⟩:=hrel;rcases Nat.eq_zero_or_pos m with h0 | h0
  ·subst h0;have HE:Hid (dig n=out):=by have:=HI.out;rw [Qax,List.append_nil] at this;exact this
   clear HI;go_wp2_with fail;go_ret;exact ⟨_,rfl,HG.out,by rw [HE.out];exact HO.out⟩
  ·have HS:=Qaa (Qpk HI.out (by omega))
   have hol:out.length<=3:=by
    have:=congrArg List.length HI.out;rw [List.length_append] at this;omega
   generalize hR:m%LB=R at *;generalize hQ:m/LB=Q at *;unfold LB at hR hQ;have e3:(m:Int)%268435456=(R:Int):=by omega
   have e4:(m:Int)/268435456=(Q:Int):=by omega
   have hQm:Q<m:=by omega
   clear hR hQ HI;go_wp2_with (at_builtin;refine wpList_append_own _ rfl _ _ 47 rfl w.heap.size 3 i0 (.int .i64 0) 1 8 Tryz.underlying47 hi hz0 hz1 hz2 rfl (by decide) _ _ _ rfl (HO.out.alloc _) ⟨wr.heap.size,0,none⟩ 1 1 [.int .i64 (R:Int)] rfl rfl (Qbt _ _ _) (Qcc _) (by rw [Qam];skip;unfold maxLen;omega) (by rw [Qam];skip;omega) (by have:=HG.out.size;simp;omega) ?_;intro v' w1 hown hgrow _;have HO2:=Qaa (Own.snocW hown);have HG2:=Qaa (Old.growW (HG.out.alloc _) (HO.out.alloc _) hgrow);clear hown hgrow);exact ⟨⟨Q,out++[R],by omega,by first | rfl | rw [e4],HS,HO2,HG2⟩,by simp [intOf];omega⟩
theorem Qvt (xs:List Nat) (m:Nat) (v:Value) (w:World) (hv:Row w v (toI xs)) (hx:Lim xs) (la:xs.length≤1048576) (hm:1≤m) (hm':m≤268435456) :
  Calls Tryz.prog 52 #[v,.int .i64 m] w fun e w'=>e=.returned (.int .i64 ((val xs%m:Nat):Int))/\Old w w':=by
 have HV:=Qaa hv;obtain ⟨a0,cap0,rfl⟩:=hv.sliceN;clear hv;have hmn:¬m=0:=by omega
 go_enter Tryz.func52,Tryz.ntmps52;go_wp2_with fail
 go_loopw [5,6] (fun r i W=>∃(k r':Nat),(k<=xs.length/\r'<m)/\r=.int .i64 r'/\i=.int .i64 ((k:Int) - 1)/\Hid (r'=val (xs.drop k)%m)/\Hid (Old w W)) (fun _ i _=>(intOf i+1).toNat)
 case atStart=>exact ⟨xs.length,0,⟨Nat.le_refl _,by omega⟩,rfl,rfl,(by show 0=val (xs.drop xs.length)%m;rw [List.drop_length];rfl),Old.refl _⟩
 case round=>
  obtain ⟨k,r,⟨hk,hr⟩,rfl,rfl,HD,HG⟩:=hrel;rcases Nat.eq_zero_or_pos k with hk0 | hk0
  ·subst hk0;have HE:Hid (r=val xs%m):=HD.out;clear HD;go_wp2_with fail;go_ret;exact ⟨congrArg (fun (z:Nat)=>Ending.returned (.int .i64 (z:Int))) HE.out,HG.out⟩
  ·obtain ⟨j,rfl⟩:∃j,k=j+1:=⟨k - 1,by omega⟩
   obtain ⟨b,o,rfl,hb1,hc1⟩:=Row.at (HV.out.old HG.out) (by omega);have c1:=hc1 j (by omega);clear hc1;have hxj:=hx.getD j;have HS:Hid ((r*LB+xs.getD j 0)%m=val (xs.drop j)%m):=by rw [HD.out];exact Qsf xs j m (by omega)
   have em:((j+1:Nat):Int) - 1=(j:Int):=by omega
   generalize xs.getD j 0=x at *;rw [em];unfold LB at HS hxj;have hlt:(r*268435456+x)%m<m:=Nat.mod_lt _ (by omega);generalize hR:(r*268435456+x)%m=R at *;have e3:((r:Int)*268435456+(x:Int))%(m:Int)=(R:Int):=by rw [<- hR];simp
   clear hR em HD;go_wp2_with fail;exact ⟨⟨j,R,⟨by omega,hlt⟩,by rw [e3],by go_num,HS,HG⟩,by simp [intOf]⟩
theorem Qsn (xs:List Nat) (bit:Nat) (v:Value) (w:World) (hv:Row w v (toI xs)) (hx:Nrm xs) (la:xs.length≤1048576) (hbit:bit≤1) :
  Calls Tryz.prog 114 #[v,.int .i64 bit] w fun e w'=>∃v',e=.returned v'/\Old w w'/\Own w' w.heap.size v' (toI (dig (2*val xs+bit))):=by
 obtain ⟨i0,hi,hz0,hz1,hz2⟩:=info_parts Tryz.infoInt;have HV:=Qaa hv;obtain ⟨a0,cap0,rfl⟩:=hv.sliceN;clear hv;go_enter Tryz.func114,Tryz.ntmps114;go_wp2_with fail
 go_loopw [1,5,10] (fun c o i W=>∃(k:Nat) (out:List Nat) (cc:Nat),(k<=xs.length/\cc<=1)/\i=.int .i64 k/\c=.int .i64 cc/\Hid (ShI xs bit k out cc)/\Hid (Own W w.heap.size o (toI out))/\Hid (Old w W)) (fun _ _ i _=>xs.length - (intOf i).toNat)
 case atStart=>exact ⟨0,[],bit,⟨by omega,hbit⟩,rfl,rfl,ShI.start xs bit hbit,World.ownsRow_nil _ _ _ _,Old.refl _⟩
 case round=>
  obtain ⟨k,out,cc,⟨hk,hcc⟩,rfl,rfl,HI,HO,HG⟩:=hrel
  by_cases h1:k<xs.length
  ·obtain ⟨b,o,rfl,hb1,hc1⟩:=Row.at (HV.out.old HG.out) (by omega);have c1:=hc1 k h1;clear hc1;have hxk:=hx.1.getD k;have HS:=Qaa (HI.out.step hx.1);generalize xs.getD k 0=x at *;generalize hR:(cc+2*x)%LB=R at *;generalize hQ:(cc+2*x)/LB=Q at *;unfold LB at hR hQ hxk;have e3:((cc:Int)+2*(x:Int))%268435456=(R:Int):=by omega
   have e4:((cc:Int)+2*(x:Int))/268435456=(Q:Int):=by omega
   have hQ1:Q<=1:=by omega
   clear hR hQ;go_wp2_with (at_builtin;refine wpList_append_own _ rfl _ _ 47 rfl w.heap.size 3 i0 (.int .i64 0) 1 8 Tryz.underlying47 hi hz0 hz1 hz2 rfl (by decide) _ _ _ rfl (HO.out.alloc _) ⟨wr.heap.size,0,none⟩ 1 1 [.int .i64 (R:Int)] rfl rfl (Qbt _ _ _) (Qcc _) (by rw [Qam];rw [HI.out.len];unfold maxLen;omega) (by rw [Qam];rw [HI.out.len];omega) (by have:=HG.out.size;simp;omega) ?_;intro v' w1 hown hgrow _;have HO2:=Qaa (Own.snocW hown);have HG2:=Qaa (Old.growW (HG.out.alloc _) (HO.out.alloc _) hgrow);clear hown hgrow);exact ⟨⟨k+1,out++[R],Q,⟨by omega,hQ1⟩,by go_num,by rw [e4],HS,HO2,HG2⟩,by simp [intOf];omega⟩
  ·obtain rfl:k=xs.length:=by omega
   rcases Nat.eq_zero_or_pos cc with hc0 | hc0
   ·subst hc0;have HT:=Qaa (HI.out.no hx rfl);clear HI;go_wp2_with fail;go_ret;exact ⟨_,rfl,HG.out,by rw [<- HT.out];exact HO.out⟩
   ·have HT:=Qaa (HI.out.yes hc0);go_wp2_with (at_builtin;refine wpList_append_own _ rfl _ _ 47 rfl w.heap.size 3 i0 (.int .i64 0) 1 8 Tryz.underlying47 hi hz0 hz1 hz2 rfl (by decide) _ _ _ rfl (HO.out.alloc _) ⟨wr.heap.size,0,none⟩ 1 1 [.int .i64 (cc:Int)] rfl rfl (Qbt _ _ _) (Qcc _) (by rw [Qam];rw [HI.out.len];unfold maxLen;omega) (by rw [Qam];rw [HI.out.len];omega) (by have:=HG.out.size;simp;omega) ?_;intro v' w1 hown hgrow _;have HO2:=Qaa (Own.snocW hown);have HG2:=Qaa (Old.growW (HG.out.alloc _) (HO.out.alloc _) hgrow);clear hown hgrow);go_ret;exact ⟨_,rfl,HG2.out,by rw [<- HT.out];exact HO2.out⟩
abbrev OwnAt (w:World) (base g n:Nat) (xs:List Nat):Prop:=w.ownsRow base 3 1 (.slice (some ⟨g,0,none⟩) n n) n ((toI xs).map (Value.int .i64))
theorem OwnAt.get {w:World} {base g n:Nat} {xs:List Nat} (h:OwnAt w base g n xs) (hn:xs.length=n) (j:Nat) (hj:j<n):w.cell? ⟨g,j,none⟩=some (.int .i64 ((xs.getD j 0:Nat):Int)):=by
 rw [World.ownsRow.cellAt h j (by omega),<- Qj0];have:j<(toI xs).length:=by rw [Qam];omega
 simp [List.getD,this]
theorem OwnAt.free {w:World} {base g n:Nat} {xs:List Nat} (h:OwnAt w base g n xs) (j:Nat):w.frozen? ⟨g,j,none⟩=false:=World.ownsRow.frozenAt h j
theorem OwnAt.put {w:World} {base g n:Nat} {xs:List Nat} (h:OwnAt w base g n xs) (j y:Nat):OwnAt (w.setCell ⟨g,j,none⟩ (.int .i64 (y:Int))) base g n (xs.set j y):=by
 have:=(World.ownsRow.stored h j (.int .i64 (y:Int))).1;unfold OwnAt;have e:toI (xs.set j y)=(toI xs).set j (y:Int):=by simp [toI,List.map_set]
 rw [e,List.map_set];exact this
theorem OwnAt.own {w:World} {base g n:Nat} {xs:List Nat} (h:OwnAt w base g n xs) (hn:xs.length=n):Own w base (.slice (some ⟨g,0,none⟩) n n) (toI xs):=by
 unfold Own;rw [Qam,hn];exact h
theorem Qhj (n:Nat):(madeCells (Value.int .i64 0).cells (n*1)).toList=(toI (List.replicate n 0)).map (Value.int .i64):=by
 rw [Qbj];simp [toI]
theorem Qf8 (xs ys:List Nat) (v u:Value) (w:World) (hv:Row w v (toI xs)) (hu:Row w u (toI ys)) (ha:Lim xs) (hb:Lim ys) (la:xs.length≤1048576) (lb:ys.length≤1048576) :
  Calls Tryz.prog 55 #[v,u] w fun e w'=>∃v',e=.returned v'/\Old w w'/\Own w' w.heap.size v' (toI (dig (val xs*val ys))):=by
 obtain ⟨i0,hi,hz0,hz1,hz2⟩:=info_parts Tryz.infoInt;have HV:=Qaa hv;have HU:=Qaa hu;obtain ⟨a0,cap0,rfl⟩:=hv.sliceN;obtain ⟨a1,cap1,rfl⟩:=hu.sliceN;clear hv hu;obtain ⟨n,hn⟩:∃n,n=xs.length+ys.length:=⟨_,rfl⟩
 have en:(xs.length:Int)+(ys.length:Int)=(n:Int):=by omega
 have hn':n<=2097152:=by omega
 have HT:Hid (∀i,val (xs.take i)*val ys<LB^n):=fun i=>by
  have h1:=Qbi (ha.take i);have h2:=Qbi hb;have h3:LB^(xs.take i).length<=LB^xs.length:=Nat.pow_le_pow_right Qa2 (by rw [List.length_take];omega);have h4:val (xs.take i)*val ys<LB^xs.length*LB^ys.length:=Nat.mul_lt_mul'' (by omega) h2;rw [hn,Nat.pow_add];exact h4
 clear hn;go_enter Tryz.func55,Tryz.ntmps55;go_wp2_with (at_make;refine wpList_make_full _ rfl _ _ 47 rfl w.heap.size 3 i0 (.int .i64 0) 1 Tryz.underlying47 hi hz0 hz1 .i64 .i64 _ _ n rfl rfl rfl rfl (by rw [hz2];omega) (by unfold maxLen;omega) (Nat.le_refl _) ?_;intro w1 hown hgrow);rw [Qhj] at hown;have HO:Hid (OwnAt w1 w.heap.size w.heap.size n (List.replicate n 0)):=hown;have HG:Hid (Old w w1):=Below.grown (Below.refl _ _) hgrow (Nat.le_refl _) (fun _ h=>by cases h);clear hown hgrow
 go_loopw [20] (fun i W=>∃(k:Nat) (out:List Nat),k<=xs.length/\i=.int .i64 k/\Hid (MulI n 0 (val (xs.take k)*val ys) out 0)/\Hid (OwnAt W w.heap.size w.heap.size n out)/\Hid (Old w W)) (fun i _=>xs.length - (intOf i).toNat)
 case atStart=>exact ⟨0,List.replicate n 0,by omega,rfl,(by exact ⟨Qhe n,by simp,by rw [Qfi];simp [val],Qa2⟩),HO,HG⟩
 case round=>
  obtain ⟨k,out,hk,rfl,HI,HO1,HG1⟩:=hrel;clear HO HG
  by_cases h1:k<xs.length
  ·obtain ⟨b,o,rfl,hb1,hc1⟩:=Row.at (HV.out.old HG1.out) (by omega);have c1:=hc1 k h1;clear hc1;have hx:=ha.getD k;have HX:Hid (val (xs.take (k+1))*val ys=val (xs.take k)*val ys+LB^k*xs.getD k 0*val ys):=by rw [Qan,Nat.add_mul];rfl
   generalize xs.getD k 0=x at *;go_wp2_with fail
   go_loopw [8,27] (fun c j W=>∃(j' c':Nat) (out':List Nat),(j'<=ys.length/\c'<268435456)/\j=.int .i64 j'/\c=.int .i64 c'/\Hid (MulI n (k+j') (val (xs.take k)*val ys+LB^k*x*val (ys.take j')) out' c')/\Hid (OwnAt W w.heap.size w.heap.size n out')/\Hid (Old w W)) (fun _ j _=>ys.length - (intOf j).toNat)
   case atStart=>exact ⟨0,0,out,⟨by omega,by omega⟩,rfl,rfl,(by have:=HI.out.zero rfl (k+0);simp [val] at this ⊢;exact this),HO1,HG1⟩
   case round=>
    obtain ⟨j,c,out',⟨hj,hc⟩,rfl,rfl,HI2,HO2,HG2⟩:=hrel
    by_cases h2:j<ys.length
    ·obtain ⟨b',o',rfl,hb2,hc2⟩:=Row.at (HU.out.old HG2.out) (by omega);have c2:=hc2 j h2;clear hc2;have hy:=hb.getD j;have hpn:k+j<n:=by omega
     have hz:x*ys.getD j 0<=(LB - 1)*(LB - 1):=Nat.mul_le_mul (by omega) (by omega);have hov:=HI2.out.lim.getD (k+j);have c3:=HO2.out.get HI2.out.len (k+j) hpn;have c4:=HO2.out.free (k+j)
     have HS:Hid (MulI n (k+(j+1)) (val (xs.take k)*val ys+LB^k*x*val (ys.take (j+1))) (out'.set (k+j) ((c+(out'.getD (k+j) 0+x*ys.getD j 0))%LB)) ((c+(out'.getD (k+j) 0+x*ys.getD j 0))/LB)):=by
      have:=HI2.out.step (x*ys.getD j 0) hz hpn;have e:=Qgn xs ys x k j;rw [e] at this;exact this
     generalize out'.getD (k+j) 0=ov at *;generalize ys.getD j 0=y at *;have ez:(x:Int)*(y:Int)=((x*y:Nat):Int):=by simp
     have hz':x*y<=72057593501057025:=hz;generalize x*y=z at *;have HP:=Qaa (fun y'=>HO2.out.put (k+j) y');have ep:(k:Int)+(j:Int)=((k+j:Nat):Int):=by omega
     generalize hp:k+j=p at *;generalize hR:(c+(ov+z))%LB=R at *;generalize hQ:(c+(ov+z))/LB=Q at *;have hQ1:=HS.out.c1;unfold LB at hR hQ hov hQ1;have e3:((c:Int)+((ov:Int)+(z:Int)))%268435456=(R:Int):=by omega
     have e4:((c:Int)+((ov:Int)+(z:Int)))/268435456=(Q:Int):=by omega
     clear hR hQ hz hz' hp;go_wp2_with fail;exact ⟨⟨j+1,Q,out'.set p R,⟨by omega,hQ1⟩,by go_num,by rw [e4],HS,HP.out R,HG2.out.own (Nat.le_refl _) _⟩,by simp [intOf];omega⟩
    ·obtain rfl:j=ys.length:=by omega
     have HI3:Hid (MulI n (k+ys.length) (val (xs.take (k+1))*val ys) out' c):=by
      have:=HI2.out;rw [List.take_length,<- HX.out] at this;exact this
     have ep:(k:Int)+(ys.length:Int)=((k+ys.length:Nat):Int):=by omega
     have hpn:k+ys.length<=n:=by omega
     clear HI2 HI HO1 HG1;generalize k+ys.length=p0 at *;go_wp2_with fail
     go_loopw [8,11] (fun c j W=>∃(p c':Nat) (out':List Nat),(p<=n/\c'<268435456)/\j=.int .i64 p/\c=.int .i64 c'/\Hid (MulI n p (val (xs.take (k+1))*val ys) out' c')/\Hid (OwnAt W w.heap.size w.heap.size n out')/\Hid (Old w W)) (fun _ j _=>n - (intOf j).toNat)
     case atStart=>exact ⟨p0,c,out',⟨hpn,hc⟩,by go_num,rfl,HI3,HO2,HG2⟩
     case round=>
      obtain ⟨p,c',out2,⟨hp,hc'⟩,rfl,rfl,HI4,HO4,HG4⟩:=hrel;clear HI3 HO2 HG2;rcases Nat.eq_zero_or_pos c' with h0 | h0
      ·subst h0;have HI5:=Qaa (HI4.out.zero rfl 0);clear HI4;go_wp2_with fail;exact ⟨⟨k+1,out2,by omega,by go_num,HI5,HO4,HG4⟩,by simp [intOf];omega⟩
      ·have hpn2:=HI4.out.carry (HT.out (k+1)) h0;have HS:=Qaa (HI4.out.next hpn2);have hov:=HI4.out.lim.getD p;have c3:=HO4.out.get HI4.out.len p hpn2;have c4:=HO4.out.free p;have HP:=Qaa (fun y'=>HO4.out.put p y');generalize out2.getD p 0=ov at *;generalize hR:(c'+ov)%LB=R at *;generalize hQ:(c'+ov)/LB=Q at *;have hQ1:=HS.out.c1;unfold LB at hR hQ hov hQ1;have e3:((c':Int)+(ov:Int))%268435456=(R:Int):=by omega
       have e4:((c':Int)+(ov:Int))/268435456=(Q:Int):=by omega
       clear hR hQ HI4;go_wp2_with fail;exact ⟨⟨p+1,Q,out2.set p R,⟨by omega,hQ1⟩,by go_num,by rw [e4],HS,HP.out R,HG4.out.own (Nat.le_refl _) _⟩,by simp [intOf];omega⟩
  ·have HE:Hid (Qlm out=dig (val xs*val ys)):=by
    have:=HI.out.eq;rw [Nat.mul_zero,Nat.add_zero,List.take_of_length_le (by omega)] at this;unfold Qlm;rw [this];rfl
   have HL:Hid (Lim out/\out.length=n):=⟨HI.out.lim,HI.out.len⟩;clear HI;go_wp2_with fail;refine (Qes out _ w.heap.size _ (HO1.out.own HL.out.2) HL.out.1 (by have:=HL.out.2;omega)).mono ?_
   rintro e w1 ⟨v',rfl,g1,o1⟩;have HG2:=Qaa (Old.trans HG1.out g1);have HO2:=Qaa o1;clear g1 o1;go_wp2_with fail;go_ret;exact ⟨_,rfl,HG2.out,by rw [<- HE.out];exact HO2.out⟩
theorem Qvu (xs:List Nat) (d:Nat) (v u:Value) (w:World) (hv:Row w v (toI xs)) (hu:Row w u (toI [d])) (ha:Lim xs) (hd:1≤d) (hd':d<268435456) (la:xs.length≤1048576) :
  Calls Tryz.prog 87 #[v,u] w fun e w'=>∃v1 v2,e=.returned (.tuple #[v1,v2])/\Old w w'/\Own w' w.heap.size v1 (toI (dig (val xs/d)))/\Own w' w.heap.size v2 (toI (dig (val xs%d))):=by
 obtain ⟨i0,hi,hz0,hz1,hz2⟩:=info_parts Tryz.infoInt;have HV:=Qaa hv;obtain ⟨a0,cap0,rfl⟩:=hv.sliceN
 obtain ⟨b',o',cap1,rfl,hb2,hc2⟩:∃b o cap,u=.slice (some ⟨b,o,none⟩) 1 cap/\b<w.heap.size/\w.cell? ⟨b,o,none⟩=some (.int .i64 (d:Int)):=by
  obtain ⟨a1,cap1,rfl⟩:=hu.sliceN;obtain ⟨b,o,rfl,hb,hc⟩:=Row.at hu (by simp);exact ⟨b,o,cap1,rfl,hb,hc 0 (by simp)⟩
 clear hv hu;have hdn:¬d=0:=by omega
 obtain ⟨n,hn⟩:∃n,n=xs.length:=⟨_,rfl⟩
 have HN:=Qaa hn;rw [<- hn];have hn':n<=1048576:=by omega
 clear hn;go_enter Tryz.func87,Tryz.ntmps87;go_wp2_with (at_make;refine wpList_make_full _ rfl _ _ 47 rfl w.heap.size 3 i0 (.int .i64 0) 1 Tryz.underlying47 hi hz0 hz1 .i64 .i64 _ _ n rfl rfl rfl rfl (by rw [hz2];omega) (by unfold maxLen;omega) (Nat.le_refl _) ?_;intro w1 hown hgrow);rw [Qhj] at hown;have HO:Hid (OwnAt w1 w.heap.size w.heap.size n (List.replicate n 0)):=hown;have HG:Hid (Old w w1):=Below.grown (Below.refl _ _) hgrow (Nat.le_refl _) (fun _ h=>by cases h);clear hown hgrow
 go_loopw [7,8] (fun r i W=>∃(k r':Nat) (out:List Nat),(k<=n/\r'<d)/\i=.int .i64 ((k:Int) - 1)/\r=.int .i64 r'/\Hid (DivI xs d k out r')/\Hid (OwnAt W w.heap.size w.heap.size n out)/\Hid (Old w W)) (fun _ i _=>(intOf i+1).toNat)
 case atStart=>exact ⟨n,0,List.replicate n 0,⟨Nat.le_refl _,by omega⟩,rfl,rfl,(by rw [HN.out];exact DivI.start xs d),HO,HG⟩
 case round=>
  obtain ⟨k,r,out,⟨hk,hr⟩,rfl,rfl,HI,HO1,HG1⟩:=hrel;clear HO HG;rcases Nat.eq_zero_or_pos k with hk0 | hk0
  ·subst hk0;have HL:Hid (Lim out∧out.length=n):=⟨HI.out.lim,by have:=HI.out.len;rw [this];exact HN.out.symm⟩;have HE:=Qaa HI.out.done;clear HI;rcases Nat.eq_zero_or_pos r with hr0 | hr0
   ·have d0:((r:Int)==0)=true:=by simp;omega
    have HZ:Hid (dig (val xs%d)=[]):=by rw [<- HE.out.2,hr0];exact Qax
    clear hr0;go_wp2_with fail;refine (Qes out _ w.heap.size _ (HO1.out.own HL.out.2) HL.out.1 (by have:=HL.out.2;omega)).mono ?_
    rintro e w1 ⟨v',rfl,g1,o1⟩;have HG2:=Qaa (Old.trans HG1.out g1);have HO2:=Qaa o1;clear g1 o1;go_wp2_with fail
    go_ret2
    exact ⟨_,_,rfl,HG2.out,by rw [<- HE.out.1];exact HO2.out,by rw [HZ.out];exact World.ownsRow_nil _ _ _ _⟩
   ·have d0:=Q3v r (by omega);have HZ:Hid (dig (val xs%d)=[r]):=by rw [← HE.out.2];exact Qzb r (by omega) (by unfold LB;omega)
    clear hr0;go_wp2_with fail;refine (Qes out _ w.heap.size _ (HO1.out.own HL.out.2) HL.out.1 (by have:=HL.out.2;omega)).mono ?_
    rintro e w1 ⟨v',rfl,g1,o1⟩;have HG2:=Qaa (Old.trans HG1.out g1);have HO2:=Qaa o1;clear g1 o1;go_wp2_with fail
    go_ret2
    refine ⟨_,_,rfl,HG2.out.alloc _,by rw [<- HE.out.1];exact HO2.out.alloc _,?_⟩;rw [HZ.out];exact World.ownsRow_lit (base:=w.heap.size) (e:=3) (size:=1) w1 #[.int .i64 (r:Int)] 1 HG2.out.size (by unfold maxLen;omega) (by simp)
  ·obtain ⟨j,rfl⟩:∃j,k=j+1:=⟨k - 1,by omega⟩
   obtain ⟨b,o,rfl,hb1,hc1⟩:=Row.at (HV.out.old HG1.out) (by have:=HN.out;omega);have c1:=hc1 j (by have:=HN.out;omega);clear hc1;have c2:=(HG1.out.cell (p:=⟨b',o',none⟩) hb2).trans hc2;have hxj:=ha.getD j;have st:=HI.out.step (by omega) (by have:=HN.out;omega) ha;have HS:=Qaa st.1;have hlt:=st.2;have hlt2:(r*LB+xs.getD j 0)%d<d:=Nat.mod_lt _ (by omega);have hol:out.length=n:=by have:=HI.out.len;rw [this];exact HN.out.symm
   have c3:=HO1.out.get hol j (by omega);have c4:=HO1.out.free j;have HP:=Qaa (fun y'=>HO1.out.put j y');have em:((j+1:Nat):Int) - 1=(j:Int):=by omega
   generalize xs.getD j 0=x at *;generalize out.getD j 0=ov at *;rw [em];have eq:((r:Int)*268435456+(x:Int))/(d:Int)=(((r*LB+x)/d:Nat):Int):=by unfold LB;simp
   have er:((r:Int)*268435456+(x:Int))%(d:Int)=(((r*LB+x)%d:Nat):Int):=by unfold LB;simp
   generalize (r*LB+x)/d=Q at *;generalize (r*LB+x)%d=R at *;unfold LB at hxj hlt;clear st em HI hol;go_wp2_with fail;exact ⟨⟨j,R,out.set j Q,⟨by omega,hlt2⟩,by go_num,by rw [er],HS,HP.out Q,HG1.out.own (Nat.le_refl _) _⟩,by simp [intOf]⟩
theorem Qlw (a b:Nat) (ha:a<=9223372036854775807) (hb:b<=9223372036854775807):bits .and .i64 (a:Int) (b:Int)=((a &&& b:Nat):Int):=by
 have hx:a &&& b<2^63:=Nat.and_lt_two_pow _ (by omega)
 have h1:(BitVec.ofInt 64 (a:Int)).toNat=a:=by
  rw [BitVec.ofInt_natCast,BitVec.toNat_ofNat];exact Nat.mod_eq_of_lt (by omega)
 have h2:(BitVec.ofInt 64 (b:Int)).toNat=b:=by
  rw [BitVec.ofInt_natCast,BitVec.toNat_ofNat];exact Nat.mod_eq_of_lt (by omega)
 show IntKind.i64.wrap ((BitVec.ofInt 64 (a:Int) &&& BitVec.ofInt 64 (b:Int)).toNat:Int)=_
 rw [BitVec.toNat_and,h1,h2,IntKind.wrap_i64];omega
theorem Qze (x s:Nat) (hx:x<=9223372036854775807):bits BinOp.and IntKind.i64 ((x:Int)/2^s) 1=((x/2^s%2:Nat):Int):=by
 have e:(x:Int)/2^s=((x/2^s:Nat):Int):=by simp
 have h:=Qlw (x/2^s) 1 (Nat.le_trans (Nat.div_le_self _ _) hx) (by omega);rw [e];have e2:(x/2^s) &&& 1=x/2^s%2:=Nat.and_one_is_mod _;rw [e2] at h;exact h
theorem wrap_add (o s:Nat) (h:o+2^s<LB):wrap64 ((o:Int)+wrap64 (2^s))=((o+2^s:Nat):Int):=by
 unfold LB at h;have e:(2:Int)^s=((2^s:Nat):Int):=by simp
 rw [e];generalize 2^s=z at *;unfold wrap64;omega
theorem Qvv (xs ys:List Nat) (v u:Value) (w:World) (hv:Row w v (toI xs)) (hu:Row w u (toI ys)) (ha:Lim xs) (hb:Nrm ys) (hl2:2≤ys.length) (la:xs.length≤1048576) (lb:ys.length≤1048000) :
  Calls Tryz.prog 87 #[v,u] w fun e w'=>∃v1 v2,e=.returned (.tuple #[v1,v2])/\Old w w'/\Own w' w.heap.size v1 (toI (dig (val xs/val ys)))/\Own w' w.heap.size v2 (toI (dig (val xs%val ys))):=by
 obtain ⟨i0,hi,hz0,hz1,hz2⟩:=info_parts Tryz.infoInt;have HV:=Qaa hv;have HU:=Qaa hu;obtain ⟨a0,cap0,rfl⟩:=hv.sliceN;obtain ⟨a1,cap1,rfl⟩:=hu.sliceN;clear hv hu
 have hD0:0<val ys:=by
  rcases Nat.eq_zero_or_pos (val ys) with h | h
  ·have:=Qbs hb h;rw [this] at hl2;simp at hl2
  ·exact h
 have HLR:Hid (∀R,R<2*val ys->(dig R).length<=ys.length+1):=fun R hR=>by
  refine Qay ?_
  have h1:=Qbi hb.1;rw [Nat.pow_succ];have h2:LB^ys.length*2<=LB^ys.length*LB:=Nat.mul_le_mul (Nat.le_refl _) (by decide);omega
 obtain ⟨n,hn⟩:∃n,n=xs.length:=⟨_,rfl⟩
 have HN:=Qaa hn;rw [<- hn];have hn':n<=1048576:=by omega
 have dl:((ys.length:Int)==1)=false:=by simp;omega
 clear hn;go_enter Tryz.func87,Tryz.ntmps87;go_wp2_with (at_make;refine wpList_make_full _ rfl _ _ 47 rfl w.heap.size 3 i0 (.int .i64 0) 1 Tryz.underlying47 hi hz0 hz1 .i64 .i64 _ _ n rfl rfl rfl rfl (by rw [hz2];omega) (by unfold maxLen;omega) (Nat.le_refl _) ?_;intro w1 hown hgrow);rw [Qhj] at hown;have HO:Hid (OwnAt w1 w.heap.size w.heap.size n (List.replicate n 0)):=hown;have HG:Hid (Old w w1):=Below.grown (Below.refl _ _) hgrow (Nat.le_refl _) (fun _ h=>by cases h);clear hown hgrow
 go_loopw [10,11] (fun r i W=>∃(k R:Nat) (out:List Nat),k<=n/\i=.int .i64 ((k:Int) - 1)/\Hid (R<val ys)/\Hid (DivI xs (val ys) k out R)/\Hid (OwnAt W w.heap.size w.heap.size n out)/\Hid (Own W (w.heap.size+1) r (toI (dig R)))/\Hid (Old w W)) (fun _ i _=>(intOf i+1).toNat)
 case atStart=>exact ⟨n,0,List.replicate n 0,Nat.le_refl _,rfl,hD0,(by rw [HN.out];exact DivI.start xs (val ys)),HO,(by rw [Qax];exact World.ownsRow_nil _ _ _ _),HG⟩
 case round=>
  obtain ⟨k,R,out,hk,rfl,HR,HI,HO1,HR1,HG1⟩:=hrel;clear HO HG;rcases Nat.eq_zero_or_pos k with hk0 | hk0
  ·subst hk0;have HL:Hid (Lim out∧out.length=n):=⟨HI.out.lim,by have:=HI.out.len;rw [this];exact HN.out.symm⟩;have HE:=Qaa HI.out.done;clear HI;go_wp2_with fail;refine (Qes out _ w.heap.size _ (HO1.out.own HL.out.2) HL.out.1 (by have:=HL.out.2;omega)).mono ?_
   rintro e w1 ⟨v',rfl,g1,o1⟩;have HG2:=Qaa (Old.trans HG1.out g1);have HO2:=Qaa o1;have HR2:Hid (Own w1 w.heap.size u10 (toI (dig R))):=(HR1.out.old g1).low (by omega);clear g1 o1;go_wp2_with fail
   go_ret2
   exact ⟨_,_,rfl,HG2.out,by rw [<- HE.out.1];exact HO2.out,by rw [<- HE.out.2];exact HR2.out⟩
  ·obtain ⟨j,rfl⟩:∃j,k=j+1:=⟨k - 1,by omega⟩
   obtain ⟨qs0,eout,HB0⟩:=BitI.start HI.out ha;subst eout;have HB:=Qaa HB0;have em:((j+1:Nat):Int) - 1=(j:Int):=by omega
   rw [em];clear HB0 HI em;go_wp2_with fail
   go_loopw [10,12] (fun r t W=>∃(t' R' o:Nat) (qs:List Nat),t'<=28/\t=.int .i64 ((t':Int) - 1)/\Hid (R'<val ys)/\Hid (BitI xs (val ys) j t' qs o R')/\Hid (OwnAt W w.heap.size w.heap.size n (List.replicate j 0++o :: qs))/\Hid (Own W (w.heap.size+1) r (toI (dig R')))/\Hid (Old w W)) (fun _ t _=>(intOf t+1).toNat)
   case atStart=>exact ⟨28,R,0,qs0,by omega,by go_num,HR,HB,HO1,HR1,HG1⟩
   case round=>
    obtain ⟨t,R',o,qs,ht,rfl,HR',HB',HO2,HR2,HG2⟩:=hrel;clear HO1 HR1 HG1 HB HR;rcases Nat.eq_zero_or_pos t with ht0 | ht0
    ·subst ht0;have HI2:=Qaa (HB'.out.done hD0 ha);clear HB';go_wp2_with fail;exact ⟨⟨j,R',_,by omega,by go_num,HR',HI2,HO2,HR2,HG2⟩,by simp [intOf]⟩
    ·obtain ⟨s,rfl⟩:∃s,t=s+1:=⟨t - 1,by omega⟩
     obtain ⟨b,of,rfl,hb1,hc1⟩:=Row.at (HV.out.old HG2.out) (by have:=HN.out;omega);have c1:=hc1 j (by have:=HN.out;omega);clear hc1;have em:((s+1:Nat):Int) - 1=(s:Int):=by omega
     rw [em];clear em;have hxj:=ha.getD j;have hbit:xs.getD j 0/2^s%2<=1:=by omega
     have eb:bits BinOp.and IntKind.i64 ((xs.getD j 0:Nat)/2^s) 1=((xs.getD j 0/2^s%2:Nat):Int):=Qze _ _ (by unfold LB at hxj;omega);have HB1:=Qaa (HB'.out.no hD0 (by omega));have HB2:=Qaa (HB'.out.yes hD0 (by omega));have hqs:j+1+qs.length=n:=by have:=HB'.out.len;rw [this];exact HN.out.symm
     clear HB';generalize xs.getD j 0=x at *;generalize hbd:x/2^s%2=bit at *;have hN2:Hid (2*R'+bit<2*val ys):=by have:=HR'.out;show 2*R'+bit<2*val ys;omega
     clear hbd;go_wp2_with fail;refine (Qsn (dig R') bit _ _ (Own.row HR2.out) (Qbm _) (by have:=HLR.out R' (by have:=HR'.out;omega);omega) hbit).mono ?_
     rw [Qag];rintro e w2 ⟨v2,rfl,g2,o2⟩;have HG3:=Qaa (Old.trans HG2.out g2)
     have HO3:Hid (OwnAt w2 w.heap.size w.heap.size n (List.replicate j 0++o :: qs)):=by
      have:=Own.old (HO2.out.own (by simp;omega)) g2;unfold Own at this;rw [Qam] at this;have e:(List.replicate j 0++o :: qs).length=n:=by simp;omega
      rw [e] at this;exact this
     have hsz:w.heap.size+1<=wr.heap.size:=by
      have:=HO2.out.lt w.heap.size rfl;omega
     have HR3:=Qaa (Own.low o2 hsz);clear g2 o2 HG2 HO2 HR2;go_wp2_with fail;refine (Qhh (dig (2*R'+bit)) ys _ _ _ (Own.row HR3.out) (HU.out.old HG3.out) (Qbm _) hb (by have:=HLR.out _ hN2.out;omega) (by omega)).mono ?_
     rw [Qag];rintro e w3 ⟨rfl,g3⟩;have HG4:=Qaa (Old.trans HG3.out g3)
     have HO4:Hid (OwnAt w3 w.heap.size w.heap.size n (List.replicate j 0++o :: qs)):=by
      have:=Own.old (HO3.out.own (by simp;omega)) g3;unfold Own at this;rw [Qam] at this;have e:(List.replicate j 0++o :: qs).length=n:=by simp;omega
      rw [e] at this;exact this
     have HR4:=Qaa (HR3.out.old g3);have hsz3:w.heap.size+1<=w3.heap.size:=by have:=HO4.out.lt w.heap.size rfl;omega
     clear g3 HG3 HO3 HR3
     by_cases hcmp:2*R'+bit<val ys
     ·have HB3:=Qaa (HB1.out hcmp);have HC:=Qaa hcmp;have ecv:Qb3 (2*R'+bit) (val ys) = -1:=by unfold Qb3;rw [if_pos hcmp]
      rw [ecv];clear HB1 HB2 hcmp ecv;go_wp2_with fail;exact ⟨⟨s,2*R'+bit,o,qs,by omega,by go_num,HC,HB3,HO4,HR4,HG4⟩,by simp [intOf]⟩
     ·have HB3:=Qaa (HB2.out hcmp);have HC:Hid (2*R'+bit - val ys<val ys):=by have:=hN2.out;show 2*R'+bit - val ys<val ys;omega
      have HLE:Hid (val ys<=val (dig (2*R'+bit))):=by rw [Qag];show val ys<=2*R'+bit;omega
      have hcv:0<=Qb3 (2*R'+bit) (val ys):=by unfold Qb3;rw [if_neg hcmp];split <;> omega
      generalize Qb3 (2*R'+bit) (val ys)=cv at *;have d1:decide (0<=cv)=true:=by simp;omega
      clear HB1 HB2 hcmp hcv;go_wp2_with fail;refine (Qhi (dig (2*R'+bit)) ys _ _ _ (Own.row HR4.out) (HU.out.old HG4.out) (Qbm _) hb (by have:=HLR.out _ hN2.out;omega) (by omega) HLE.out).mono ?_
      rw [Qag];rintro e w4 ⟨v4,rfl,g4,o4⟩;have HG5:=Qaa (Old.trans HG4.out g4)
      have HO5:Hid (OwnAt w4 w.heap.size w.heap.size n (List.replicate j 0++o :: qs)):=by
       have:=Own.old (HO4.out.own (by simp;omega)) g4;unfold Own at this;rw [Qam] at this;have e:(List.replicate j 0++o :: qs).length=n:=by simp;omega
       rw [e] at this;exact this
      have HR5:=Qaa (Own.low o4 hsz3);have c3:=HO5.out.get (by simp;omega) j (by omega);have c4:=HO5.out.free j;rw [Qzc] at c3;clear g4 o4 HG4 HO4 HR4;have hlt:=HB3.out.lt hD0 (by omega) ha;have HW:=Qaa (wrap_add o s hlt)
      have HP:Hid (OwnAt (w4.setCell ⟨w.heap.size,j,none⟩ (.int .i64 ((o+2^s:Nat):Int))) w.heap.size w.heap.size n (List.replicate j 0++(o+2^s) :: qs)):=by
       have:=HO5.out.put j (o+2^s);rw [set_mid] at this;exact this
      have HP2:Hid (Own (w4.setCell ⟨w.heap.size,j,none⟩ (.int .i64 ((o+2^s:Nat):Int))) (w.heap.size+1) v4 (toI (dig (2*R'+bit - val ys)))):=by
       refine ownsRow_setCell_other HR5.out (fun e=>?_) _;have:=(HR5.out.lt w.heap.size e).1;omega
      clear hlt;go_wp2_with fail;rw [HW.out];exact ⟨⟨s,2*R'+bit - val ys,o+2^s,qs,by omega,by go_num,HC,HB3,HP,HP2,HG5.out.own (Nat.le_refl _) _⟩,by simp [intOf]⟩
theorem Qa8 (n:Bool) (xs:List Int) (v:Value) (w:World) (hv:Row w v xs) (hl:xs.length≤1048576) :
  Calls Tryz.prog 71 #[.agg #[.bool n,v]] w fun e w'=>e=.returned (.bool (decide (Good n xs)))/\Old w w':=by
 have HV:=Qaa hv;obtain ⟨a0,cap0,rfl⟩:=hv.slice;clear hv;obtain ⟨B,hB⟩:∃B,decide (Good n xs)=B:=⟨_,rfl⟩
 rw [hB];have HB:=Qaa hB;clear hB;rcases Nat.eq_zero_or_pos xs.length with hx0 | hx0
 ·obtain rfl:=List.length_eq_zero_iff.1 hx0
  have HT:Hid (B = !n):=by
   rw [<- HB.out]
   cases n with
   | false=>exact decide_eq_true ⟨by simp,by simp,fun j hj=>by simp at hj⟩
   | true=>exact decide_eq_false (fun h=>h.2.1 ⟨rfl,rfl⟩)
  clear hx0;go_enter Tryz.func71,Tryz.ntmps71;go_wp2_with fail;go_ret;exact ⟨congrArg (fun z=>Ending.returned (.bool z)) HT.out.symm,(Old.refl w).alloc _⟩
 ·have dx0:((xs.length:Int)==0)=false:=by simp;intro h;rw [h] at hx0;simp at hx0
  by_cases h40:xs.length<=40
  ·have d40:decide ((40:Int)<(xs.length:Int))=false:=Qx7 (by omega)
   obtain ⟨b,o,rfl,hb,hc⟩:∃b o,a0=some ⟨b,o,none⟩/\b<w.heap.size/\∀j,j<xs.length->w.cell? ⟨b,o+j,none⟩=some (.int .i64 (xs.getD j 0)):=by
    rcases HV.out with ⟨a',cap',e,e2⟩ | ⟨b,o,cap',e,hb,_,hc⟩
    ·rw [e2] at hx0;simp at hx0
    ·simp only [Value.slice.injEq] at e;obtain ⟨rfl,_,_⟩:=e;exact ⟨b,o,rfl,hb,hc⟩
   have HC2:=Qaa hc;clear hc HV;obtain ⟨m,hm⟩:∃m,xs.length=m+1:=⟨xs.length - 1,by omega⟩
   have HM:=Qaa hm;have hm':(xs.length:Int) - 1=(m:Int):=by omega
   have hmt:((xs.length:Int) - 1).toNat=m:=by omega
   have c0:=HC2.out m (by omega);clear hm
   by_cases hz:xs.getD m 0=0
   ·have HT:Hid (B=false):=by
     rw [<- HB.out];exact decide_eq_false (fun h=>(h.2.2 m (by omega)).2 ⟨hz,HM.out.symm⟩)
    have dz:(xs.getD m 0==0)=true:=by rw [hz];rfl
    generalize xs.getD m 0=x at *;clear hz;go_enter Tryz.func71,Tryz.ntmps71;go_wp2_with fail;go_ret;exact ⟨congrArg (fun z=>Ending.returned (.bool z)) HT.out.symm,(Old.refl w).alloc _⟩
   ·have dz:=beq_eq_false_iff_ne.2 hz
    have HG0:Hid (Good n xs↔∀j,j<xs.length->0<=xs.getD j 0/\xs.getD j 0<=268435455):=by
     refine ⟨fun h j hj=>(h.2.2 j hj).1,fun h=>⟨h40,fun h=>by omega,fun j hj=>⟨h j hj,fun h2=>hz ?_⟩⟩⟩;rw [show m=j by omega];exact h2.1
    generalize xs.getD m 0=x at *;clear hz;go_enter Tryz.func71,Tryz.ntmps71;go_wp2_with fail;clear c0 dz hmt hm'
    go_loopw [28] (fun i W=>∃k:Nat,k<=xs.length/\i=.int .i64 k/\Hid (∀j,j<k->0<=xs.getD j 0/\xs.getD j 0<=268435455)/\W=w.alloc (.cells #[.bool n,.slice (some ⟨b,o,none⟩) xs.length cap0] 65)) (fun i _=>xs.length - (intOf i).toNat)
    case atStart=>exact ⟨0,by omega,rfl,fun j hj=>absurd hj (by omega),rfl⟩
    case round=>
     obtain ⟨k,hk,rfl,HF,rfl⟩:=hrel
     by_cases hlt:k<xs.length
     ·have c1:(w.alloc (.cells #[.bool n,.slice (some ⟨b,o,none⟩) xs.length cap0] 65)).cell? ⟨b,o+k,none⟩=some (.int .i64 (xs.getD k 0)):=(Qa0 _ _ _ _ hb).trans (HC2.out k hlt)
      by_cases hok:0<=xs.getD k 0/\xs.getD k 0<=268435455
      ·have HF2:Hid (∀j,j<k+1→0≤xs.getD j 0∧xs.getD j 0≤268435455):=fun j hj=>by
        by_cases hjk:j=k
        ·rw [hjk];exact hok
        ·exact HF.out j (by omega)
       have d1:decide (xs.getD k 0<0)=false:=decide_eq_false (by omega);have d2:decide ((268435456:Int)<=xs.getD k 0)=false:=decide_eq_false (by omega);generalize xs.getD k 0=y at *;clear hok;go_wp2_with fail;exact ⟨⟨k+1,by omega,by go_num,HF2,by first | rfl | trivial⟩,by simp [intOf];omega⟩
      ·have HT:Hid (B=false):=by rw [← HB.out];exact decide_eq_false (fun h=>hok (HG0.out.1 h k hlt))
       by_cases hn:xs.getD k 0<0
       ·have d1:=decide_eq_true hn;generalize xs.getD k 0=y at *;clear hok;go_wp2_with fail;go_ret;exact ⟨congrArg (fun z=>Ending.returned (.bool z)) HT.out.symm,(Old.refl w).alloc _⟩
       ·have d1:=decide_eq_false hn;have d2:decide ((268435456:Int)<=xs.getD k 0)=true:=decide_eq_true (by omega);generalize xs.getD k 0=y at *;clear hok;go_wp2_with fail;go_ret;exact ⟨congrArg (fun z=>Ending.returned (.bool z)) HT.out.symm,(Old.refl w).alloc _⟩
     ·have HT:Hid (B=true):=by rw [← HB.out];exact decide_eq_true (HG0.out.2 (fun j hj=>HF.out j (by omega)))
      go_wp2_with fail;go_ret;exact ⟨congrArg (fun z=>Ending.returned (.bool z)) HT.out.symm,(Old.refl w).alloc _⟩
  ·have HT:Hid (B=false):=by rw [← HB.out];exact decide_eq_false (fun h=>h40 h.1)
   have d40:decide ((40:Int)<(xs.length:Int))=true:=Qsm (by omega);go_enter Tryz.func71,Tryz.ntmps71;go_wp2_with fail;go_ret;exact ⟨congrArg (fun z=>Ending.returned (.bool z)) HT.out.symm,(Old.refl w).alloc _⟩
end Go.Proofs.YthcidnnkakppcaaGreatDoor
