/- Proved: what its theorems say. -/
import Derived.Test.YtanijpekdnkicaaGreatDoorRows
import Derived.WalkKit
import Derived.ProofKit
import Derived.OpenShut
import Derived.Handy
import Derived.ShutString
import Derived.ChangeOld
import Derived.Below
import Derived.Carry
import Derived.OwnWalk
import Derived.OneCell
import Derived.Deep.QuietTactic
import Derived.BigQuiet
import Derived.Test.YtanijpekdnkicaaGreatDoorTc01
namespace Go.Proofs.YtanijpekdnkicaaGreatDoor
open Go.ChangeShapes Go.WideShapes Go.ChangeAt Go.RowKit
set_option linter.unusedVariables false
set_option linter.unusedSimpArgs false
def Row (w:World) (v:Value) (xs:List Int):Prop:=
 (∃a cap,v=.slice a 0 cap∧xs=[])∨∃b o cap,v=.slice (some ⟨b,o,none⟩) xs.length cap∧b<w.heap.size∧0<xs.length∧∀j,j<xs.length→w.cell? ⟨b,o+j,none⟩=some (.int .i64 (xs.getD j 0))
abbrev Old (w w':World):Prop:=Below w.heap.size w w'
theorem Old.refl (w:World):Old w w:=Below.refl _ _
theorem Old.trans {a b c:World} (h:Old a b) (k:Old b c):Old a c:=Below.trans h (k.mono h.size)
theorem Old.drewN {a b:World} (h:Old a b) (n:Nat):Old a (b.drewN n):=⟨h.os,h.tape,h.output,h.size,h.block⟩
theorem Old.alloc {a b:World} (h:Old a b) (o:Obj):Old a (b.alloc o):=Below.alloc h h.size o
theorem Old.own {a b:World} (h:Old a b) {p:Addr} (hp:a.heap.size≤p.block) (v:Value):Old a (b.setCell p v):=Below.setCell h hp v
theorem Row.old {w w':World} {v:Value} {xs:List Int} (h:Row w v xs) (g:Old w w'):Row w' v xs:=by
 rcases h with h1 | ⟨b,o,cap,e,hb,h0,hc⟩
 ·exact Or.inl h1
 ·exact Or.inr ⟨b,o,cap,e,Nat.lt_of_lt_of_le hb g.size,h0,fun j hj=>by rw [g.cell (p:=⟨b,o+j,none⟩) hb];exact hc j hj⟩
theorem Row.slice {w:World} {v:Value} {xs:List Int} (h:Row w v xs):∃a cap,v=.slice a xs.length cap:=by
 rcases h with ⟨a,cap,e,e2⟩ | ⟨b,o,cap,e,_⟩
 ·exact ⟨a,cap,by rw [e,e2];rfl⟩
 ·exact ⟨_,cap,e⟩
abbrev Own (w:World) (base:Nat) (v:Value) (xs:List Int):Prop:=w.ownsRow base 3 1 v xs.length (xs.map (Value.int .i64))
theorem Own.row {w:World} {base:Nat} {v:Value} {xs:List Int} (h:Own w base v xs):Row w v xs:=by
 rcases h.2 with ⟨e,h0⟩ | ⟨g,cap,cur,e,hb,hg,h1,h2,h3,h4⟩
 ·exact Or.inl ⟨none,0,e,List.length_eq_zero_iff.1 h0⟩
 ·subst e
  by_cases h0:xs.length=0
  ·exact Or.inl ⟨_,cap,by rw [h0],List.length_eq_zero_iff.1 h0⟩
  ·refine Or.inr ⟨g,0,cap,rfl,(Array.getElem?_eq_some_iff.1 hg).1,by omega,fun j hj=>?_⟩
   have:=World.ownsRow.cellAt h j (by omega)
   rw [Nat.zero_add,this]
   simp [List.getD,hj]
theorem Own.old {w w':World} {base:Nat} {v:Value} {xs:List Int} (h:Own w base v xs) (g:Old w w'):Own w' base v xs:=by
 refine ⟨h.1,?_⟩
 rcases h.2 with hn | ⟨p,cap,cur,rfl,hb,hgg,rest⟩
 ·exact .inl hn
 ·refine .inr ⟨p,cap,cur,rfl,hb,?_,rest⟩
  rw [g.block p (Array.getElem?_eq_some_iff.1 hgg).1]
  exact hgg
theorem Own.low {w:World} {base base':Nat} {v:Value} {xs:List Int} (h:Own w base v xs) (hb:base'≤base):Own w base' v xs:=by
 refine ⟨h.1,?_⟩
 rcases h.2 with hn | ⟨p,cap,cur,rfl,hb1,rest⟩
 ·exact .inl hn
 ·exact .inr ⟨p,cap,cur,rfl,Nat.le_trans hb hb1,rest⟩
theorem grownBy_old {a b:World} (h:a.grownBy b none):Old a b:=Below.grown (Below.refl _ _) h (Nat.le_refl _) (fun _ h=>by cases h)
theorem cell_at (w:World) (xs:Array Value) (t:TypeId) (b j:Nat) (hb:b=w.heap.size):(w.alloc (.cells xs t)).cell? ⟨b,j,none⟩=xs[j]?:=by
 subst hb
 exact cell_of_row _ _ _ _ _ (0,0) (heap_alloc_new w _)
theorem cell_lt (w:World) (o:Obj) (b j:Nat) (hb:b<w.heap.size):(w.alloc o).cell? ⟨b,j,none⟩=w.cell? ⟨b,j,none⟩:=World.cell?_of_block (heap_alloc_old w o hb)
theorem fro_at (w:World) (xs:Array Value) (t:TypeId) (b j:Nat) (hb:b=w.heap.size):(w.alloc (.cells xs t)).frozen? ⟨b,j,none⟩=false:=by
 subst hb
 exact frozen_of_row _ _ _ _ _ (heap_alloc_new w _)
theorem fro_lt (w:World) (o:Obj) (b j:Nat) (hb:b<w.heap.size):(w.alloc o).frozen? ⟨b,j,none⟩=w.frozen? ⟨b,j,none⟩:=World.frozen?_of_block (heap_alloc_old w o hb)
theorem Tryz.infoInt:(Tryz.prog.info? 3).map (fun i=>(i.zero,i.size,i.bytes))=some (some (.int .i64 0),1,8):=by kernel_rfl
def fillN (xs:List Int) (k:Nat):List Int:=xs.take k++List.replicate (xs.length - k) 0
theorem fillN_len (xs:List Int) (k:Nat) (h:k≤xs.length):(fillN xs k).length=xs.length:=by simp [fillN];omega
theorem fillN_zero (xs:List Int):fillN xs 0=List.replicate xs.length 0:=by simp [fillN]
theorem fillN_all (xs:List Int):fillN xs xs.length=xs:=by simp [fillN]
theorem take_succI (xs:List Int) (k:Nat) (h:k<xs.length):xs.take (k+1)=xs.take k++[xs.getD k 0]:=by
 rw [List.take_add_one]
 congr 1
 simp [List.getD,h]
theorem fillN_set (xs:List Int) (k:Nat) (h:k<xs.length):(fillN xs k).set k (xs.getD k 0)=fillN xs (k+1):=by
 unfold fillN
 have e:xs.length - k=(xs.length - (k+1))+1:=by omega
 rw [e,List.replicate_succ,List.set_append_right _ _ (by simp [Nat.min_eq_left (Nat.le_of_lt h)]),List.length_take,Nat.min_eq_left (Nat.le_of_lt h),Nat.sub_self,List.set_cons_zero,take_succI xs k h,List.append_assoc]
 rfl
theorem made_ints (n:Nat):(madeCells (Value.int .i64 0).cells (n*1)).toList=(List.replicate n (0:Int)).map (Value.int .i64):=by
 rw [Nat.mul_one]
 have:=toList_madeCells_one (.int .i64 0) n
 rw [List.map_replicate]
 exact this
set_option maxHeartbeats 1000000 in
theorem toInts_any (xs:List Int) (v:Value) (w:World) (h:Row w v xs) (hl:xs.length≤1048576) :
 Calls Tryz.prog 38 #[v] w fun e w'=>e=.returned (.slice (some ⟨w.heap.size,0,none⟩) xs.length xs.length)∧Old w w'∧Own w' w.heap.size (.slice (some ⟨w.heap.size,0,none⟩) xs.length xs.length) xs:=by
 obtain ⟨i0,hi,hz0,hz1,hz2⟩:=info_parts Tryz.infoInt
 rcases h with ⟨a0,cap0,rfl,rfl⟩ | ⟨b,o,cap0,rfl,hb,h0,hc⟩
 ·go_enter Tryz.func38,Tryz.ntmps38
  go_wp2_with (at_make;refine wpList_make_full _ rfl _ _ 22 rfl w.heap.size 3 i0 (.int .i64 0) 1 Tryz.underlying22 hi hz0 hz1 .i64 .i64 _ _ 0 rfl rfl rfl rfl (by rw [hz2];omega) (by unfold maxLen;omega) (Nat.le_refl _) ?_;intro w1 hown hgrow)
  have HO:Hid (Own w1 w.heap.size (.slice (some ⟨w.heap.size,0,none⟩) 0 0) []):=by rw [made_ints] at hown;exact hown
  have HG:Hid (Old w w1):=Below.grown (Below.refl _ _) hgrow (Nat.le_refl _) (fun _ h=>by cases h)
  clear hown hgrow
  refine wp_loop_rounds 1 ?_
  rw [rounds_succ]
  go_wp2_with fail
  go_ret
  exact ⟨rfl,HG.out,HO.out⟩
 ·have HC:Hid (∀j,j<xs.length→w.cell? ⟨b,o+j,none⟩=some (.int .i64 (xs.getD j 0))):=hc
  clear hc
  go_enter Tryz.func38,Tryz.ntmps38
  go_wp2_with (at_make;refine wpList_make_full _ rfl _ _ 22 rfl w.heap.size 3 i0 (.int .i64 0) 1 Tryz.underlying22 hi hz0 hz1 .i64 .i64 _ _ xs.length rfl rfl rfl rfl (by rw [hz2];omega) (by unfold maxLen;omega) (Nat.le_refl _) ?_;intro w1 hown hgrow)
  rw [made_ints,← fillN_zero] at hown
  have HO:Hid (w1.ownsRow w.heap.size 3 1 (.slice (some ⟨w.heap.size,0,none⟩) xs.length xs.length) xs.length ((fillN xs 0).map (Value.int .i64))):=hown
  have HG:Hid (Old w w1):=Below.grown (Below.refl _ _) hgrow (Nat.le_refl _) (fun _ h=>by cases h)
  clear hown hgrow
  go_loopw [4] (fun i W=>∃k:Nat,k≤xs.length∧i=.int .i64 k∧Hid (W.ownsRow w.heap.size 3 1 (.slice (some ⟨w.heap.size,0,none⟩) xs.length xs.length) xs.length ((fillN xs k).map (Value.int .i64)))∧Hid (Old w W)) (fun i _=>xs.length - (intOf i).toNat)
  case atStart=>exact ⟨0,by omega,rfl,HO,HG⟩
  case round=>
   obtain ⟨k,hk,rfl,HO1,HG1⟩:=hrel
   clear HO HG
   by_cases hlt:k<xs.length
   ·have d1:decide ((k:Int)<(xs.length:Int))=true:=by simp;omega
    have c1:wr.cell? ⟨b,o+k,none⟩=some (.int .i64 (xs.getD k 0)):=(HG1.out.cell (p:=⟨b,o+k,none⟩) hb).trans (HC.out k hlt)
    have c2:wr.cell? ⟨w.heap.size,k,none⟩=some (.int .i64 ((fillN xs k).getD k 0)):=by
     rw [World.ownsRow.cellAt HO1.out k (by omega)]
     have:=fillN_len xs k hk
     simp [List.getD,this,hlt]
    have c3:wr.frozen? ⟨w.heap.size,k,none⟩=false:=World.ownsRow.frozenAt HO1.out k
    have HS:Hid ((wr.setCell ⟨w.heap.size,k,none⟩ (.int .i64 (xs.getD k 0))).ownsRow w.heap.size 3 1 (.slice (some ⟨w.heap.size,0,none⟩) xs.length xs.length) xs.length ((fillN xs (k+1)).map (Value.int .i64))):=by
     have:=(World.ownsRow.stored HO1.out k (.int .i64 (xs.getD k 0))).1
     rw [← List.map_set,fillN_set xs k hlt] at this
     exact this
    generalize xs.getD k 0=x at *
    generalize (fillN xs k).getD k 0=y at *
    go_wp2_with fail
    exact ⟨⟨k+1,by omega,by go_num,HS,HG1.out.own (Nat.le_refl _) _⟩,by simp [intOf];omega⟩
   ·have d1:decide ((k:Int)<(xs.length:Int))=false:=by simp;omega
    obtain rfl:k=xs.length:=by omega
    have HF:=HO1.out
    rw [fillN_all] at HF
    have HF':Hid (Own wr w.heap.size (.slice (some ⟨w.heap.size,0,none⟩) xs.length xs.length) xs):=HF
    clear HF HO1
    go_wp2_with fail
    go_ret
    exact ⟨rfl,HG1.out,HF'.out⟩
theorem Row.two {w:World} {v u:Value} {xs:List Int} (h:Row w v xs) (k:Row w u xs) :
 (∃a cap a' cap',v=.slice a 0 cap∧u=.slice a' 0 cap'∧xs=[])∨∃b o cap b' o' cap',v=.slice (some ⟨b,o,none⟩) xs.length cap∧u=.slice (some ⟨b',o',none⟩) xs.length cap'∧0<xs.length∧(b<w.heap.size∧b'<w.heap.size)∧(∀j,j<xs.length→w.cell? ⟨b,o+j,none⟩=some (.int .i64 (xs.getD j 0)))∧(∀j,j<xs.length→w.cell? ⟨b',o'+j,none⟩=some (.int .i64 (xs.getD j 0))):=by
 rcases h with ⟨a,cap,e,e2⟩ | ⟨b,o,cap,e,hb,h0,hc⟩
 ·rcases k with ⟨a',cap',e',_⟩ | ⟨b',o',cap',e',hb',h0',hc'⟩
  ·exact Or.inl ⟨a,cap,a',cap',e,e',e2⟩
  ·rw [e2] at h0';simp at h0'
 ·rcases k with ⟨a',cap',e',e2⟩ | ⟨b',o',cap',e',hb',h0',hc'⟩
  ·rw [e2] at h0;simp at h0
  ·exact Or.inr ⟨b,o,cap,b',o',cap',e,e',h0,⟨hb,hb'⟩,hc,hc'⟩
set_option maxHeartbeats 1000000 in
theorem eqInts_yes (xs:List Int) (v u:Value) (w:World) (h:Row w v xs) (k:Row w u xs) (hl:xs.length≤1073741824) :
 Calls Tryz.prog 48 #[v,u] w fun e w'=>e=.returned (.bool true)∧Old w w':=by
 rcases Row.two h k with ⟨a,cap,a',cap',rfl,rfl,rfl⟩ | ⟨b,o,cap,b',o',cap',rfl,rfl,h0,⟨hb,hb'⟩,hc,hc'⟩
 ·clear h k
  go_enter Tryz.func48,Tryz.ntmps48
  go_wp2_with fail
  refine wp_loop_rounds 1 ?_
  rw [rounds_succ]
  go_wp2_with fail
  go_ret
  exact ⟨rfl,Old.refl _⟩
 ·have HC:Hid (∀j,j<xs.length→w.cell? ⟨b,o+j,none⟩=some (.int .i64 (xs.getD j 0))):=hc
  have HC':Hid (∀j,j<xs.length→w.cell? ⟨b',o'+j,none⟩=some (.int .i64 (xs.getD j 0))):=hc'
  clear hc hc' h k
  go_enter Tryz.func48,Tryz.ntmps48
  go_wp2_with fail
  go_loopw [5] (fun i W=>∃k:Nat,k≤xs.length∧i=.int .i64 k∧Hid (Old w W)) (fun i _=>xs.length - (intOf i).toNat)
  case atStart=>exact ⟨0,by omega,rfl,Old.refl _⟩
  case round=>
   obtain ⟨k,hk,rfl,HG⟩:=hrel
   by_cases hlt:k<xs.length
   ·have d1:decide ((k:Int)<(xs.length:Int))=true:=by simp;omega
    have c1:wr.cell? ⟨b,o+k,none⟩=some (.int .i64 (xs.getD k 0)):=(HG.out.cell (p:=⟨b,o+k,none⟩) hb).trans (HC.out k hlt)
    have c2:wr.cell? ⟨b',o'+k,none⟩=some (.int .i64 (xs.getD k 0)):=(HG.out.cell (p:=⟨b',o'+k,none⟩) hb').trans (HC'.out k hlt)
    generalize xs.getD k 0=x at *
    have dx:(x != x)=false:=by simp
    go_wp2_with fail
    go_quiet (fail)
    go_wp2_with fail
    exact ⟨⟨k+1,by omega,by go_num,HG.out.drewN _⟩,by simp [intOf];omega⟩
   ·have d1:decide ((k:Int)<(xs.length:Int))=false:=by simp;omega
    go_wp2_with fail
    go_ret
    exact ⟨rfl,HG.out⟩
def marks (k:Int) (n:Nat):List Int:=(List.range n).map (fun (i:Nat)=>k+(i:Int))
theorem marks_len (k:Int) (n:Nat):(marks k n).length=n:=by simp [marks]
theorem marks_get (k:Int) (n j:Nat) (h:j<n):(marks k n).getD j 0=k+j:=by simp [marks,List.getD,h]
def markN (xs:List Int) (k:Int) (j:Nat):List Int:=marks k j++xs.drop j
theorem markN_len (xs:List Int) (k:Int) (j:Nat) (h:j≤xs.length):(markN xs k j).length=xs.length:=by simp [markN,marks_len];omega
theorem markN_zero (xs:List Int) (k:Int):markN xs k 0=xs:=by simp [markN,marks]
theorem markN_all (xs:List Int) (k:Int):markN xs k xs.length=marks k xs.length:=by simp [markN]
theorem markN_set (xs:List Int) (k:Int) (j:Nat) (h:j<xs.length):(markN xs k j).set j (k+j)=markN xs k (j+1):=by
 unfold markN
 rw [List.set_append_right _ _ (by rw [marks_len];exact Nat.le_refl _),marks_len,Nat.sub_self,List.drop_eq_getElem_cons h,List.set_cons_zero]
 unfold marks
 rw [List.range_succ,List.map_append]
 simp
set_option maxHeartbeats 1000000 in
theorem markInts_any (xs:List Int) (v:Value) (k:Int) (base:Nat) (w:World) (h:Own w base v xs) (hl:xs.length≤1073741824) (hk:0≤k) (hk':k≤1073741824) :
 Calls Tryz.prog 50 #[v,.int .i64 k] w fun e w'=>e=.returned (.int .i64 (k+xs.length))∧w.grownBy w' v.ownBlock∧Own w' base v (marks k xs.length):=by
 by_cases h0:xs.length=0
 ·obtain rfl:=List.length_eq_zero_iff.1 h0
  have HF:Hid (Own w base v (marks k 0)):=h
  obtain ⟨a0,cap0,rfl⟩:=(Own.row h).slice
  clear h
  go_enter Tryz.func50,Tryz.ntmps50
  go_wp2_with fail
  refine wp_loop_rounds 1 ?_
  rw [rounds_succ]
  go_wp2_with fail
  go_ret
  exact ⟨by simp,World.grownBy.refl _ _,HF.out⟩
 ·obtain ⟨g,cap,rfl⟩:∃g cap,v=.slice (some ⟨g,0,none⟩) xs.length cap:=by
   rcases h.2 with ⟨_,h1⟩ | ⟨g,cap,cur,e,_⟩
   ·exact absurd h1 h0
   ·exact ⟨g,cap,e⟩
  have HO:Hid (w.ownsRow base 3 1 (.slice (some ⟨g,0,none⟩) xs.length cap) xs.length ((markN xs k 0).map (Value.int .i64))):=by rw [markN_zero];exact h
  clear h
  go_enter Tryz.func50,Tryz.ntmps50
  go_wp2_with fail
  go_loopw [1,5] (fun m i W=>∃j:Nat,j≤xs.length∧i=.int .i64 j∧m=.int .i64 (k+j)∧Hid (W.ownsRow base 3 1 (.slice (some ⟨g,0,none⟩) xs.length cap) xs.length ((markN xs k j).map (Value.int .i64)))∧Hid (w.grownBy W (some g))) (fun _ i _=>xs.length - (intOf i).toNat)
  case atStart=>exact ⟨0,by omega,rfl,by go_num,HO,World.grownBy.refl _ _⟩
  case round=>
   obtain ⟨j,hj,rfl,rfl,HO1,HG1⟩:=hrel
   clear HO
   by_cases hlt:j<xs.length
   ·have d1:decide ((j:Int)<(xs.length:Int))=true:=by simp;omega
    have c2:wr.cell? ⟨g,j,none⟩=some (.int .i64 ((markN xs k j).getD j 0)):=by
     rw [World.ownsRow.cellAt HO1.out j (by omega)]
     have:=markN_len xs k j hj
     simp [List.getD,this,hlt]
    have c3:wr.frozen? ⟨g,j,none⟩=false:=World.ownsRow.frozenAt HO1.out j
    have st:=World.ownsRow.stored HO1.out j (.int .i64 (k+j))
    have HS:Hid ((wr.setCell ⟨g,j,none⟩ (.int .i64 (k+j))).ownsRow base 3 1 (.slice (some ⟨g,0,none⟩) xs.length cap) xs.length ((markN xs k (j+1)).map (Value.int .i64))):=by
     have:=st.1
     rw [← List.map_set,markN_set xs k j hlt] at this
     exact this
    have HG2:Hid (w.grownBy (wr.setCell ⟨g,j,none⟩ (.int .i64 (k+j))) (some g)):=
     ⟨st.2.os.trans HG1.out.os,st.2.tape.trans HG1.out.tape,st.2.output.trans HG1.out.output,Nat.le_trans HG1.out.size st.2.size,fun p hp hne=>(st.2.block p (Nat.lt_of_lt_of_le hp HG1.out.size) hne).trans (HG1.out.block p hp hne)⟩
    generalize (markN xs k j).getD j 0=y at *
    clear st HO1 HG1
    go_wp2_with fail
    exact ⟨⟨j+1,by omega,by go_num,by go_num,HS,HG2⟩,by simp [intOf];omega⟩
   ·have d1:decide ((j:Int)<(xs.length:Int))=false:=by simp;omega
    obtain rfl:j=xs.length:=by omega
    have HF:=HO1.out
    rw [markN_all] at HF
    have HF':Hid (Own wr base (.slice (some ⟨g,0,none⟩) xs.length cap) (marks k xs.length)):=by unfold Own;rw [marks_len];exact HF
    clear HF HO1
    go_wp2_with fail
    go_ret
    exact ⟨rfl,HG1.out,HF'.out⟩
set_option maxHeartbeats 1000000 in
theorem heldInts_yes (n:Nat) (v:Value) (k:Int) (w:World) (h:Row w v (marks k n)) (hl:n≤1073741824) (hk:0≤k) (hk':k≤1073741824) :
 Calls Tryz.prog 122 #[v,.int .i64 k] w fun e w'=>e=.returned (.int .i64 (k+n))∧Old w w':=by
 rcases h with ⟨a0,cap0,rfl,e2⟩ | ⟨b,o,cap,rfl,hb,h0,hc⟩
 ·have hn:=congrArg List.length e2
  rw [marks_len] at hn
  obtain rfl:n=0:=by simpa using hn
  clear e2 hn
  go_enter Tryz.func122,Tryz.ntmps122
  go_wp2_with fail
  refine wp_loop_rounds 1 ?_
  rw [rounds_succ]
  go_wp2_with fail
  go_ret
  exact ⟨by simp,Old.refl _⟩
 ·rw [marks_len] at hc ⊢
  have HC:Hid (∀j,j<n→w.cell? ⟨b,o+j,none⟩=some (.int .i64 (k+j))):=fun j hj=>by rw [hc j hj,marks_get k n j hj]
  clear hc h0
  go_enter Tryz.func122,Tryz.ntmps122
  go_wp2_with fail
  go_loopw [1,5] (fun m i W=>∃j:Nat,j≤n∧i=.int .i64 j∧m=.int .i64 (k+j)∧Hid (Old w W)) (fun _ i _=>n - (intOf i).toNat)
  case atStart=>exact ⟨0,by omega,rfl,by go_num,Old.refl _⟩
  case round=>
   obtain ⟨j,hj,rfl,rfl,HG⟩:=hrel
   by_cases hlt:j<n
   ·have d1:decide ((j:Int)<(n:Int))=true:=by simp;omega
    have c1:wr.cell? ⟨b,o+j,none⟩=some (.int .i64 (k+j)):=(HG.out.cell (p:=⟨b,o+j,none⟩) hb).trans (HC.out j hlt)
    have dx:(k+(j:Int) != k+(j:Int))=false:=by simp
    go_wp2_with fail
    exact ⟨⟨j+1,by omega,by go_num,by go_num,HG⟩,by simp [intOf];omega⟩
   ·have d1:decide ((j:Int)<(n:Int))=false:=by simp;omega
    obtain rfl:j=n:=by omega
    go_wp2_with fail
    go_ret
    exact ⟨rfl,HG.out⟩
end Go.Proofs.YtanijpekdnkicaaGreatDoor
namespace Go.Proofs.YtanijpekdnkicaaGreatDoor
open Go.ChangeShapes Go.WideShapes Go.ChangeAt Go.RowKit
open M2
set_option linter.unusedVariables false
set_option linter.unusedSimpArgs false
def toI (xs:List Nat):List Int:=xs.map (fun (n:Nat)=>(n:Int))
theorem toI_len (xs:List Nat):(toI xs).length=xs.length:=by simp [toI]
theorem beq0 (x:Nat) (h:x≠0):((x:Int)==0)=false:=by simp;omega
end Go.Proofs.YtanijpekdnkicaaGreatDoor
namespace Go.Proofs.YtanijpekdnkicaaGreatDoor
open Go.ChangeShapes Go.WideShapes Go.ChangeAt Go.RowKit
set_option linter.unusedVariables false
set_option linter.unusedSimpArgs false
theorem szInts_any (a:Option Addr) (len cap:Nat) (left:Int) (w:World) (hl:len≤9223372036854775807) (h0:0≤left) (h1:left≤1048576) :
 Calls Tryz.prog 32 #[.slice a len cap,.int .i64 left] w fun e w'=>e=.returned (.int .i64 (if left<(len:Int) then -1 else left - len))∧w'=w:=by
 by_cases h:left<(len:Int)
 ·have d:decide (left - (len:Int)<0)=true:=by simp;omega
  rw [if_pos h]
  go_enter Tryz.func32,Tryz.ntmps32
  go_wp2_with fail
  go_ret
  exact ⟨rfl,rfl⟩
 ·have d:decide (left - (len:Int)<0)=false:=by simp;omega
  rw [if_neg h]
  go_enter Tryz.func32,Tryz.ntmps32
  go_wp2_with fail
  go_ret
  exact ⟨rfl,rfl⟩
structure Chg (w w':World) (lo hi:Nat):Prop where
 os:w'.os=w.os
 tape:w'.tape=w.tape
 output:w'.output=w.output
 size:w.heap.size≤w'.heap.size
 block:∀b,b<w.heap.size→(b<lo∨hi≤b)→w'.heap[b]? = w.heap[b]?
theorem Old.toChg {w w':World} (h:Old w w') (lo hi:Nat):Chg w w' lo hi:=⟨h.os,h.tape,h.output,h.size,fun b hb _=>h.block b hb⟩
theorem Chg.trans {a b c:World} {lo hi:Nat} (h:Chg a b lo hi) (k:Chg b c lo hi):Chg a c lo hi:=
 ⟨k.os.trans h.os,k.tape.trans h.tape,k.output.trans h.output,Nat.le_trans h.size k.size,fun i hi ho=>(k.block i (Nat.lt_of_lt_of_le hi h.size) ho).trans (h.block i hi ho)⟩
theorem Old.chg {a w w':World} {lo hi:Nat} (h:Old a w) (c:Chg w w' lo hi) (hlo:a.heap.size≤lo):Old a w':=
 ⟨c.os.trans h.os,c.tape.trans h.tape,c.output.trans h.output,Nat.le_trans h.size c.size,fun b hb=>(c.block b (Nat.lt_of_lt_of_le hb h.size) (Or.inl (Nat.lt_of_lt_of_le hb hlo))).trans (h.block b hb)⟩
theorem chg_by {w w':World} {ob:Option Nat} {lo hi:Nat} (g:w.grownBy w' ob) (hb:∀b,ob=some b→lo≤b∧b<hi):Chg w w' lo hi:=
 ⟨g.os,g.tape,g.output,g.size,fun b hl ho=>g.block b hl (fun h=>by have:=hb b h.symm;omega)⟩
def Far {α:Type} (R:World→Nat→Nat→α→Prop):Prop:=∀W W' lo hi v,R W lo hi v→(∀b,lo≤b→b<hi→W'.heap[b]? = W.heap[b]?)→W.heap.size≤W'.heap.size→R W' lo hi v
theorem Far.old {α:Type} {R:World→Nat→Nat→α→Prop} (f:Far R) {W W':World} {lo hi:Nat} {v:α} (h:R W lo hi v) (g:Old W W') (hh:hi≤W.heap.size):R W' lo hi v:=
 f W W' lo hi v h (fun b _ hb=>g.block b (by omega)) g.size
theorem Far.chg {α:Type} {R:World→Nat→Nat→α→Prop} (f:Far R) {W W':World} {lo hi lo' hi':Nat} {v:α} (h:R W lo hi v) (c:Chg W W' lo' hi') (hh:hi≤W.heap.size) (hd:hi≤lo'∨hi'≤lo):R W' lo hi v:=
 f W W' lo hi v h (fun b h1 h2=>c.block b (by omega) (by omega)) c.size
end Go.Proofs.YtanijpekdnkicaaGreatDoor
