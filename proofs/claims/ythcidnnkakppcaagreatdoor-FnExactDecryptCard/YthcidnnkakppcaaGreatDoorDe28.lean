/- Proved: what its theorems say. -/
import Derived.Test.YthcidnnkakppcaaGreatDoorDe20
import Derived.Lib.AppendZeros
set_option linter.unusedVariables false
set_option linter.unusedSimpArgs false
set_option maxHeartbeats 4000000
set_option maxRecDepth 100000
namespace Go.Proofs.YthcidnnkakppcaaGreatDoor
open Go.ChangeShapes Go.WideShapes Go.ChangeAt Go.RowKit
theorem Qjt (n:Nat):(Builtin.zeroCells (Value.int .i64 0).cells n).size=n:=by simp [Builtin.zeroCells,Value.cells]
theorem Qxj (w:World) (n c:Nat) (h1:n<=c) (h2:c<=maxLen):Own (w.drew.alloc (.cells (Builtin.zeroCells (Value.int .i64 0).cells n++Builtin.zeroCells (Value.int .i64 0).cells (c - n)) 3)) w.heap.size (.slice (some ⟨w.heap.size,0,none⟩) 0 c) []:=by
 refine ⟨rfl,Or.inr ⟨w.heap.size,c,_,rfl,Nat.le_refl _,heap_alloc_new w.drew _,Nat.zero_le _,h2,?_,by simp⟩⟩;rw [Array.size_append,Qjt,Qjt];omega
theorem Qxk (n:Nat) (w:World) (hn:n≤100) :
  Calls Tryz.prog 167 #[.slice none 0 0,.int .i64 n] w fun e w'=>∃v',e=.returned v'/\Old w w'/\Own w' w.heap.size v' []:=by
 obtain ⟨i0,hi,hz0,hz1,hz2⟩:=info_parts Tryz.infoInt;have d0:decide ((n:Int)<0)=false:=decide_eq_false (by omega);rcases Nat.eq_zero_or_pos n with h0 | h0
 ·subst h0;go_enter Tryz.func167,Tryz.ntmps167;go_wp2_with fail;go_ret;exact ⟨_,rfl,Old.refl _,⟨rfl,Or.inl ⟨rfl,rfl⟩⟩⟩
 ·have hr:=Lib.run_append_nil_zeros (P:=Tryz.prog) w 22 3 22 3 i0 (.int .i64 0) .i64 .i64 Tryz.underlying22 Tryz.underlying3 hi hz0 n h0 (by omega) (by omega) (by rw [hz2];omega);have hc1:=grownCap_ge w n 0 3;have hc2:=grownCap_le_maxLen w n 0 3 (by unfold maxLen;omega);have HO:=Qaa (Qxj w n _ hc1 hc2);have HG:Hid (Old w (w.drew.alloc (.cells (Builtin.zeroCells (Value.int .i64 0).cells n++Builtin.zeroCells (Value.int .i64 0).cells (grownCap w n 0 3 - n)) 3))):=Old.alloc (Below.drew (Old.refl w)) _;generalize grownCap w n 0 3=c at *;generalize w.drew.alloc (.cells (Builtin.zeroCells (Value.int .i64 0).cells n++Builtin.zeroCells (Value.int .i64 0).cells (c - n)) 3)=w2 at *;have HR:=Qaa hr;clear hr;go_enter Tryz.func167,Tryz.ntmps167;go_wp2_with (at_builtin;refine Lib.wpList_append_run _ rfl _ _ 22 3 rfl _ _ rfl rfl _ _ HR.out ?_);go_ret;exact ⟨_,rfl,HG.out,HO.out⟩
def Lie (w:World) (ad:Addr) (xs:List Int):Prop:=∀j u,(xs.map (Value.int .i64))[j]? = some u->w.cell? (ad.add j)=some u
theorem Lie.old {w w':World} {ad:Addr} {xs:List Int} (h:Lie w ad xs) (g:Old w w'):Lie w' ad xs:=fun j u hj=>by
 have h1:=h j u hj;rw [g.cell (block_lt_of_cell h1)];exact h1
theorem Lie.nil (w:World) (ad:Addr):Lie w ad []:=fun j u hj=>by simp at hj
theorem Qqw (xs:List Int):∀u∈xs.map (Value.int .i64),u.oneCell'=true:=by
 intro u hu;obtain ⟨x,_,rfl⟩:=List.mem_map.1 hu;rfl
theorem Qr3 (xs ys:List Int) (g:Nat) (a1 a2:Addr) (c1 c2:Nat) (w:World) (h1:w.cell? ⟨g,0,none⟩=some (.slice (some a1) xs.length c1)) (h2:w.cell? ⟨g,1,none⟩=some (.slice (some a2) ys.length c2))
  (l1:Lie w a1 xs) (l2:Lie w a2 ys) (hx:xs.length<=50) (hy:ys.length<=50) :
  Calls Tryz.prog 162 #[.slice (some ⟨g,0,none⟩) 2 2] w fun e w'=>∃v',e=.returned v'/\Old w w'/\Own w' w.heap.size v' (xs++ys):=by
 obtain ⟨i0,hi,hz0,hz1,hz2⟩:=info_parts Tryz.infoInt;have L1:=Qaa l1;have L2:=Qaa l2;have H1:=Qaa h1;have H2:=Qaa h2;have hg:g<w.heap.size:=block_lt_of_cell h1;have HM1:Hid ((xs.map (Value.int .i64)).length=xs.length*1):=by show _ = _;simp
 have HM2:Hid ((ys.map (Value.int .i64)).length=ys.length*1):=by show _ = _;simp
 obtain ⟨n,hn⟩:∃n:Nat,n=xs.length+ys.length:=⟨_,rfl⟩
 have en:(xs.length:Int)+(ys.length:Int)=(n:Int):=by omega
 have d1:decide ((xs.length:Int)<0)=false:=decide_eq_false (by omega);have d2:decide ((n:Int)<0)=false:=decide_eq_false (by omega);have cg:=fun W=>Qxk n W (by omega)
 clear l1 l2 hn;go_enter Tryz.func162,Tryz.ntmps162;go_wp2_with fail;refine wp_loop_rounds 3 ?_
 rw [rounds_succ];go_wp2_with fail;rw [rounds_succ];go_wp2_with fail;rw [rounds_succ];go_wp2_with fail;refine (cg _).mono ?_
 rintro e w1 ⟨v1,rfl,g1,o1⟩;have HG1:=Qaa g1;have HO1:=Qaa o1;obtain ⟨va,vc,rfl⟩:=(Own.row o1).slice;have q1:=(g1.cell (p:=⟨g,0,none⟩) hg).trans H1.out;have hs1:=g1.size;clear g1 o1 h1 h2;go_wp2_with fail;refine wp_loop_rounds 3 ?_
 rw [rounds_succ];go_wp2_with (at_builtin;refine wpList_append_own _ rfl _ _ 22 rfl w.heap.size 3 i0 (.int .i64 0) 1 8 Tryz.underlying22 hi hz0 hz1 hz2 rfl (by decide) _ 0 [] rfl HO1.out a1 xs.length c1 (xs.map (Value.int .i64)) rfl HM1.out (L1.out.old HG1.out) (Qqw xs) (by unfold maxLen;omega) (by omega) hs1 ?_;intro v2 w2 o2 g2 x2;have HO2:Hid (Own w2 w.heap.size v2 xs):=(by rw [Nat.zero_add,List.nil_append] at o2;exact o2);have HG2:Hid (Old w w2):=Below.grown HG1.out g2 hs1 (fun j hj=>(HO1.out.lt j hj).1);clear o2 g2 x2);obtain ⟨va2,vc2,rfl⟩:=(Own.row HO2.out).slice;have q2:=(HG2.out.cell (p:=⟨g,1,none⟩) hg).trans H2.out;have hs2:=HG2.out.size;rw [rounds_succ];go_wp2_with (at_builtin;refine wpList_append_own _ rfl _ _ 22 rfl w.heap.size 3 i0 (.int .i64 0) 1 8 Tryz.underlying22 hi hz0 hz1 hz2 rfl (by decide) _ xs.length (xs.map (Value.int .i64)) rfl HO2.out a2 ys.length c2 (ys.map (Value.int .i64)) rfl HM2.out (L2.out.old HG2.out) (Qqw ys) (by unfold maxLen;omega) (by omega) hs2 ?_;intro v3 w3 o3 g3 x3;have HO3:Hid (Own w3 w.heap.size v3 (xs++ys)):=(by unfold Own;show w3.ownsRow _ _ _ _ _ _;rw [List.length_append,List.map_append];exact o3);have HG3:Hid (Old w w3):=Below.grown HG2.out g3 hs2 (fun j hj=>(HO2.out.lt j hj).1);clear o3 g3 x3);obtain ⟨va3,vc3,rfl⟩:=(Own.row HO3.out).slice;rw [rounds_succ];go_wp2_with fail;go_ret;exact ⟨_,rfl,HG3.out,HO3.out⟩
end Go.Proofs.YthcidnnkakppcaaGreatDoor
