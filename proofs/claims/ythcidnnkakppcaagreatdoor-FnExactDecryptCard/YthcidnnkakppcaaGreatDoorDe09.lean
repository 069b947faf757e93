/- Proved: what its theorems say. -/
import Derived.Test.YthcidnnkakppcaaGreatDoorDe02
import Derived.Test.YthcidnnkakppcaaGreatDoorDe08
set_option linter.unusedVariables false
set_option linter.unusedSimpArgs false
set_option maxHeartbeats 4000000
set_option maxRecDepth 100000
namespace Go.Proofs.YthcidnnkakppcaaGreatDoor
open Go.ChangeShapes Go.WideShapes Go.ChangeAt Go.RowKit
theorem Qn8 (N T E:Int) (a:Option Addr) (len cap:Nat) (left:Int) (w:World) (hl:len≤9223372036854775807) (h0:0≤left) (h1:left≤1048576) (h:left<(len:Int)) :
  Calls Tryz.prog 4 #[.agg #[.int .i64 N,.int .i64 T,.int .i64 E,.slice a len cap],.int .i64 left] w fun e w'=>e=.returned (.int .i64 (-1))/\Old w w':=by
 have c:=fun W=>Qf7 a len cap left W hl h0 h1
 rw [if_pos h] at c;go_enter Tryz.func4,Tryz.ntmps4;go_wp2_with fail;refine (c _).mono ?_
 rintro e w' ⟨rfl,rfl⟩;go_wp2_with fail;go_ret;exact ⟨rfl,(Old.refl _).alloc _⟩
theorem Ql7 (N T E:Int) (a:Option Addr) (len cap:Nat) (left:Int) (w:World) (hl:len≤9223372036854775807) (h0:0≤left) (h1:left≤1048576) (h:¬left<(len:Int)) :
  Calls Tryz.prog 4 #[.agg #[.int .i64 N,.int .i64 T,.int .i64 E,.slice a len cap],.int .i64 left] w fun e w'=>e=.returned (.int .i64 (left - len))/\Old w w':=by
 have c:=fun W=>Qf7 a len cap left W hl h0 h1
 rw [if_neg h] at c;have d:decide (left - (len:Int)<0)=false:=by simp;omega
 go_enter Tryz.func4,Tryz.ntmps4;go_wp2_with fail;refine (c _).mono ?_
 rintro e w' ⟨rfl,rfl⟩;go_wp2_with fail;go_ret;exact ⟨rfl,(Old.refl _).alloc _⟩
theorem Ql8 (N T E:Int) (xs:List Int) (v:Value) (w:World) (h:Row w v xs) (hl:xs.length≤1048576) :
  Calls Tryz.prog 7 #[.agg #[.int .i64 N,.int .i64 T,.int .i64 E,v]] w fun e w'=>∃v',e=.returned (.agg #[.int .i64 N,.int .i64 T,.int .i64 E,v'])/\Old w w'/\Own w' w.heap.size v' xs/\Fit v':=by
 have HR:=Qaa h;obtain ⟨a0,cap0,rfl⟩:=h.slice;clear h;go_enter Tryz.func7,Tryz.ntmps7;go_wp2_with fail;refine (Qf6 xs _ _ (HR.out.old (((Old.refl w).alloc _).alloc _ |>.alloc _)) hl).mono ?_
 rintro e w1 ⟨rfl,g1,o1⟩;have q20:w1.cell? ⟨w.heap.size+1+1,0,none⟩=some (Value.int .i64 N):=(g1.cell (p:=⟨w.heap.size+1+1,0,none⟩) (by simp;try omega)).trans (by simp [Qad,Qa0,Qbp,Qca])
 have q21:w1.cell? ⟨w.heap.size+1+1,1,none⟩=some (Value.int .i64 T):=(g1.cell (p:=⟨w.heap.size+1+1,1,none⟩) (by simp;try omega)).trans (by simp [Qad,Qa0,Qbp,Qca])
 have q22:w1.cell? ⟨w.heap.size+1+1,2,none⟩=some (Value.int .i64 E):=(g1.cell (p:=⟨w.heap.size+1+1,2,none⟩) (by simp;try omega)).trans (by simp [Qad,Qa0,Qbp,Qca])
 have q23:w1.cell? ⟨w.heap.size+1+1,3,none⟩=some (Value.slice none 0 0):=(g1.cell (p:=⟨w.heap.size+1+1,3,none⟩) (by simp;try omega)).trans (by simp [Qad,Qa0,Qbp,Qca])
 have q10:w1.cell? ⟨w.heap.size+1,0,none⟩=some (Value.int .i64 0):=(g1.cell (p:=⟨w.heap.size+1,0,none⟩) (by simp;try omega)).trans (by simp [Qad,Qa0,Qbp,Qca])
 have q11:w1.cell? ⟨w.heap.size+1,1,none⟩=some (Value.int .i64 0):=(g1.cell (p:=⟨w.heap.size+1,1,none⟩) (by simp;try omega)).trans (by simp [Qad,Qa0,Qbp,Qca])
 have q12:w1.cell? ⟨w.heap.size+1,2,none⟩=some (Value.int .i64 0):=(g1.cell (p:=⟨w.heap.size+1,2,none⟩) (by simp;try omega)).trans (by simp [Qad,Qa0,Qbp,Qca])
 have q13:w1.cell? ⟨w.heap.size+1,3,none⟩=some (Value.slice none 0 0):=(g1.cell (p:=⟨w.heap.size+1,3,none⟩) (by simp;try omega)).trans (by simp [Qad,Qa0,Qbp,Qca])
 have f23:w1.frozen? ⟨w.heap.size+1+1,3,none⟩=false:=(g1.frozen (p:=⟨w.heap.size+1+1,3,none⟩) (by simp;try omega)).trans (by simp [Qad,Qa0,Qbp,Qca])
 have f10:w1.frozen? ⟨w.heap.size+1,0,none⟩=false:=(g1.frozen (p:=⟨w.heap.size+1,0,none⟩) (by simp;try omega)).trans (by simp [Qad,Qa0,Qbp,Qca])
 have f11:w1.frozen? ⟨w.heap.size+1,1,none⟩=false:=(g1.frozen (p:=⟨w.heap.size+1,1,none⟩) (by simp;try omega)).trans (by simp [Qad,Qa0,Qbp,Qca])
 have f12:w1.frozen? ⟨w.heap.size+1,2,none⟩=false:=(g1.frozen (p:=⟨w.heap.size+1,2,none⟩) (by simp;try omega)).trans (by simp [Qad,Qa0,Qbp,Qca])
 have f13:w1.frozen? ⟨w.heap.size+1,3,none⟩=false:=(g1.frozen (p:=⟨w.heap.size+1,3,none⟩) (by simp;try omega)).trans (by simp [Qad,Qa0,Qbp,Qca])
 have HG:=Qaa (Old.trans (((Old.refl w).alloc _).alloc _ |>.alloc _) g1)
 have HO:Hid (Own w1 w.heap.size (.slice (some ⟨w.heap.size+1+1+1,0,none⟩) xs.length xs.length) xs):=by
  have:=Own.low o1 (base':=w.heap.size) (by simp;omega);simp at this;exact this
 clear g1 o1 HR;go_wp2_with fail;refine bodyPost_ret (v:=.agg #[.int .i64 N,.int .i64 T,.int .i64 E,.slice (some ⟨w.heap.size+1+1+1,0,none⟩) xs.length xs.length]) (by simp [results,Tryz.results7,go_sem,q10,q11,q12,q13]) rfl ⟨_,rfl,?_,?_,Nat.le_refl _⟩
 ·exact ((((HG.out.own (p:=⟨w.heap.size+1+1,3,none⟩) (by simp;omega) _).own (p:=⟨w.heap.size+1,0,none⟩) (by simp) _).own (p:=⟨w.heap.size+1,1,none⟩) (by simp) _).own (p:=⟨w.heap.size+1,2,none⟩) (by simp) _).own (p:=⟨w.heap.size+1,3,none⟩) (by simp) _
 ·exact ownsRow_setCell_other (ownsRow_setCell_other (ownsRow_setCell_other (ownsRow_setCell_other (ownsRow_setCell_other HO.out (by simp [Value.ownBlock]) _) (by simp [Value.ownBlock];omega) _) (by simp [Value.ownBlock];omega) _) (by simp [Value.ownBlock];omega) _) (by simp [Value.ownBlock];omega) _
theorem Ql9 (N T E:Int) (xs:List Int) (v u:Value) (w:World) (h:Row w v xs) (k:Row w u xs) (hl:xs.length≤1073741824) :
  Calls Tryz.prog 12 #[.agg #[.int .i64 N,.int .i64 T,.int .i64 E,v],.agg #[.int .i64 N,.int .i64 T,.int .i64 E,u]] w fun e w'=>e=.returned (.bool true)/\Old w w':=by
 have HR:=Qaa h;have HK:=Qaa k;obtain ⟨a0,cap0,rfl⟩:=h.slice;obtain ⟨a1,cap1,rfl⟩:=k.slice;clear h k;go_enter Tryz.func12,Tryz.ntmps12;go_wp2_with fail;refine (Qer xs _ _ _ (HR.out.old (((Old.refl w).alloc _).alloc _)) (HK.out.old (((Old.refl w).alloc _).alloc _)) hl).mono ?_
 rintro e w1 ⟨rfl,g1⟩;have HG:=Qaa (Old.trans (((Old.refl w).alloc _).alloc _) g1);clear g1;go_wp2_with fail;go_ret;exact ⟨rfl,HG.out⟩
theorem Qiw (N T E:Int) (xs:List Int) (v:Value) (k:Int) (base:Nat) (w:World) (h:Own w base v xs) (hl:xs.length≤1073741824) (hk:0≤k) (hk':k≤1073741824) :
  Calls Tryz.prog 14 #[.agg #[.int .i64 N,.int .i64 T,.int .i64 E,v],.int .i64 k] w fun e w'=>e=.returned (.int .i64 (k+xs.length))/\w.grownBy w' v.ownBlock/\Own w' base v (marks k xs.length):=by
 have HR:=Qaa h;obtain ⟨a0,cap0,rfl⟩:=(Own.row h).slice;clear h;go_enter Tryz.func14,Tryz.ntmps14;go_wp2_with fail;refine (Qdb xs _ k base _ (HR.out.alloc _) hl hk hk').mono ?_
 rintro e w1 ⟨rfl,g1,o1⟩;have HG:Hid (w.grownBy w1 (Value.slice a0 xs.length cap0).ownBlock):=⟨g1.os,g1.tape,g1.output,Nat.le_trans (by simp) g1.size,fun p hp hne=>(g1.block p (by simp;omega) hne).trans (heap_alloc_old _ _ hp)⟩;have HO:=Qaa o1;clear g1 o1;go_wp2_with fail;go_ret;exact ⟨rfl,HG.out,HO.out⟩
def XP (n t d:Int) (xs:List Int) (W:World) (lo hi:Nat) (g:Array Value):Prop:=∃a c,g=#[.int .i64 n,.int .i64 t,.int .i64 d,.slice a xs.length c]/\OwI xs W lo hi (.slice a xs.length c)/\xs.length<=c
theorem Q2i (n t d:Int) (xs:List Int):Far (XP n t d xs):=fun W W' lo hi v h hf hs=>by
 obtain ⟨a,c,q,o,f⟩:=h;exact ⟨a,c,q,Qj2 xs W W' lo hi _ o hf hs,f⟩
theorem Qwe {n t d:Int} {xs:List Int} (W:World) (lo hi:Nat) (g:Array Value) (h:XP n t d xs W lo hi g):∃a c,g=#[.int .i64 n,.int .i64 t,.int .i64 d,.slice a xs.length c]:=by
 obtain ⟨a,c,q,o,f⟩:=h;exact ⟨a,c,q⟩
theorem Q37 (n t d:Int) (a:Option Addr) (len cap:Nat) (left:Int) (W:World) (hl:len≤9223372036854775807) (h0:0≤left) (h1:left≤1048576) :
  Calls Tryz.prog 4 #[.agg #[.int .i64 n,.int .i64 t,.int .i64 d,.slice a len cap],.int .i64 left] W fun e w'=>e=.returned (.int .i64 (Qdk left len))/\Old W w':=by
 unfold Qdk;split
 ·rename_i h
  exact Qn8 n t d a len cap left W hl h0 h1 h
 ·rename_i h
  exact Ql7 n t d a len cap left W hl h0 h1 h
theorem Q38 (n t d:Int) (xs:List Int) (v:Value) (W:World) (h:Row W v xs) (hl:xs.length≤1048576) :
  Calls Tryz.prog 7 #[.agg #[.int .i64 n,.int .i64 t,.int .i64 d,v]] W fun e w'=>∃g,e=.returned (.agg g)/\Old W w'/\XP n t d xs w' W.heap.size w'.heap.size g:=by
 refine (Ql8 n t d xs v W h hl).mono ?_
 rintro e w' ⟨v',rfl,g,o,f⟩;obtain ⟨a,c,rfl⟩:=(Own.row o).slice;exact ⟨_,rfl,g,a,c,rfl,OwI.of o,f⟩
theorem Q39 (n t d:Int) (xs:List Int) (W:World) (lo hi:Nat) (g:Array Value) (lo' hi':Nat) (g':Array Value) (h:XP n t d xs W lo hi g) (h':XP n t d xs W lo' hi' g') (hl:xs.length≤1073741824) :
  Calls Tryz.prog 12 #[.agg g,.agg g'] W fun e w'=>e=.returned (.bool true)/\Old W w':=by
 obtain ⟨a,c,rfl,o,f⟩:=h;obtain ⟨a',c',rfl,o',f'⟩:=h';exact Ql9 n t d xs _ _ W o.row o'.row hl
theorem Qz5 (n t d:Int) (xs:List Int) (k:Int) (W:World) (lo hi:Nat) (g:Array Value) (h:XP n t d xs W lo hi g) (hl:xs.length≤1048576) (hk:0≤k) (hk':k≤1073741824) :
  Calls Tryz.prog 14 #[.agg g,.int .i64 k] W fun e w'=>e=.returned (.int .i64 (k+xs.length))/\Chg W w' lo hi:=by
 obtain ⟨a,c,rfl,o,f⟩:=h;refine (Qiw n t d xs _ k lo W o.1 (by omega) hk hk').mono ?_
 rintro e w' ⟨rfl,gr,ow⟩;exact ⟨rfl,(o.mark gr ow).1⟩
def XI (xs:List Int) (W:World) (lo hi:Nat) (v:Value):Prop:=∃a c,v=.slice a xs.length c/\OwI xs W lo hi (.slice a xs.length c)/\xs.length<=c
theorem Q2j (xs:List Int):Far (XI xs):=fun W W' lo hi v h hf hs=>by
 obtain ⟨a,c,q,o,f⟩:=h;exact ⟨a,c,q,Qj2 xs W W' lo hi _ o hf hs,f⟩
theorem Qwf {xs:List Int} (W:World) (lo hi:Nat) (v:Value) (h:XI xs W lo hi v):∃a c,v=.slice a xs.length c:=by
 obtain ⟨a,c,q,o,f⟩:=h;exact ⟨a,c,q⟩
theorem Q4a (xs:List Int) (v:Value) (W:World) (h:Row W v xs) (hl:xs.length≤1048576) :
  Calls Tryz.prog 8 #[v] W fun e w'=>∃g,e=.returned g/\Old W w'/\XI xs w' W.heap.size w'.heap.size g:=by
 refine (Qf6 xs v W h hl).mono ?_
 rintro e w' ⟨rfl,g,o⟩;exact ⟨_,rfl,g,_,_,rfl,OwI.of o,Nat.le_refl _⟩
theorem Q4b (xs:List Int) (W:World) (lo hi:Nat) (g:Value) (lo' hi':Nat) (g':Value) (h:XI xs W lo hi g) (h':XI xs W lo' hi' g') (hl:xs.length≤1073741824) :
  Calls Tryz.prog 11 #[g,g'] W fun e w'=>e=.returned (.bool true)/\Old W w':=by
 obtain ⟨a,c,rfl,o,f⟩:=h;obtain ⟨a',c',rfl,o',f'⟩:=h';exact Qer xs _ _ W o.row o'.row hl
theorem Qz6 (xs:List Int) (k:Int) (W:World) (lo hi:Nat) (g:Value) (h:XI xs W lo hi g) (hl:xs.length≤1048576) (hk:0≤k) (hk':k≤1073741824) :
  Calls Tryz.prog 15 #[g,.int .i64 k] W fun e w'=>e=.returned (.int .i64 (k+xs.length))/\Chg W w' lo hi:=by
 obtain ⟨a,c,rfl,o,f⟩:=h;refine (Qdb xs _ k lo W o.1 (by omega) hk hk').mono ?_
 rintro e w' ⟨rfl,gr,ow⟩;exact ⟨rfl,(o.mark gr ow).1⟩
def YI (xs:List Int) (W:World) (lo hi:Nat) (v:Value):Prop:=∃a c,v=.slice a xs.length c/\OwI xs W lo hi (.slice a xs.length c)
theorem Qye (xs:List Int):Far (YI xs):=fun W W' lo hi v h hf hs=>by
 obtain ⟨a,c,q,o⟩:=h;exact ⟨a,c,q,Qj2 xs W W' lo hi _ o hf hs⟩
theorem Qp4 {xs:List Int} (W:World) (lo hi:Nat) (v:Value) (h:YI xs W lo hi v):∃a c,v=.slice a xs.length c:=by
 obtain ⟨a,c,q,o⟩:=h;exact ⟨a,c,q⟩
theorem Q2k {xs:List Int} {W w':World} {v:Value} (o:Own w' W.heap.size v xs):YI xs w' W.heap.size w'.heap.size v:=by
 obtain ⟨a,c,rfl⟩:=(Own.row o).slice;exact ⟨a,c,rfl,OwI.of o⟩
theorem Q4c (xs:List Int) (W:World) (lo hi:Nat) (g:Value) (lo' hi':Nat) (g':Value) (h:YI xs W lo hi g) (h':YI xs W lo' hi' g') (hl:xs.length≤1073741824) :
  Calls Tryz.prog 11 #[g,g'] W fun e w'=>e=.returned (.bool true)/\Old W w':=by
 obtain ⟨a,c,rfl,o⟩:=h;obtain ⟨a',c',rfl,o'⟩:=h';exact Qer xs _ _ W o.row o'.row hl
def YM (k:Int) (n:Nat) (W:World) (lo hi:Nat) (v:Value):Prop:=∃a c,v=.slice a n c/\OwI (marks k n) W lo hi (.slice a n c)
theorem Q2l (k:Int) (n:Nat):Far (YM k n):=fun W W' lo hi v h hf hs=>by
 obtain ⟨a,c,q,o⟩:=h;exact ⟨a,c,q,Qj2 _ W W' lo hi _ o hf hs⟩
theorem Qwg {k:Int} {n:Nat} (W:World) (lo hi:Nat) (v:Value) (h:YM k n W lo hi v):∃a c,v=.slice a n c:=by
 obtain ⟨a,c,q,o⟩:=h;exact ⟨a,c,q⟩
theorem Qz7 (xs:List Int) (k:Int) (W:World) (lo hi:Nat) (g:Value) (h:YI xs W lo hi g) (hl:xs.length≤1048576) (hk:0≤k) (hk':k≤1073741824) :
  Calls Tryz.prog 15 #[g,.int .i64 k] W fun e w'=>e=.returned (.int .i64 (k+xs.length))/\Chg W w' lo hi/\YM k xs.length w' lo hi g:=by
 obtain ⟨a,c,rfl,o⟩:=h;refine (Qdb xs _ k lo W o.1 (by omega) hk hk').mono ?_
 rintro e w' ⟨rfl,gr,ow⟩;exact ⟨rfl,(o.mark gr ow).1,a,c,rfl,(o.mark gr ow).2⟩
theorem Qz8 (n:Nat) (k:Int) (W:World) (lo hi:Nat) (g:Value) (h:YM k n W lo hi g) (hl:n≤1048576) (hk:0≤k) (hk':k≤1073741824) :
  Calls Tryz.prog 17 #[g,.int .i64 k] W fun e w'=>e=.returned (.int .i64 (k+n))/\Old W w':=by
 obtain ⟨a,c,rfl,o⟩:=h;exact Qlu n _ k W o.row (by omega) hk hk'
def Qp5 (T:Int) (xs:List Int) (k:Nat):Bool:=decide (∀i,i<xs.length->k<=i->T<xs.getD i 0)
theorem Qwh {T:Int} {xs:List Int} {k:Nat} (h:xs.length<=k):Qp5 T xs k=true:=decide_eq_true (fun i h1 h2=>by omega)
theorem Qz9 {T:Int} {xs:List Int} {k:Nat} (h:k<xs.length) (hk:¬T<xs.getD k 0):Qp5 T xs k=false:=
 decide_eq_false (fun hh=>hk (hh k h (Nat.le_refl _)))
theorem Qwi {T:Int} {xs:List Int} {k:Nat} (hk:T<xs.getD k 0):Qp5 T xs k=Qp5 T xs (k+1):=by
 unfold Qp5
 congr 1
 apply propext;constructor
 ·intro h i h1 h2;exact h i h1 (by omega)
 ·intro h i h1 h2;rcases Nat.lt_or_ge k i with h3 | h3
  ·exact h i h1 (by omega)
  ·obtain rfl:i=k:=by omega
   exact hk
def prB (N T E:Int) (xs:List Int):Bool:=spB N xs&&(decide (xs.length<=4)&&(inQ T 2 65536&&(inQ E 1 16&&Qp5 T xs 0)))
def Qwj (m:Int) (ss:List Int) (k:Nat):Bool:=decide (∀i,i<ss.length->k<=i->-m<=ss.getD i 0/\ss.getD i 0<=m)
theorem Qwk {m:Int} {ss:List Int} {k:Nat} (h:ss.length<=k):Qwj m ss k=true:=decide_eq_true (fun i h1 h2=>by omega)
theorem Q0a {m:Int} {ss:List Int} {k:Nat} (h:k<ss.length) (hk:¬(-m<=ss.getD k 0/\ss.getD k 0<=m)):Qwj m ss k=false:=
 decide_eq_false (fun hh=>hk (hh k h (Nat.le_refl _)))
theorem Qwl {m:Int} {ss:List Int} {k:Nat} (hk : -m<=ss.getD k 0/\ss.getD k 0<=m):Qwj m ss k=Qwj m ss (k+1):=by
 unfold Qwj
 congr 1
 apply propext;constructor
 ·intro h i h1 h2;exact h i h1 (by omega)
 ·intro h i h1 h2;rcases Nat.lt_or_ge k i with h3 | h3
  ·exact h i h1 (by omega)
  ·obtain rfl:i=k:=by omega
   exact hk
def wiB (n m:Int) (ss:List Int):Bool:=decide ((ss.length:Int)=n)&&Qwj m ss 0
theorem Qbu (N T E:Int) (a:Option Addr) (l c:Nat) (w:World) :
  Calls Tryz.prog 24 #[.agg #[.int .i64 N,.int .i64 T,.int .i64 E,.slice a l c]] w fun e w'=>e=.returned (.agg #[.int .i64 N,.slice a l c])/\Old w w':=by
 go_enter Tryz.func24,Tryz.ntmps24;go_wp2_with fail;refine bodyPost_ret (v:=.agg #[.int .i64 N,.slice a l c]) (by simp [results,Tryz.results24,go_sem]) rfl ⟨rfl,?_⟩;exact ((Old.refl w).alloc _).alloc _
theorem Qn9 (N T E:Int) (a:Option Addr) (l c:Nat) (w:World) :
  Calls Tryz.prog 93 #[.agg #[.int .i64 N,.int .i64 T,.int .i64 E,.slice a l c]] w fun e w'=>e=.returned (.agg #[.int .i64 N,.slice a l c])/\Old w w':=by
 go_enter Tryz.func93,Tryz.ntmps93;go_wp2_with fail;refine bodyPost_ret (v:=.agg #[.int .i64 N,.slice a l c]) (by simp [results,Tryz.results93,go_sem]) rfl ⟨rfl,?_⟩;exact ((Old.refl w).alloc _).alloc _
theorem Qtb (b:Int) (w:World):Calls Tryz.prog 81 #[.int .i64 b] w fun e w'=>e=.returned (.bool (inQ b 1 16))/\w'=w:=by
 have K1:=fun W=>Ql1 b 1 16 W
 generalize inQ b 1 16=r at *;go_enter Tryz.func81,Tryz.ntmps81;go_wp2_with fail;refine (K1 _).mono ?_
 rintro e w' ⟨rfl,rfl⟩;go_wp2_with fail;go_ret;exact ⟨rfl,rfl⟩
theorem Qoa (b:Int) (w:World):Calls Tryz.prog 91 #[.int .i64 b] w fun e w'=>e=.returned (.bool (inQ b 1 16))/\w'=w:=by
 unfold inQ
 cases h:decide (1<=b)
 ·go_enter Tryz.func91,Tryz.ntmps91;go_wp2_with fail;go_ret;exact ⟨by simp,rfl⟩
 ·go_enter Tryz.func91,Tryz.ntmps91;go_wp2_with fail;go_ret;exact ⟨by simp,rfl⟩
theorem Qhv (N T E:Int) (xs:List Int) (v:Value) (w:World) (hv:Row w v xs) (hf:Fit v) (hl:xs.length≤9223372036854775807) (hx:∀x∈xs,-9223372036854775808≤x∧x≤9223372036854775807) :
  Calls Tryz.prog 42 #[.agg #[.int .i64 N,.int .i64 T,.int .i64 E,v]] w fun e w'=>e=.returned (.bool (prB N T E xs))/\Old w w':=by
 have hxv:=hv;obtain ⟨a0,c0,rfl⟩:=hv.slice;have HA:Hid (Old w (w.alloc (.cells #[.int .i64 N,.int .i64 T,.int .i64 E,.slice a0 xs.length c0] 32))):=(Old.refl w).alloc _;have BA:Hid (Bk (w.alloc (.cells #[.int .i64 N,.int .i64 T,.int .i64 E,.slice a0 xs.length c0] 32)) w.heap.size #[.int .i64 N,.int .i64 T,.int .i64 E,.slice a0 xs.length c0] 32):=Bk.new' w _ _ rfl;have K1:=fun W g=>Qiv N xs _ W (hv.old g) hf hl hx
 have K4:=fun W=>Ql1 T 2 65536 W
 have K5:=fun W=>Qtb E W
 have HV:=Qaa hv;clear hv hxv hf hx;unfold prB;generalize spB N xs=s1 at *;generalize inQ T 2 65536=s4 at *;generalize inQ E 1 16=s5 at *
 cases s1
 ·clear K4 K5;go_enter Tryz.func42,Tryz.ntmps42;go_wp2_with fail;refine (Qbu N T E a0 xs.length c0 _).mono ?_
  rintro e w1 ⟨rfl,g1⟩;have HG1:=Qaa (Old.trans HA.out g1);clear g1;go_wp2_with fail;refine (K1 _ HG1.out).mono ?_
  rintro e w2 ⟨rfl,g2⟩;have HG2:=Qaa (Old.trans HG1.out g2);clear g2;go_wp2_with fail;go_ret;exact ⟨rfl,HG2.out⟩
 by_cases h4:xs.length<=4
 case neg=>
  have d4:decide ((4:Int)<(xs.length:Int))=true:=decide_eq_true (by omega);have e4:=Qaa (decide_eq_false h4);clear K4 K5 h4;go_enter Tryz.func42,Tryz.ntmps42;go_wp2_with fail;refine (Qbu N T E a0 xs.length c0 _).mono ?_
  rintro e w1 ⟨rfl,g1⟩;have HG1:=Qaa (Old.trans HA.out g1);have B1:=Qaa (BA.out.old g1);clear g1;go_wp2_with fail;refine (K1 _ HG1.out).mono ?_
  rintro e w2 ⟨rfl,g2⟩;have HG2:=Qaa (Old.trans HG1.out g2);have B2:=Qaa (B1.out.old g2);clear g2;have z3:=B2.out.c (i:=3) rfl;go_wp2_with fail;go_ret;exact ⟨by rw [e4.out];rfl,HG2.out⟩
 have d4:decide ((4:Int)<(xs.length:Int))=false:=decide_eq_false (by omega);have e4:=Qaa (decide_eq_true h4)
 cases s4
 ·clear K5;go_enter Tryz.func42,Tryz.ntmps42;go_wp2_with fail;refine (Qbu N T E a0 xs.length c0 _).mono ?_
  rintro e w1 ⟨rfl,g1⟩;have HG1:=Qaa (Old.trans HA.out g1);have B1:=Qaa (BA.out.old g1);clear g1;go_wp2_with fail;refine (K1 _ HG1.out).mono ?_
  rintro e w2 ⟨rfl,g2⟩;have HG2:=Qaa (Old.trans HG1.out g2);have B2:=Qaa (B1.out.old g2);clear g2;have z1:=B2.out.c (i:=1) rfl;have z3:=B2.out.c (i:=3) rfl;go_wp2_with fail;refine (K4 _).mono ?_
  rintro e w3 ⟨rfl,hw⟩;obtain rfl:w2=w3:=hw.symm;clear hw;go_wp2_with fail;go_ret;exact ⟨by rw [e4.out];rfl,HG2.out⟩
 cases s5
 ·go_enter Tryz.func42,Tryz.ntmps42;go_wp2_with fail;refine (Qbu N T E a0 xs.length c0 _).mono ?_
  rintro e w1 ⟨rfl,g1⟩;have HG1:=Qaa (Old.trans HA.out g1);have B1:=Qaa (BA.out.old g1);clear g1;go_wp2_with fail;refine (K1 _ HG1.out).mono ?_
  rintro e w2 ⟨rfl,g2⟩;have HG2:=Qaa (Old.trans HG1.out g2);have B2:=Qaa (B1.out.old g2);clear g2;have z1:=B2.out.c (i:=1) rfl;have z2:=B2.out.c (i:=2) rfl;have z3:=B2.out.c (i:=3) rfl;go_wp2_with fail;refine (K4 _).mono ?_
  rintro e w3 ⟨rfl,hw⟩;obtain rfl:w2=w3:=hw.symm;clear hw;go_wp2_with fail;refine (K5 _).mono ?_
  rintro e w4 ⟨rfl,hw⟩;obtain rfl:w2=w4:=hw.symm;clear hw;go_wp2_with fail;go_ret;exact ⟨by rw [e4.out];rfl,HG2.out⟩
 have HE:Hid ((true&&(decide (xs.length<=4)&&(true&&(true&&Qp5 T xs 0))))=Qp5 T xs 0):=by show _ = _;rw [e4.out];rfl
 generalize hR:(true&&(decide (xs.length<=4)&&(true&&(true&&Qp5 T xs 0))))=R at *;clear hR e4;go_enter Tryz.func42,Tryz.ntmps42;go_wp2_with fail;refine (Qbu N T E a0 xs.length c0 _).mono ?_
 rintro e w1 ⟨rfl,g1⟩;have HG1:=Qaa (Old.trans HA.out g1);have B1:=Qaa (BA.out.old g1);clear g1;go_wp2_with fail;refine (K1 _ HG1.out).mono ?_
 rintro e w2 ⟨rfl,g2⟩;have HG2:=Qaa (Old.trans HG1.out g2);have B2:=Qaa (B1.out.old g2);clear g2;have z1:=B2.out.c (i:=1) rfl;have z2:=B2.out.c (i:=2) rfl;have z3:=B2.out.c (i:=3) rfl;go_wp2_with fail;refine (K4 _).mono ?_
 rintro e w3 ⟨rfl,hw⟩;obtain rfl:w2=w3:=hw.symm;clear hw;go_wp2_with fail;refine (K5 _).mono ?_
 rintro e w4 ⟨rfl,hw⟩;obtain rfl:w2=w4:=hw.symm;clear hw;go_wp2_with fail
 go_loopw [30,4] (fun i x W=>∃k:Nat,k<=xs.length/\i=.int .i64 k/\Hid (R=Qp5 T xs k)/\W=w2) (fun i _ _=>xs.length - (intOf i).toNat)
 case atStart=>exact ⟨0,by omega,rfl,HE.out,rfl⟩
 case round=>
  obtain ⟨k,hk,rfl,H1,hW⟩:=hrel;obtain rfl:w2=wr:=hW.symm;clear hW
  by_cases hlt:k<xs.length
  ·have d1:decide ((k:Int)<(xs.length:Int))=true:=decide_eq_true (by omega);have c1:=(HV.out.old HG2.out);rcases c1 with ⟨a,cap,e,e2⟩ | ⟨b,o,cap,e,hb2,h3,hc⟩
   ·subst e2;simp at hlt
   simp only [Value.slice.injEq,true_and] at e;obtain ⟨rfl,rfl⟩:=e;have c2:=hc k hlt
   by_cases ht:T<xs.getD k 0
   ·have d2:decide (xs.getD k 0<=T)=false:=decide_eq_false (by omega);have H2:=Qaa (H1.out.trans (Qwi ht));clear hc H1 ht;generalize xs.getD k 0=y at *;go_wp2_with fail;exact ⟨⟨k+1,by omega,by go_num,H2,by first | rfl | trivial⟩,by simp [intOf];omega⟩
   ·have d2:decide (xs.getD k 0<=T)=true:=decide_eq_true (by omega);have H2:=Qaa (H1.out.trans (Qz9 hlt ht));clear hc H1 ht;generalize xs.getD k 0=y at *;go_wp2_with fail;go_ret;exact ⟨Qa9 H2.out.symm,HG2.out⟩
  ·have H2:=Qaa (H1.out.trans (Qwh (by omega)));go_wp2_with fail;go_ret;exact ⟨Qa9 H2.out.symm,HG2.out⟩
theorem Q2m {a b:Int} (h:a=b):Ending.returned (.int .i64 a)=.returned (.int .i64 b):=by rw [h]
def mnK (xs:List Int):Nat->Int
 | 0=>xs.getD 0 0
 | k+1=>min (mnK xs k) (xs.getD (k+1) 0)
theorem Qyf (xs:List Int) (T:Int):∀k,T<mnK xs k↔∀i,i<k+1->T<xs.getD i 0
 | 0=>by
   constructor
   ·intro h i hi;obtain rfl:i=0:=by omega
    exact h
   ·intro h;exact h 0 (by omega)
 | k+1=>by
   have ih:=Qyf xs T k
   have hm:T<mnK xs (k+1)↔T<mnK xs k/\T<xs.getD (k+1) 0:=by
    show T<min _ _↔_
    omega
   rw [hm,ih];constructor
   ·rintro ⟨h1,h2⟩ i hi;rcases Nat.lt_or_ge i (k+1) with h3 | h3
    ·exact h1 i h3
    ·obtain rfl:i=k+1:=by omega
     exact h2
   ·intro h;exact ⟨fun i hi=>h i (by omega),h (k+1) (by omega)⟩
theorem Q0b (xs:List Int) (T:Int) (h:0<xs.length):decide (T<mnK xs (xs.length - 1))=Qp5 T xs 0:=by
 unfold Qp5
 congr 1
 apply propext;rw [Qyf];constructor
 ·intro h1 i h2 _;exact h1 i (by omega)
 ·intro h1 i h2;exact h1 i (by omega) (by omega)
theorem Q0c (xs:List Int) (v:Value) (w:World) (hv:Row w v xs) (h0:0<xs.length) (hl:xs.length≤9223372036854775807) :
  Calls Tryz.prog 94 #[v] w fun e w'=>e=.returned (.int .i64 (mnK xs (xs.length - 1)))/\w'=w:=by
 rcases hv with ⟨a,cap,e,e2⟩ | ⟨b,o,cap,rfl,hb2,h3,hc⟩
 ·subst e2;simp at h0
 have c0:w.cell? ⟨b,o,none⟩=some (.int .i64 (xs.getD 0 0)):=hc 0 h0
 have d0:decide ((xs.length:Int)<1)=false:=decide_eq_false (by omega);have e0:Hid (xs.getD 0 0=mnK xs 0):=rfl;generalize hy:xs.getD 0 0=y at *;clear hy;have HC:=Qaa hc;clear hc;go_enter Tryz.func94,Tryz.ntmps94;go_wp2_with fail
 go_loopw [4,3] (fun i m W=>∃(k:Nat) (z:Int),k+1<=xs.length/\i=.int .i64 ((k:Int)+1)/\m=.int .i64 z/\Hid (z=mnK xs k)/\W=w) (fun i _ _=>xs.length - (intOf i).toNat)
 case atStart=>exact ⟨0,y,by omega,rfl,rfl,e0,rfl⟩
 case round=>
  obtain ⟨k,z,hk,rfl,rfl,H1,hW⟩:=hrel;obtain rfl:w=wr:=hW.symm;clear hW c0
  by_cases hlt:k+1<xs.length
  ·have d1:decide ((k:Int)+1<(xs.length:Int))=true:=decide_eq_true (by omega);have c2:=HC.out (k+1) hlt;have H2:Hid (min z (xs.getD (k+1) 0)=mnK xs (k+1)):=by show _ = _;rw [H1.out];rfl
   generalize xs.getD (k+1) 0=x at *;go_wp2_with fail;exact ⟨⟨k+1,_,by omega,by go_num,rfl,H2,trivial⟩,by simp [intOf];omega⟩
  ·have d1:decide ((k:Int)+1<(xs.length:Int))=false:=decide_eq_false (by omega);have H2:Hid (z=mnK xs (xs.length - 1)):=by rw [show xs.length - 1=k by omega];exact H1
   go_wp2_with fail;go_ret;exact ⟨Q2m H2.out,rfl⟩
theorem Qre (N T E:Int) (ap:Option Addr) (lp cp:Nat) (m:Int) (ss:List Int) (v:Value) (w:World) (hv:Row w v ss) (hl:ss.length≤9223372036854775807) (hm:0≤m) (hm':m≤9223372036854775807) :
  Calls Tryz.prog 43 #[.agg #[.int .i64 N,.int .i64 T,.int .i64 E,.slice ap lp cp],v,.int .i64 m] w fun e w'=>e=.returned (.bool (wiB N m ss))/\Old w w':=by
 have hneg:IntKind.i64.wrap (-m) = -m:=by rw [IntKind.wrap_i64];omega
 have HA:Hid (Old w (w.alloc (.cells #[.int .i64 N,.int .i64 T,.int .i64 E,.slice ap lp cp] 32))):=(Old.refl w).alloc _;obtain ⟨a0,c0,ev⟩:=hv.slice;subst ev;have HV:=Qaa (hv.old HA.out);clear hv
 by_cases hn:(ss.length:Int)=N
 case neg=>
  have d0:((ss.length:Int) != N)=true:=by simpa using hn
  have HE:Hid (wiB N m ss=false):=by show _ = _;unfold wiB;rw [decide_eq_false hn];rfl
  clear hn;go_enter Tryz.func43,Tryz.ntmps43;go_wp2_with fail;go_ret;exact ⟨Qa9 HE.out.symm,HA.out⟩
 have d0:((ss.length:Int) != N)=false:=by simpa using hn
 have HE:Hid (wiB N m ss=Qwj m ss 0):=by show _ = _;unfold wiB;rw [decide_eq_true hn];rfl
 generalize wiB N m ss=R at *;clear hn;go_enter Tryz.func43,Tryz.ntmps43;go_wp2_with fail
 go_loopw [16,8] (fun i x W=>∃k:Nat,k<=ss.length/\i=.int .i64 k/\Hid (R=Qwj m ss k)/\W=(w.alloc (.cells #[.int .i64 N,.int .i64 T,.int .i64 E,.slice ap lp cp] 32))) (fun i _ _=>ss.length - (intOf i).toNat)
 case atStart=>exact ⟨0,by omega,rfl,HE.out,rfl⟩
 case round=>
  obtain ⟨k,hk,rfl,H1,hW⟩:=hrel;subst hW
  by_cases hlt:k<ss.length
  ·have d1:decide ((k:Int)<(ss.length:Int))=true:=decide_eq_true (by omega);rcases HV.out with ⟨a,cap,e,e2⟩ | ⟨b,o,cap,e,hb2,h3,hc⟩
   ·subst e2;simp at hlt
   simp only [Value.slice.injEq,true_and] at e;obtain ⟨rfl,rfl⟩:=e;have c2:=hc k hlt
   by_cases ht : -m<=ss.getD k 0/\ss.getD k 0<=m
   ·have H2:=Qaa (H1.out.trans (Qwl ht));clear hc H1;generalize ss.getD k 0=y at *;have hin:Hid (inQ y (-m) m=true):=by show _ = _;unfold inQ;rw [decide_eq_true ht.1,decide_eq_true ht.2];rfl
    have KI:∀W,Calls Tryz.prog 44 #[.int .i64 y,.int .i64 (-m),.int .i64 m] W fun e w'=>e=.returned (.bool true)/\w'=W:=fun W=>by rw [<- hin.out];exact Ql1 y (-m) m W
    clear ht;go_wp2_with fail;refine (KI _).mono ?_
    rintro e w1 ⟨rfl,hw⟩;obtain rfl:=hw.symm;clear hw;go_wp2_with fail;exact ⟨⟨k+1,by omega,by go_num,H2,by first | rfl | trivial⟩,by simp [intOf];omega⟩
   ·have H2:=Qaa (H1.out.trans (Q0a hlt ht));clear hc H1;generalize ss.getD k 0=y at *
    have hin:Hid (inQ y (-m) m=false):=by
     show _ = _
     cases hh:inQ y (-m) m
     ·rfl
     ·exfalso;unfold inQ at hh;simp at hh;exact ht hh
    have KI:∀W,Calls Tryz.prog 44 #[.int .i64 y,.int .i64 (-m),.int .i64 m] W fun e w'=>e=.returned (.bool false)/\w'=W:=fun W=>by rw [<- hin.out];exact Ql1 y (-m) m W
    clear ht;go_wp2_with fail;refine (KI _).mono ?_
    rintro e w1 ⟨rfl,hw⟩;obtain rfl:=hw.symm;clear hw;go_wp2_with fail;go_ret;exact ⟨Qa9 H2.out.symm,HA.out⟩
  ·have H2:=Qaa (H1.out.trans (Qwk (by omega)));go_wp2_with fail;go_ret;exact ⟨Qa9 H2.out.symm,HA.out⟩
theorem Qhw (N T E:Int) (xs ss:List Int) (v u:Value) (w:World) (hv:Row w v xs) (hf:Fit v) (hu:Row w u ss) (hl:xs.length≤9223372036854775807) (hs:ss.length≤9223372036854775807) (hx:∀x∈xs,-9223372036854775808≤x∧x≤9223372036854775807) :
  Calls Tryz.prog 20 #[.agg #[.int .i64 N,.int .i64 T,.int .i64 E,v],u] w fun e w'=>e=.returned (.bool (prB N T E xs&&wiB N 1 ss))/\Old w w':=by
 have hxv:=hv;obtain ⟨a0,c0,rfl⟩:=hv.slice;obtain ⟨a1,c1,eu⟩:=hu.slice;subst eu;have HA:Hid (Old w (w.alloc (.cells #[.int .i64 N,.int .i64 T,.int .i64 E,.slice a0 xs.length c0] 32))):=(Old.refl w).alloc _;have BA:Hid (Bk (w.alloc (.cells #[.int .i64 N,.int .i64 T,.int .i64 E,.slice a0 xs.length c0] 32)) w.heap.size #[.int .i64 N,.int .i64 T,.int .i64 E,.slice a0 xs.length c0] 32):=Bk.new' w _ _ rfl;have K1:=fun W g=>Qhv N T E xs _ W (hv.old g) hf hl hx
 have K2:=fun W g=>Qre N T E a0 xs.length c0 1 ss _ W (hu.old g) hs (by omega) (by omega)
 clear hv hxv hf hu;generalize prB N T E xs=s1 at *;generalize wiB N 1 ss=s2 at *
 cases s1
 ·clear K2;go_enter Tryz.func20,Tryz.ntmps20;go_wp2_with fail;refine (K1 _ HA.out).mono ?_
  rintro e w1 ⟨rfl,g1⟩;have HG1:=Qaa (Old.trans HA.out g1);clear g1;go_wp2_with fail;go_ret;exact ⟨rfl,HG1.out⟩
 ·go_enter Tryz.func20,Tryz.ntmps20;go_wp2_with fail;refine (K1 _ HA.out).mono ?_
  rintro e w1 ⟨rfl,g1⟩;have HG1:=Qaa (Old.trans HA.out g1);have B1:=Qaa (BA.out.old g1);clear g1;have z0:=B1.out.c (i:=0) rfl;have z1:=B1.out.c (i:=1) rfl;have z2:=B1.out.c (i:=2) rfl;have z3:=B1.out.c (i:=3) rfl;go_wp2_with fail;refine (K2 _ HG1.out).mono ?_
  rintro e w2 ⟨rfl,g2⟩;have HG2:=Qaa (Old.trans HG1.out g2);clear g2 z0 z1 z2 z3;go_wp2_with fail;go_ret;exact ⟨by simp,HG2.out⟩
theorem Qfo (N T E:Int) (xs:List Int) (Rf:Nat→Int) (v:Value) (w:World) (hP:Qe0 w) (hT:Qbb w) (hv:Row w v xs) (hf:Fit v) (hl:xs.length≤9223372036854775807)
  (hRf:∀k,RingOk (xs.getD k 0) N->(0<=Rf k/\Rf k<xs.getD k 0)/\(∀W,Qe0 W->Qbb W->Calls Tryz.prog 116 #[.int .i64 (xs.getD k 0),.int .i64 N] W fun e w'=>e=.returned (.tuple #[.agg #[.int .i64 (xs.getD k 0),.int .i64 N,.int .i64 (Rf k)],.bool true])/\Old W w')) :
  Calls Tryz.prog 59 #[.agg #[.int .i64 N,.int .i64 T,.int .i64 E,v]] w fun e w'=>Old w w'/\((prB N T E xs=false/\e=.returned (.tuple #[.slice none 0 0,.bool false]))∨(prB N T E xs=true/\∃g,w.heap.size<=g/\e=.returned (.tuple #[.slice (some ⟨g,0,none⟩) xs.length xs.length,.bool true])/\Rgs w' g N xs Rf xs.length)):=by
 obtain ⟨a0,c0,rfl⟩:=hv.slice;have HA:Hid (Old w (w.alloc (.cells #[.int .i64 N,.int .i64 T,.int .i64 E,.slice a0 xs.length c0] 32))):=(Old.refl w).alloc _;have BA:Hid (Bk (w.alloc (.cells #[.int .i64 N,.int .i64 T,.int .i64 E,.slice a0 xs.length c0] 32)) w.heap.size #[.int .i64 N,.int .i64 T,.int .i64 E,.slice a0 xs.length c0] 32):=Bk.new' w _ _ rfl;have K1:=fun W g=>Qrd N xs Rf _ W (hP.old g) (hT.old g) (hv.old g) hf hl hRf
 have K5:=fun W=>Qoa E W
 have HM:Hid (spB N xs=true->(∀W,Old w W->Calls Tryz.prog 94 #[.slice a0 xs.length c0] W fun e w'=>e=.returned (.int .i64 (mnK xs (xs.length - 1)))/\w'=W)/\decide (T<mnK xs (xs.length - 1))=Qp5 T xs 0):=fun hs=>by
  have h1:=(Qdc (Qdm hs).2.1).1;exact ⟨fun W g=>Q0c xs _ W (hv.old g) (by omega) hl,Q0b xs T (by omega)⟩
 clear hv hf hP hT hRf
 by_cases h4:xs.length<=4
 case neg=>
  have d4:decide ((4:Int)<(xs.length:Int))=true:=decide_eq_true (by omega);have e4:Hid (prB N T E xs=false):=by show _ = _;unfold prB;rw [decide_eq_false h4];simp
  clear K1 K5 h4;go_enter Tryz.func59,Tryz.ntmps59;go_wp2_with fail;exact bodyPost_ret (v:=.tuple #[.slice none 0 0,.bool false]) (by simp [results,Tryz.results59,go_sem]) rfl ⟨HA.out,Or.inl ⟨e4.out,rfl⟩⟩
 have d4:decide ((4:Int)<(xs.length:Int))=false:=decide_eq_false (by omega)
 cases h5:inQ E 1 16
 ·rw [h5] at K5;have e4:Hid (prB N T E xs=false):=by show _ = _;unfold prB;rw [h5];simp
  clear K1 h4 h5;go_enter Tryz.func59,Tryz.ntmps59;go_wp2_with fail;refine (K5 _).mono ?_
  rintro e w4 ⟨rfl,hw⟩;obtain rfl:=hw.symm;clear hw;go_wp2_with fail;exact bodyPost_ret (v:=.tuple #[.slice none 0 0,.bool false]) (by simp [results,Tryz.results59,go_sem]) rfl ⟨HA.out,Or.inl ⟨e4.out,rfl⟩⟩
 rw [h5] at K5
 by_cases h2:T<2
 ·have d2:=decide_eq_true h2;have e4:Hid (prB N T E xs=false):=by show _ = _;unfold prB inQ;rw [decide_eq_false (show ¬2≤T by omega)];simp
  clear K1 h4 h5 h2;go_enter Tryz.func59,Tryz.ntmps59;go_wp2_with fail;refine (K5 _).mono ?_
  rintro e w4 ⟨rfl,hw⟩;obtain rfl:=hw.symm;clear hw;go_wp2_with fail;exact bodyPost_ret (v:=.tuple #[.slice none 0 0,.bool false]) (by simp [results,Tryz.results59,go_sem]) rfl ⟨HA.out,Or.inl ⟨e4.out,rfl⟩⟩
 have d2:=decide_eq_false h2
 by_cases h3:65536<T
 ·have d3:=decide_eq_true h3;have e4:Hid (prB N T E xs=false):=by show _ = _;unfold prB inQ;rw [decide_eq_false (show ¬T≤65536 by omega)];simp
  clear K1 h4 h5 h2 h3;go_enter Tryz.func59,Tryz.ntmps59;go_wp2_with fail;refine (K5 _).mono ?_
  rintro e w4 ⟨rfl,hw⟩;obtain rfl:=hw.symm;clear hw;go_wp2_with fail;exact bodyPost_ret (v:=.tuple #[.slice none 0 0,.bool false]) (by simp [results,Tryz.results59,go_sem]) rfl ⟨HA.out,Or.inl ⟨e4.out,rfl⟩⟩
 have d3:=decide_eq_false h3;have hT:Hid (inQ T 2 65536=true):=by show _ = _;unfold inQ;rw [decide_eq_true (show 2<=T by omega),decide_eq_true (show T<=65536 by omega)];rfl
 have hpr:Hid (spB N xs=true->prB N T E xs=Qp5 T xs 0):=fun h=>by unfold prB;rw [h,decide_eq_true h4,hT.out,h5];simp
 have hpn:Hid (spB N xs=false->prB N T E xs=false):=fun h=>by unfold prB;rw [h];rfl
 clear h4 h5 h2 h3 hT;go_enter Tryz.func59,Tryz.ntmps59;go_wp2_with fail;refine (K5 _).mono ?_
 rintro e w4 ⟨rfl,hw⟩;obtain rfl:=hw.symm;clear hw;go_wp2_with fail;refine (Qn9 N T E a0 xs.length c0 _).mono ?_
 rintro e w1 ⟨rfl,g1⟩;have HG1:=Qaa (Old.trans HA.out g1);have B1:=Qaa (BA.out.old g1);clear g1;go_wp2_with fail;refine (K1 _ HG1.out).mono ?_
 rintro e w2 ⟨g2,h⟩;have HG2:=Qaa (Old.trans HG1.out g2);have B2:=Qaa (B1.out.old g2);have hs1:=HG1.out.size;clear g2 K1 K5;rcases h with ⟨hB,rfl⟩ | ⟨hB,g,hg,rfl,hrg⟩
 ·have e4:=Qaa (hpn.out hB);clear hB hpr hpn;go_wp2_with fail
  go_quiet (fail)
  go_wp2_with fail;exact bodyPost_ret (v:=.tuple #[.slice none 0 0,.bool false]) (by simp [results,Tryz.results59,go_sem]) rfl ⟨(HG2.out.drewN _),Or.inl ⟨e4.out,rfl⟩⟩
 ·obtain ⟨KM,EM⟩:=HM.out hB;have e4:=Qaa ((hpr.out hB).trans EM.symm);have HRG:=Qaa hrg;have hg2:w.heap.size≤g:=by omega
  have z1:=B2.out.c (i:=1) rfl;have z3:=B2.out.c (i:=3) rfl;clear hB hpr hpn HM EM hrg hg;generalize mnK xs (xs.length - 1)=mm at *
  by_cases hm:mm<=T
  ·have dm:=decide_eq_true hm;have e5:Hid (prB N T E xs=false):=by show _ = _;rw [e4.out];exact decide_eq_false (by omega)
   clear hm e4;go_wp2_with fail
   go_quiet (first | (go_at_call 94;refine Calls.quiet_of_same (KM _ (HG2.out.drewN _))) | fail)
   go_wp2_with fail;exact bodyPost_ret (v:=.tuple #[.slice none 0 0,.bool false]) (by simp [results,Tryz.results59,go_sem]) rfl ⟨(HG2.out.drewN _),Or.inl ⟨e5.out,rfl⟩⟩
  ·have dm:=decide_eq_false hm;have e5:Hid (prB N T E xs=true):=by show _ = _;rw [e4.out];exact decide_eq_true (by omega)
   clear hm e4;go_wp2_with fail
   go_quiet (first | (go_at_call 94;refine Calls.quiet_of_same (KM _ (HG2.out.drewN _))) | fail)
   go_wp2_with fail;exact bodyPost_ret (v:=.tuple #[.slice (some ⟨g,0,none⟩) xs.length xs.length,.bool true]) (by simp [results,Tryz.results59,go_sem]) rfl ⟨HG2.out.drewN _,.inr ⟨e5.out,g,hg2,rfl,HRG.out.old ((Old.refl w2).drewN _)⟩⟩
def wlB (lo hi:Int) (ss:List Int) (k:Nat):Bool:=decide (∀i,i<ss.length->k<=i->lo<=ss.getD i 0/\ss.getD i 0<=hi)
theorem Q0d {lo hi:Int} {ss:List Int} {k:Nat} (h:ss.length<=k):wlB lo hi ss k=true:=decide_eq_true (fun i h1 h2=>by omega)
theorem Q2n {lo hi:Int} {ss:List Int} {k:Nat} (h:k<ss.length) (hk:¬(lo<=ss.getD k 0/\ss.getD k 0<=hi)):wlB lo hi ss k=false:=
 decide_eq_false (fun hh=>hk (hh k h (Nat.le_refl _)))
theorem Q0e {lo hi:Int} {ss:List Int} {k:Nat} (hk:lo<=ss.getD k 0/\ss.getD k 0<=hi):wlB lo hi ss k=wlB lo hi ss (k+1):=by
 unfold wlB
 congr 1
 apply propext;constructor
 ·intro h i h1 h2;exact h i h1 (by omega)
 ·intro h i h1 h2;rcases Nat.lt_or_ge k i with h3 | h3
  ·exact h i h1 (by omega)
  ·obtain rfl:i=k:=by omega
   exact hk
def wmB (n lo hi:Int) (ss:List Int):Bool:=decide ((ss.length:Int)=n)&&wlB lo hi ss 0
theorem Q0f (n m:Int) (ss:List Int):wmB n (-m) m ss=wiB n m ss:=rfl
theorem Qrf (n lo hi:Int) (ss:List Int) (v:Value) (w:World) (hv:Row w v ss) (hl:ss.length≤9223372036854775807) :
  Calls Tryz.prog 64 #[v,.int .i64 n,.int .i64 lo,.int .i64 hi] w fun e w'=>e=.returned (.bool (wmB n lo hi ss))/\w'=w:=by
 obtain ⟨a0,c0,ev⟩:=hv.slice;subst ev;have HV:=Qaa hv;clear hv
 by_cases hn:(ss.length:Int)=n
 case neg=>
  have d0:((ss.length:Int) != n)=true:=by simpa using hn
  have HE:Hid (wmB n lo hi ss=false):=by show _ = _;unfold wmB;rw [decide_eq_false hn];rfl
  clear hn;go_enter Tryz.func64,Tryz.ntmps64;go_wp2_with fail;go_ret;exact ⟨Qa9 HE.out.symm,rfl⟩
 have d0:((ss.length:Int) != n)=false:=by simpa using hn
 have HE:Hid (wmB n lo hi ss=wlB lo hi ss 0):=by show _ = _;unfold wmB;rw [decide_eq_true hn];rfl
 generalize wmB n lo hi ss=R at *;clear hn;go_enter Tryz.func64,Tryz.ntmps64;go_wp2_with fail
 go_loopw [17,10] (fun i x W=>∃k:Nat,k<=ss.length/\i=.int .i64 k/\Hid (R=wlB lo hi ss k)/\W=w) (fun i _ _=>ss.length - (intOf i).toNat)
 case atStart=>exact ⟨0,by omega,rfl,HE.out,rfl⟩
 case round=>
  obtain ⟨k,hk,rfl,H1,hW⟩:=hrel;subst hW
  by_cases hlt:k<ss.length
  ·have d1:decide ((k:Int)<(ss.length:Int))=true:=decide_eq_true (by omega);rcases HV.out with ⟨a,cap,e,e2⟩ | ⟨b,o,cap,e,hb2,h3,hc⟩
   ·subst e2;simp at hlt
   simp only [Value.slice.injEq,true_and] at e;obtain ⟨rfl,rfl⟩:=e;have c2:=hc k hlt
   by_cases ht:lo<=ss.getD k 0/\ss.getD k 0<=hi
   ·have H2:=Qaa (H1.out.trans (Q0e ht));clear hc H1;generalize ss.getD k 0=y at *;have d2:decide (y<lo)=false:=decide_eq_false (by omega);have d3:decide (hi<y)=false:=decide_eq_false (by omega);clear ht;go_wp2_with fail;exact ⟨⟨k+1,by omega,by go_num,H2,by first | rfl | trivial⟩,by simp [intOf];omega⟩
   ·have H2:=Qaa (H1.out.trans (Q2n hlt ht));clear hc H1;generalize ss.getD k 0=y at *
    by_cases h5:y<lo
    ·clear ht;go_wp2_with fail;go_ret;exact ⟨Qa9 H2.out.symm,rfl⟩
    ·have d3:decide (hi<y)=true:=decide_eq_true (by omega);clear ht;go_wp2_with fail;go_ret;exact ⟨Qa9 H2.out.symm,rfl⟩
  ·have H2:=Qaa (H1.out.trans (Q0d (by omega)));go_wp2_with fail;go_ret;exact ⟨Qa9 H2.out.symm,rfl⟩
theorem Qma (N T E:Int) (ap:Option Addr) (lp cp:Nat) (ss:List Int) (v:Value) (w:World) (hv:Row w v ss) (hl:ss.length≤9223372036854775807) :
  Calls Tryz.prog 33 #[.agg #[.int .i64 N,.int .i64 T,.int .i64 E,.slice ap lp cp],v] w fun e w'=>e=.returned (.bool (wiB N 1 ss))/\Old w w':=by
 have K:=fun W (h:Row W v ss)=>Qrf N (-1) 1 ss v W h hl
 rw [Q0f N 1 ss] at K;have HV:=Qaa hv;obtain ⟨a0,c0,ev⟩:=hv.slice;subst ev;have HA:Hid (Old w (w.alloc (.cells #[.int .i64 N,.int .i64 T,.int .i64 E,.slice ap lp cp] 32))):=(Old.refl w).alloc _;clear hv;generalize wiB N 1 ss=r at *;go_enter Tryz.func33,Tryz.ntmps33;go_wp2_with fail;refine (K _ (HV.out.old HA.out)).mono ?_
 rintro e w1 ⟨rfl,hw⟩;subst hw;go_wp2_with fail;go_ret;exact ⟨rfl,HA.out⟩
end Go.Proofs.YthcidnnkakppcaaGreatDoor
