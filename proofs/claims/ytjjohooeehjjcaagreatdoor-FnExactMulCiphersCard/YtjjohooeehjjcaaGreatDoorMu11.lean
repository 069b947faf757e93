/- Proved: what its theorems say. -/
import Derived.Test.YtjjohooeehjjcaaGreatDoorMu02
import Derived.Test.YtjjohooeehjjcaaGreatDoorMu10
set_option linter.unusedVariables false
set_option linter.unusedSimpArgs false
set_option maxHeartbeats 4000000
set_option maxRecDepth 100000
namespace Go.Proofs.YtjjohooeehjjcaaGreatDoor
open Go.ChangeShapes Go.WideShapes Go.ChangeAt Go.RowKit
theorem Qmo (N T E:Int) (a:Option Addr) (len cap:Nat) (left:Int) (w:World) (hl:len≤9223372036854775807) (h0:0≤left) (h1:left≤1048576) (h:left<(len:Int)) :
  Calls Tryz.prog 4 #[.agg #[.int .i64 N,.int .i64 T,.int .i64 E,.slice a len cap],.int .i64 left] w fun e w'=>e=.returned (.int .i64 (-1))/\Old w w':=by
 have c:=fun W=>Qfv a len cap left W hl h0 h1
 rw [if_pos h] at c;go_enter Tryz.func4,Tryz.ntmps4;go_wp2_with fail;refine (c _).mono ?_
 rintro e w' ⟨rfl,rfl⟩;go_wp2_with fail;go_ret;exact ⟨rfl,(Old.refl _).alloc _⟩
theorem Qk7 (N T E:Int) (a:Option Addr) (len cap:Nat) (left:Int) (w:World) (hl:len≤9223372036854775807) (h0:0≤left) (h1:left≤1048576) (h:¬left<(len:Int)) :
  Calls Tryz.prog 4 #[.agg #[.int .i64 N,.int .i64 T,.int .i64 E,.slice a len cap],.int .i64 left] w fun e w'=>e=.returned (.int .i64 (left - len))/\Old w w':=by
 have c:=fun W=>Qfv a len cap left W hl h0 h1
 rw [if_neg h] at c;have d:decide (left - (len:Int)<0)=false:=by simp;omega
 go_enter Tryz.func4,Tryz.ntmps4;go_wp2_with fail;refine (c _).mono ?_
 rintro e w' ⟨rfl,rfl⟩;go_wp2_with fail;go_ret;exact ⟨rfl,(Old.refl _).alloc _⟩
theorem Qk8 (N T E:Int) (xs:List Int) (v:Value) (w:World) (h:Row w v xs) (hl:xs.length≤1048576) :
  Calls Tryz.prog 7 #[.agg #[.int .i64 N,.int .i64 T,.int .i64 E,v]] w fun e w'=>∃v',e=.returned (.agg #[.int .i64 N,.int .i64 T,.int .i64 E,v'])/\Old w w'/\Own w' w.heap.size v' xs/\Fit v':=by
 have HR:=Qaa h;obtain ⟨a0,cap0,rfl⟩:=h.slice;clear h;go_enter Tryz.func7,Tryz.ntmps7;go_wp2_with fail;refine (Qim xs _ _ (HR.out.old (((Old.refl w).alloc _).alloc _ |>.alloc _)) hl).mono ?_
 rintro e w1 ⟨rfl,g1,o1⟩;have q20:w1.cell? ⟨w.heap.size+1+1,0,none⟩=some (Value.int .i64 N):=(g1.cell (p:=⟨w.heap.size+1+1,0,none⟩) (by simp;try omega)).trans (by simp [Qaj,Qbc,Qbs,Qcg])
 have q21:w1.cell? ⟨w.heap.size+1+1,1,none⟩=some (Value.int .i64 T):=(g1.cell (p:=⟨w.heap.size+1+1,1,none⟩) (by simp;try omega)).trans (by simp [Qaj,Qbc,Qbs,Qcg])
 have q22:w1.cell? ⟨w.heap.size+1+1,2,none⟩=some (Value.int .i64 E):=(g1.cell (p:=⟨w.heap.size+1+1,2,none⟩) (by simp;try omega)).trans (by simp [Qaj,Qbc,Qbs,Qcg])
 have q23:w1.cell? ⟨w.heap.size+1+1,3,none⟩=some (Value.slice none 0 0):=(g1.cell (p:=⟨w.heap.size+1+1,3,none⟩) (by simp;try omega)).trans (by simp [Qaj,Qbc,Qbs,Qcg])
 have q10:w1.cell? ⟨w.heap.size+1,0,none⟩=some (Value.int .i64 0):=(g1.cell (p:=⟨w.heap.size+1,0,none⟩) (by simp;try omega)).trans (by simp [Qaj,Qbc,Qbs,Qcg])
 have q11:w1.cell? ⟨w.heap.size+1,1,none⟩=some (Value.int .i64 0):=(g1.cell (p:=⟨w.heap.size+1,1,none⟩) (by simp;try omega)).trans (by simp [Qaj,Qbc,Qbs,Qcg])
 have q12:w1.cell? ⟨w.heap.size+1,2,none⟩=some (Value.int .i64 0):=(g1.cell (p:=⟨w.heap.size+1,2,none⟩) (by simp;try omega)).trans (by simp [Qaj,Qbc,Qbs,Qcg])
 have q13:w1.cell? ⟨w.heap.size+1,3,none⟩=some (Value.slice none 0 0):=(g1.cell (p:=⟨w.heap.size+1,3,none⟩) (by simp;try omega)).trans (by simp [Qaj,Qbc,Qbs,Qcg])
 have f23:w1.frozen? ⟨w.heap.size+1+1,3,none⟩=false:=(g1.frozen (p:=⟨w.heap.size+1+1,3,none⟩) (by simp;try omega)).trans (by simp [Qaj,Qbc,Qbs,Qcg])
 have f10:w1.frozen? ⟨w.heap.size+1,0,none⟩=false:=(g1.frozen (p:=⟨w.heap.size+1,0,none⟩) (by simp;try omega)).trans (by simp [Qaj,Qbc,Qbs,Qcg])
 have f11:w1.frozen? ⟨w.heap.size+1,1,none⟩=false:=(g1.frozen (p:=⟨w.heap.size+1,1,none⟩) (by simp;try omega)).trans (by simp [Qaj,Qbc,Qbs,Qcg])
 have f12:w1.frozen? ⟨w.heap.size+1,2,none⟩=false:=(g1.frozen (p:=⟨w.heap.size+1,2,none⟩) (by simp;try omega)).trans (by simp [Qaj,Qbc,Qbs,Qcg])
 have f13:w1.frozen? ⟨w.heap.size+1,3,none⟩=false:=(g1.frozen (p:=⟨w.heap.size+1,3,none⟩) (by simp;try omega)).trans (by simp [Qaj,Qbc,Qbs,Qcg])
 have HG:=Qaa (Old.trans (((Old.refl w).alloc _).alloc _ |>.alloc _) g1)
 have HO:Hid (Own w1 w.heap.size (.slice (some ⟨w.heap.size+1+1+1,0,none⟩) xs.length xs.length) xs):=by
  have:=Own.low o1 (base':=w.heap.size) (by simp;omega);simp at this;exact this
 clear g1 o1 HR;go_wp2_with fail;refine bodyPost_ret (v:=.agg #[.int .i64 N,.int .i64 T,.int .i64 E,.slice (some ⟨w.heap.size+1+1+1,0,none⟩) xs.length xs.length]) (by simp [results,Tryz.results7,go_sem,q10,q11,q12,q13]) rfl ⟨_,rfl,?_,?_,Nat.le_refl _⟩
 ·exact ((((HG.out.own (p:=⟨w.heap.size+1+1,3,none⟩) (by simp;omega) _).own (p:=⟨w.heap.size+1,0,none⟩) (by simp) _).own (p:=⟨w.heap.size+1,1,none⟩) (by simp) _).own (p:=⟨w.heap.size+1,2,none⟩) (by simp) _).own (p:=⟨w.heap.size+1,3,none⟩) (by simp) _
 ·exact ownsRow_setCell_other (ownsRow_setCell_other (ownsRow_setCell_other (ownsRow_setCell_other (ownsRow_setCell_other HO.out (by simp [Value.ownBlock]) _) (by simp [Value.ownBlock];omega) _) (by simp [Value.ownBlock];omega) _) (by simp [Value.ownBlock];omega) _) (by simp [Value.ownBlock];omega) _
theorem Qk9 (N T E:Int) (xs:List Int) (v u:Value) (w:World) (h:Row w v xs) (k:Row w u xs) (hl:xs.length≤1073741824) :
  Calls Tryz.prog 11 #[.agg #[.int .i64 N,.int .i64 T,.int .i64 E,v],.agg #[.int .i64 N,.int .i64 T,.int .i64 E,u]] w fun e w'=>e=.returned (.bool true)/\Old w w':=by
 have HR:=Qaa h;have HK:=Qaa k;obtain ⟨a0,cap0,rfl⟩:=h.slice;obtain ⟨a1,cap1,rfl⟩:=k.slice;clear h k;go_enter Tryz.func11,Tryz.ntmps11;go_wp2_with fail;refine (Qin xs _ _ _ (HR.out.old (((Old.refl w).alloc _).alloc _)) (HK.out.old (((Old.refl w).alloc _).alloc _)) hl).mono ?_
 rintro e w1 ⟨rfl,g1⟩;have HG:=Qaa (Old.trans (((Old.refl w).alloc _).alloc _) g1);clear g1;go_wp2_with fail;go_ret;exact ⟨rfl,HG.out⟩
theorem Qic (N T E:Int) (xs:List Int) (v:Value) (k:Int) (base:Nat) (w:World) (h:Own w base v xs) (hl:xs.length≤1073741824) (hk:0≤k) (hk':k≤1073741824) :
  Calls Tryz.prog 12 #[.agg #[.int .i64 N,.int .i64 T,.int .i64 E,v],.int .i64 k] w fun e w'=>e=.returned (.int .i64 (k+xs.length))/\w.grownBy w' v.ownBlock/\Own w' base v (marks k xs.length):=by
 have HR:=Qaa h;obtain ⟨a0,cap0,rfl⟩:=(Own.row h).slice;clear h;go_enter Tryz.func12,Tryz.ntmps12;go_wp2_with fail;refine (Qga xs _ k base _ (HR.out.alloc _) hl hk hk').mono ?_
 rintro e w1 ⟨rfl,g1,o1⟩;have HG:Hid (w.grownBy w1 (Value.slice a0 xs.length cap0).ownBlock):=⟨g1.os,g1.tape,g1.output,Nat.le_trans (by simp) g1.size,fun p hp hne=>(g1.block p (by simp;omega) hne).trans (heap_alloc_old _ _ hp)⟩;have HO:=Qaa o1;clear g1 o1;go_wp2_with fail;go_ret;exact ⟨rfl,HG.out,HO.out⟩
def XP (n t d:Int) (xs:List Int) (W:World) (lo hi:Nat) (g:Array Value):Prop:=∃a c,g=#[.int .i64 n,.int .i64 t,.int .i64 d,.slice a xs.length c]/\OwI xs W lo hi (.slice a xs.length c)/\xs.length<=c
theorem Qyw (n t d:Int) (xs:List Int):Far (XP n t d xs):=fun W W' lo hi v h hf hs=>by
 obtain ⟨a,c,q,o,f⟩:=h;exact ⟨a,c,q,Qqm xs W W' lo hi _ o hf hs,f⟩
theorem Qt7 {n t d:Int} {xs:List Int} (W:World) (lo hi:Nat) (g:Array Value) (h:XP n t d xs W lo hi g):∃a c,g=#[.int .i64 n,.int .i64 t,.int .i64 d,.slice a xs.length c]:=by
 obtain ⟨a,c,q,o,f⟩:=h;exact ⟨a,c,q⟩
theorem Qz8 (n t d:Int) (a:Option Addr) (len cap:Nat) (left:Int) (W:World) (hl:len≤9223372036854775807) (h0:0≤left) (h1:left≤1048576) :
  Calls Tryz.prog 4 #[.agg #[.int .i64 n,.int .i64 t,.int .i64 d,.slice a len cap],.int .i64 left] W fun e w'=>e=.returned (.int .i64 (Qc5 left len))/\Old W w':=by
 unfold Qc5;split
 ·rename_i h
  exact Qmo n t d a len cap left W hl h0 h1 h
 ·rename_i h
  exact Qk7 n t d a len cap left W hl h0 h1 h
theorem Qz9 (n t d:Int) (xs:List Int) (v:Value) (W:World) (h:Row W v xs) (hl:xs.length≤1048576) :
  Calls Tryz.prog 7 #[.agg #[.int .i64 n,.int .i64 t,.int .i64 d,v]] W fun e w'=>∃g,e=.returned (.agg g)/\Old W w'/\XP n t d xs w' W.heap.size w'.heap.size g:=by
 refine (Qk8 n t d xs v W h hl).mono ?_
 rintro e w' ⟨v',rfl,g,o,f⟩;obtain ⟨a,c,rfl⟩:=(Own.row o).slice;exact ⟨_,rfl,g,a,c,rfl,OwI.of o,f⟩
theorem Q0a (n t d:Int) (xs:List Int) (W:World) (lo hi:Nat) (g:Array Value) (lo' hi':Nat) (g':Array Value) (h:XP n t d xs W lo hi g) (h':XP n t d xs W lo' hi' g') (hl:xs.length≤1073741824) :
  Calls Tryz.prog 11 #[.agg g,.agg g'] W fun e w'=>e=.returned (.bool true)/\Old W w':=by
 obtain ⟨a,c,rfl,o,f⟩:=h;obtain ⟨a',c',rfl,o',f'⟩:=h';exact Qk9 n t d xs _ _ W o.row o'.row hl
theorem Qwv (n t d:Int) (xs:List Int) (k:Int) (W:World) (lo hi:Nat) (g:Array Value) (h:XP n t d xs W lo hi g) (hl:xs.length≤1048576) (hk:0≤k) (hk':k≤1073741824) :
  Calls Tryz.prog 12 #[.agg g,.int .i64 k] W fun e w'=>e=.returned (.int .i64 (k+xs.length))/\Chg W w' lo hi:=by
 obtain ⟨a,c,rfl,o,f⟩:=h;refine (Qic n t d xs _ k lo W o.1 (by omega) hk hk').mono ?_
 rintro e w' ⟨rfl,gr,ow⟩;exact ⟨rfl,(o.mark gr ow).1⟩
def Qn9 (T:Int) (xs:List Int) (k:Nat):Bool:=decide (∀i,i<xs.length->k<=i->T<xs.getD i 0)
theorem Qt8 {T:Int} {xs:List Int} {k:Nat} (h:xs.length<=k):Qn9 T xs k=true:=decide_eq_true (fun i h1 h2=>by omega)
theorem Qww {T:Int} {xs:List Int} {k:Nat} (h:k<xs.length) (hk:¬T<xs.getD k 0):Qn9 T xs k=false:=
 decide_eq_false (fun hh=>hk (hh k h (Nat.le_refl _)))
theorem Qt9 {T:Int} {xs:List Int} {k:Nat} (hk:T<xs.getD k 0):Qn9 T xs k=Qn9 T xs (k+1):=by
 unfold Qn9
 congr 1
 apply propext;constructor
 ·intro h i h1 h2;exact h i h1 (by omega)
 ·intro h i h1 h2;rcases Nat.lt_or_ge k i with h3 | h3
  ·exact h i h1 (by omega)
  ·obtain rfl:i=k:=by omega
   exact hk
def prB (N T E:Int) (xs:List Int):Bool:=spB N xs&&(decide (xs.length<=4)&&(inQ T 2 65536&&(inQ E 1 16&&Qn9 T xs 0)))
theorem Qby (N T E:Int) (a:Option Addr) (l c:Nat) (w:World) :
  Calls Tryz.prog 19 #[.agg #[.int .i64 N,.int .i64 T,.int .i64 E,.slice a l c]] w fun e w'=>e=.returned (.agg #[.int .i64 N,.slice a l c])/\Old w w':=by
 go_enter Tryz.func19,Tryz.ntmps19;go_wp2_with fail;refine bodyPost_ret (v:=.agg #[.int .i64 N,.slice a l c]) (by simp [results,Tryz.results19,go_sem]) rfl ⟨rfl,?_⟩;exact ((Old.refl w).alloc _).alloc _
theorem Qmp (N T E:Int) (a:Option Addr) (l c:Nat) (w:World) :
  Calls Tryz.prog 78 #[.agg #[.int .i64 N,.int .i64 T,.int .i64 E,.slice a l c]] w fun e w'=>e=.returned (.agg #[.int .i64 N,.slice a l c])/\Old w w':=by
 go_enter Tryz.func78,Tryz.ntmps78;go_wp2_with fail;refine bodyPost_ret (v:=.agg #[.int .i64 N,.slice a l c]) (by simp [results,Tryz.results78,go_sem]) rfl ⟨rfl,?_⟩;exact ((Old.refl w).alloc _).alloc _
theorem Qrb (b:Int) (w:World):Calls Tryz.prog 66 #[.int .i64 b] w fun e w'=>e=.returned (.bool (inQ b 1 16))/\w'=w:=by
 have K1:=fun W=>Qqz b 1 16 W
 generalize inQ b 1 16=r at *;go_enter Tryz.func66,Tryz.ntmps66;go_wp2_with fail;refine (K1 _).mono ?_
 rintro e w' ⟨rfl,rfl⟩;go_wp2_with fail;go_ret;exact ⟨rfl,rfl⟩
theorem Qmq (b:Int) (w:World):Calls Tryz.prog 76 #[.int .i64 b] w fun e w'=>e=.returned (.bool (inQ b 1 16))/\w'=w:=by
 unfold inQ
 cases h:decide (1<=b)
 ·go_enter Tryz.func76,Tryz.ntmps76;go_wp2_with fail;go_ret;exact ⟨by simp,rfl⟩
 ·go_enter Tryz.func76,Tryz.ntmps76;go_wp2_with fail;go_ret;exact ⟨by simp,rfl⟩
theorem Qhc (N T E:Int) (xs:List Int) (v:Value) (w:World) (hv:Row w v xs) (hf:Fit v) (hl:xs.length≤9223372036854775807) (hx:∀x∈xs,-9223372036854775808≤x∧x≤9223372036854775807) :
  Calls Tryz.prog 37 #[.agg #[.int .i64 N,.int .i64 T,.int .i64 E,v]] w fun e w'=>e=.returned (.bool (prB N T E xs))/\Old w w':=by
 have hxv:=hv;obtain ⟨a0,c0,rfl⟩:=hv.slice;have HA:Hid (Old w (w.alloc (.cells #[.int .i64 N,.int .i64 T,.int .i64 E,.slice a0 xs.length c0] 33))):=(Old.refl w).alloc _;have BA:Hid (Bk (w.alloc (.cells #[.int .i64 N,.int .i64 T,.int .i64 E,.slice a0 xs.length c0] 33)) w.heap.size #[.int .i64 N,.int .i64 T,.int .i64 E,.slice a0 xs.length c0] 33):=Bk.new' w _ _ rfl;have K1:=fun W g=>Qib N xs _ W (hv.old g) hf hl hx
 have K4:=fun W=>Qqz T 2 65536 W
 have K5:=fun W=>Qrb E W
 have HV:=Qaa hv;clear hv hxv hf hx;unfold prB;generalize spB N xs=s1 at *;generalize inQ T 2 65536=s4 at *;generalize inQ E 1 16=s5 at *
 cases s1
 ·clear K4 K5;go_enter Tryz.func37,Tryz.ntmps37;go_wp2_with fail;refine (Qby N T E a0 xs.length c0 _).mono ?_
  rintro e w1 ⟨rfl,g1⟩;have HG1:=Qaa (Old.trans HA.out g1);clear g1;go_wp2_with fail;refine (K1 _ HG1.out).mono ?_
  rintro e w2 ⟨rfl,g2⟩;have HG2:=Qaa (Old.trans HG1.out g2);clear g2;go_wp2_with fail;go_ret;exact ⟨rfl,HG2.out⟩
 by_cases h4:xs.length<=4
 case neg=>
  have d4:decide ((4:Int)<(xs.length:Int))=true:=decide_eq_true (by omega);have e4:=Qaa (decide_eq_false h4);clear K4 K5 h4;go_enter Tryz.func37,Tryz.ntmps37;go_wp2_with fail;refine (Qby N T E a0 xs.length c0 _).mono ?_
  rintro e w1 ⟨rfl,g1⟩;have HG1:=Qaa (Old.trans HA.out g1);have B1:=Qaa (BA.out.old g1);clear g1;go_wp2_with fail;refine (K1 _ HG1.out).mono ?_
  rintro e w2 ⟨rfl,g2⟩;have HG2:=Qaa (Old.trans HG1.out g2);have B2:=Qaa (B1.out.old g2);clear g2;have z3:=B2.out.c (i:=3) rfl;go_wp2_with fail;go_ret;exact ⟨by rw [e4.out];rfl,HG2.out⟩
 have d4:decide ((4:Int)<(xs.length:Int))=false:=decide_eq_false (by omega);have e4:=Qaa (decide_eq_true h4)
 cases s4
 ·clear K5;go_enter Tryz.func37,Tryz.ntmps37;go_wp2_with fail;refine (Qby N T E a0 xs.length c0 _).mono ?_
  rintro e w1 ⟨rfl,g1⟩;have HG1:=Qaa (Old.trans HA.out g1);have B1:=Qaa (BA.out.old g1);clear g1;go_wp2_with fail;refine (K1 _ HG1.out).mono ?_
  rintro e w2 ⟨rfl,g2⟩;have HG2:=Qaa (Old.trans HG1.out g2);have B2:=Qaa (B1.out.old g2);clear g2;have z1:=B2.out.c (i:=1) rfl;have z3:=B2.out.c (i:=3) rfl;go_wp2_with fail;refine (K4 _).mono ?_
  rintro e w3 ⟨rfl,hw⟩;obtain rfl:w2=w3:=hw.symm;clear hw;go_wp2_with fail;go_ret;exact ⟨by rw [e4.out];rfl,HG2.out⟩
 cases s5
 ·go_enter Tryz.func37,Tryz.ntmps37;go_wp2_with fail;refine (Qby N T E a0 xs.length c0 _).mono ?_
  rintro e w1 ⟨rfl,g1⟩;have HG1:=Qaa (Old.trans HA.out g1);have B1:=Qaa (BA.out.old g1);clear g1;go_wp2_with fail;refine (K1 _ HG1.out).mono ?_
  rintro e w2 ⟨rfl,g2⟩;have HG2:=Qaa (Old.trans HG1.out g2);have B2:=Qaa (B1.out.old g2);clear g2;have z1:=B2.out.c (i:=1) rfl;have z2:=B2.out.c (i:=2) rfl;have z3:=B2.out.c (i:=3) rfl;go_wp2_with fail;refine (K4 _).mono ?_
  rintro e w3 ⟨rfl,hw⟩;obtain rfl:w2=w3:=hw.symm;clear hw;go_wp2_with fail;refine (K5 _).mono ?_
  rintro e w4 ⟨rfl,hw⟩;obtain rfl:w2=w4:=hw.symm;clear hw;go_wp2_with fail;go_ret;exact ⟨by rw [e4.out];rfl,HG2.out⟩
 have HE:Hid ((true&&(decide (xs.length<=4)&&(true&&(true&&Qn9 T xs 0))))=Qn9 T xs 0):=by show _ = _;rw [e4.out];rfl
 generalize hR:(true&&(decide (xs.length<=4)&&(true&&(true&&Qn9 T xs 0))))=R at *;clear hR e4;go_enter Tryz.func37,Tryz.ntmps37;go_wp2_with fail;refine (Qby N T E a0 xs.length c0 _).mono ?_
 rintro e w1 ⟨rfl,g1⟩;have HG1:=Qaa (Old.trans HA.out g1);have B1:=Qaa (BA.out.old g1);clear g1;go_wp2_with fail;refine (K1 _ HG1.out).mono ?_
 rintro e w2 ⟨rfl,g2⟩;have HG2:=Qaa (Old.trans HG1.out g2);have B2:=Qaa (B1.out.old g2);clear g2;have z1:=B2.out.c (i:=1) rfl;have z2:=B2.out.c (i:=2) rfl;have z3:=B2.out.c (i:=3) rfl;go_wp2_with fail;refine (K4 _).mono ?_
 rintro e w3 ⟨rfl,hw⟩;obtain rfl:w2=w3:=hw.symm;clear hw;go_wp2_with fail;refine (K5 _).mono ?_
 rintro e w4 ⟨rfl,hw⟩;obtain rfl:w2=w4:=hw.symm;clear hw;go_wp2_with fail
 go_loopw [30,4] (fun i x W=>∃k:Nat,k<=xs.length/\i=.int .i64 k/\Hid (R=Qn9 T xs k)/\W=w2) (fun i _ _=>xs.length - (intOf i).toNat)
 case atStart=>exact ⟨0,by omega,rfl,HE.out,rfl⟩
 case round=>
  obtain ⟨k,hk,rfl,H1,hW⟩:=hrel;obtain rfl:w2=wr:=hW.symm;clear hW
  by_cases hlt:k<xs.length
  ·have d1:decide ((k:Int)<(xs.length:Int))=true:=decide_eq_true (by omega);have c1:=(HV.out.old HG2.out);rcases c1 with ⟨a,cap,e,e2⟩ | ⟨b,o,cap,e,hb2,h3,hc⟩
   ·subst e2;simp at hlt
   simp only [Value.slice.injEq,true_and] at e;obtain ⟨rfl,rfl⟩:=e;have c2:=hc k hlt
   by_cases ht:T<xs.getD k 0
   ·have d2:decide (xs.getD k 0<=T)=false:=decide_eq_false (by omega);have H2:=Qaa (H1.out.trans (Qt9 ht));clear hc H1 ht;generalize xs.getD k 0=y at *;go_wp2_with fail;exact ⟨⟨k+1,by omega,by go_num,H2,by first | rfl | trivial⟩,by simp [intOf];omega⟩
   ·have d2:decide (xs.getD k 0<=T)=true:=decide_eq_true (by omega);have H2:=Qaa (H1.out.trans (Qww hlt ht));clear hc H1 ht;generalize xs.getD k 0=y at *;go_wp2_with fail;go_ret;exact ⟨Qb7 H2.out.symm,HG2.out⟩
  ·have H2:=Qaa (H1.out.trans (Qt8 (by omega)));go_wp2_with fail;go_ret;exact ⟨Qb7 H2.out.symm,HG2.out⟩
theorem Qyx {a b:Int} (h:a=b):Ending.returned (.int .i64 a)=.returned (.int .i64 b):=by rw [h]
def mnK (xs:List Int):Nat->Int
 | 0=>xs.getD 0 0
 | k+1=>min (mnK xs k) (xs.getD (k+1) 0)
theorem Qvl (xs:List Int) (T:Int):∀k,T<mnK xs k↔∀i,i<k+1->T<xs.getD i 0
 | 0=>by
   constructor
   ·intro h i hi;obtain rfl:i=0:=by omega
    exact h
   ·intro h;exact h 0 (by omega)
 | k+1=>by
   have ih:=Qvl xs T k
   have hm:T<mnK xs (k+1)↔T<mnK xs k/\T<xs.getD (k+1) 0:=by
    show T<min _ _↔_
    omega
   rw [hm,ih];constructor
   ·rintro ⟨h1,h2⟩ i hi;rcases Nat.lt_or_ge i (k+1) with h3 | h3
    ·exact h1 i h3
    ·obtain rfl:i=k+1:=by omega
     exact h2
   ·intro h;exact ⟨fun i hi=>h i (by omega),h (k+1) (by omega)⟩
theorem Qwx (xs:List Int) (T:Int) (h:0<xs.length):decide (T<mnK xs (xs.length - 1))=Qn9 T xs 0:=by
 unfold Qn9
 congr 1
 apply propext;rw [Qvl];constructor
 ·intro h1 i h2 _;exact h1 i (by omega)
 ·intro h1 i h2;exact h1 i (by omega) (by omega)
theorem Qwy (xs:List Int) (v:Value) (w:World) (hv:Row w v xs) (h0:0<xs.length) (hl:xs.length≤9223372036854775807) :
  Calls Tryz.prog 79 #[v] w fun e w'=>e=.returned (.int .i64 (mnK xs (xs.length - 1)))/\w'=w:=by
 rcases hv with ⟨a,cap,e,e2⟩ | ⟨b,o,cap,rfl,hb2,h3,hc⟩
 ·subst e2;simp at h0
 have c0:w.cell? ⟨b,o,none⟩=some (.int .i64 (xs.getD 0 0)):=hc 0 h0
 have d0:decide ((xs.length:Int)<1)=false:=decide_eq_false (by omega);have e0:Hid (xs.getD 0 0=mnK xs 0):=rfl;generalize hy:xs.getD 0 0=y at *;clear hy;have HC:=Qaa hc;clear hc;go_enter Tryz.func79,Tryz.ntmps79;go_wp2_with fail
 go_loopw [4,3] (fun i m W=>∃(k:Nat) (z:Int),k+1<=xs.length/\i=.int .i64 ((k:Int)+1)/\m=.int .i64 z/\Hid (z=mnK xs k)/\W=w) (fun i _ _=>xs.length - (intOf i).toNat)
 case atStart=>exact ⟨0,y,by omega,rfl,rfl,e0,rfl⟩
 case round=>
  obtain ⟨k,z,hk,rfl,rfl,H1,hW⟩:=hrel;obtain rfl:w=wr:=hW.symm;clear hW c0
  by_cases hlt:k+1<xs.length
  ·have d1:decide ((k:Int)+1<(xs.length:Int))=true:=decide_eq_true (by omega);have c2:=HC.out (k+1) hlt;have H2:Hid (min z (xs.getD (k+1) 0)=mnK xs (k+1)):=by show _ = _;rw [H1.out];rfl
   generalize xs.getD (k+1) 0=x at *;go_wp2_with fail;exact ⟨⟨k+1,_,by omega,by go_num,rfl,H2,trivial⟩,by simp [intOf];omega⟩
  ·have d1:decide ((k:Int)+1<(xs.length:Int))=false:=decide_eq_false (by omega);have H2:Hid (z=mnK xs (xs.length - 1)):=by rw [show xs.length - 1=k by omega];exact H1
   go_wp2_with fail;go_ret;exact ⟨Qyx H2.out,rfl⟩
theorem Qfj (N T E:Int) (xs:List Int) (Rf:Nat→Int) (v:Value) (w:World) (hP:Qeu w) (hT:Qbq w) (hv:Row w v xs) (hf:Fit v) (hl:xs.length≤9223372036854775807)
  (hRf:∀k,RingOk (xs.getD k 0) N->(0<=Rf k/\Rf k<xs.getD k 0)/\(∀W,Qeu W->Qbq W->Calls Tryz.prog 101 #[.int .i64 (xs.getD k 0),.int .i64 N] W fun e w'=>e=.returned (.tuple #[.agg #[.int .i64 (xs.getD k 0),.int .i64 N,.int .i64 (Rf k)],.bool true])/\Old W w')) :
  Calls Tryz.prog 53 #[.agg #[.int .i64 N,.int .i64 T,.int .i64 E,v]] w fun e w'=>Old w w'/\((prB N T E xs=false/\e=.returned (.tuple #[.slice none 0 0,.bool false]))∨(prB N T E xs=true/\∃g,w.heap.size<=g/\e=.returned (.tuple #[.slice (some ⟨g,0,none⟩) xs.length xs.length,.bool true])/\Rgs w' g N xs Rf xs.length)):=by
 obtain ⟨a0,c0,rfl⟩:=hv.slice;have HA:Hid (Old w (w.alloc (.cells #[.int .i64 N,.int .i64 T,.int .i64 E,.slice a0 xs.length c0] 33))):=(Old.refl w).alloc _;have BA:Hid (Bk (w.alloc (.cells #[.int .i64 N,.int .i64 T,.int .i64 E,.slice a0 xs.length c0] 33)) w.heap.size #[.int .i64 N,.int .i64 T,.int .i64 E,.slice a0 xs.length c0] 33):=Bk.new' w _ _ rfl;have K1:=fun W g=>Qo6 N xs Rf _ W (hP.old g) (hT.old g) (hv.old g) hf hl hRf
 have K5:=fun W=>Qmq E W
 have HM:Hid (spB N xs=true->(∀W,Old w W->Calls Tryz.prog 79 #[.slice a0 xs.length c0] W fun e w'=>e=.returned (.int .i64 (mnK xs (xs.length - 1)))/\w'=W)/\decide (T<mnK xs (xs.length - 1))=Qn9 T xs 0):=fun hs=>by
  have h1:=(Qc8 (Qdw hs).2.1).1;exact ⟨fun W g=>Qwy xs _ W (hv.old g) (by omega) hl,Qwx xs T (by omega)⟩
 clear hv hf hP hT hRf
 by_cases h4:xs.length<=4
 case neg=>
  have d4:decide ((4:Int)<(xs.length:Int))=true:=decide_eq_true (by omega);have e4:Hid (prB N T E xs=false):=by show _ = _;unfold prB;rw [decide_eq_false h4];simp
  clear K1 K5 h4;go_enter Tryz.func53,Tryz.ntmps53;go_wp2_with fail;exact bodyPost_ret (v:=.tuple #[.slice none 0 0,.bool false]) (by simp [results,Tryz.results53,go_sem]) rfl ⟨HA.out,Or.inl ⟨e4.out,rfl⟩⟩
 have d4:decide ((4:Int)<(xs.length:Int))=false:=decide_eq_false (by omega)
 cases h5:inQ E 1 16
 ·rw [h5] at K5;have e4:Hid (prB N T E xs=false):=by show _ = _;unfold prB;rw [h5];simp
  clear K1 h4 h5;go_enter Tryz.func53,Tryz.ntmps53;go_wp2_with fail;refine (K5 _).mono ?_
  rintro e w4 ⟨rfl,hw⟩;obtain rfl:=hw.symm;clear hw;go_wp2_with fail;exact bodyPost_ret (v:=.tuple #[.slice none 0 0,.bool false]) (by simp [results,Tryz.results53,go_sem]) rfl ⟨HA.out,Or.inl ⟨e4.out,rfl⟩⟩
 rw [h5] at K5
 by_cases h2:T<2
 ·have d2:=decide_eq_true h2;have e4:Hid (prB N T E xs=false):=by show _ = _;unfold prB inQ;rw [decide_eq_false (show ¬2≤T by omega)];simp
  clear K1 h4 h5 h2;go_enter Tryz.func53,Tryz.ntmps53;go_wp2_with fail;refine (K5 _).mono ?_
  rintro e w4 ⟨rfl,hw⟩;obtain rfl:=hw.symm;clear hw;go_wp2_with fail;exact bodyPost_ret (v:=.tuple #[.slice none 0 0,.bool false]) (by simp [results,Tryz.results53,go_sem]) rfl ⟨HA.out,Or.inl ⟨e4.out,rfl⟩⟩
 have d2:=decide_eq_false h2
 by_cases h3:65536<T
 ·have d3:=decide_eq_true h3;have e4:Hid (prB N T E xs=false):=by show _ = _;unfold prB inQ;rw [decide_eq_false (show ¬T≤65536 by omega)];simp
  clear K1 h4 h5 h2 h3;go_enter Tryz.func53,Tryz.ntmps53;go_wp2_with fail;refine (K5 _).mono ?_
  rintro e w4 ⟨rfl,hw⟩;obtain rfl:=hw.symm;clear hw;go_wp2_with fail;exact bodyPost_ret (v:=.tuple #[.slice none 0 0,.bool false]) (by simp [results,Tryz.results53,go_sem]) rfl ⟨HA.out,Or.inl ⟨e4.out,rfl⟩⟩
 have d3:=decide_eq_false h3;have hT:Hid (inQ T 2 65536=true):=by show _ = _;unfold inQ;rw [decide_eq_true (show 2<=T by omega),decide_eq_true (show T<=65536 by omega)];rfl
 have hpr:Hid (spB N xs=true->prB N T E xs=Qn9 T xs 0):=fun h=>by unfold prB;rw [h,decide_eq_true h4,hT.out,h5];simp
 have hpn:Hid (spB N xs=false->prB N T E xs=false):=fun h=>by unfold prB;rw [h];rfl
 clear h4 h5 h2 h3 hT;go_enter Tryz.func53,Tryz.ntmps53;go_wp2_with fail;refine (K5 _).mono ?_
 rintro e w4 ⟨rfl,hw⟩;obtain rfl:=hw.symm;clear hw;go_wp2_with fail;refine (Qmp N T E a0 xs.length c0 _).mono ?_
 rintro e w1 ⟨rfl,g1⟩;have HG1:=Qaa (Old.trans HA.out g1);have B1:=Qaa (BA.out.old g1);clear g1;go_wp2_with fail;refine (K1 _ HG1.out).mono ?_
 rintro e w2 ⟨g2,h⟩;have HG2:=Qaa (Old.trans HG1.out g2);have B2:=Qaa (B1.out.old g2);have hs1:=HG1.out.size;clear g2 K1 K5;rcases h with ⟨hB,rfl⟩ | ⟨hB,g,hg,rfl,hrg⟩
 ·have e4:=Qaa (hpn.out hB);clear hB hpr hpn;go_wp2_with fail
  go_quiet (fail)
  go_wp2_with fail;exact bodyPost_ret (v:=.tuple #[.slice none 0 0,.bool false]) (by simp [results,Tryz.results53,go_sem]) rfl ⟨(HG2.out.drewN _),Or.inl ⟨e4.out,rfl⟩⟩
 ·obtain ⟨KM,EM⟩:=HM.out hB;have e4:=Qaa ((hpr.out hB).trans EM.symm);have HRG:=Qaa hrg;have hg2:w.heap.size≤g:=by omega
  have z1:=B2.out.c (i:=1) rfl;have z3:=B2.out.c (i:=3) rfl;clear hB hpr hpn HM EM hrg hg;generalize mnK xs (xs.length - 1)=mm at *
  by_cases hm:mm<=T
  ·have dm:=decide_eq_true hm;have e5:Hid (prB N T E xs=false):=by show _ = _;rw [e4.out];exact decide_eq_false (by omega)
   clear hm e4;go_wp2_with fail
   go_quiet (first | (go_at_call 79;refine Calls.quiet_of_same (KM _ (HG2.out.drewN _))) | fail)
   go_wp2_with fail;exact bodyPost_ret (v:=.tuple #[.slice none 0 0,.bool false]) (by simp [results,Tryz.results53,go_sem]) rfl ⟨(HG2.out.drewN _),Or.inl ⟨e5.out,rfl⟩⟩
  ·have dm:=decide_eq_false hm;have e5:Hid (prB N T E xs=true):=by show _ = _;rw [e4.out];exact decide_eq_true (by omega)
   clear hm e4;go_wp2_with fail
   go_quiet (first | (go_at_call 79;refine Calls.quiet_of_same (KM _ (HG2.out.drewN _))) | fail)
   go_wp2_with fail;exact bodyPost_ret (v:=.tuple #[.slice (some ⟨g,0,none⟩) xs.length xs.length,.bool true]) (by simp [results,Tryz.results53,go_sem]) rfl ⟨HG2.out.drewN _,.inr ⟨e5.out,g,hg2,rfl,HRG.out.old ((Old.refl w2).drewN _)⟩⟩
end Go.Proofs.YtjjohooeehjjcaaGreatDoor
