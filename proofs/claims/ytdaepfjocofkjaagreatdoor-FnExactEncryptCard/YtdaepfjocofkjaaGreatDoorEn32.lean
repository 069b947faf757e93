/- Proved: what its theorems say. -/
import Derived.Test.YtdaepfjocofkjaaGreatDoorEn16
import Derived.Test.YtdaepfjocofkjaaGreatDoorEn26
set_option linter.unusedVariables false
set_option linter.unusedSimpArgs false
set_option maxHeartbeats 4000000
set_option maxRecDepth 100000
namespace Go.Proofs.YtdaepfjocofkjaaGreatDoor
open Go.ChangeShapes Go.WideShapes Go.ChangeAt Go.RowKit
open M1
open M2
theorem Qll {W:World} {k:Nat} {a0 a1 a2:Option Addr} {l0 c0 l1 c1 l2 c2:Nat} {T:TypeId} (h:Bk W k #[.slice a0 l0 c0,.slice a1 l1 c1,.slice a2 l2 c2] T) (o:Nat) (x:Int):W.cell? ⟨k,o,none⟩≠some (.int .i64 x):=fun e=>by
 rw [cell_of_row W k o _ _ (0,0) h] at e;rcases o with _ | _ | _ | o <;> simp at e
theorem Qcw {W:World} {v:Value} {xs:List Int} (h:Row W v xs) {k:Nat} (noI:∀o (x:Int),W.cell? ⟨k,o,none⟩≠some (.int .i64 x)) (z0 z1 z2:Value):Row (((W.setCell ⟨k,0,none⟩ z0).setCell ⟨k,1,none⟩ z1).setCell ⟨k,2,none⟩ z2) v xs:=by
 rcases h with hr | ⟨b',o',cap',e',hb',h0',hc'⟩
 ·exact .inl hr
 ·have hne:b'≠k:=fun e=>by
   subst e;exact noI _ _ (hc' 0 h0')
  exact .inr ⟨b',o',cap',e',by simpa using hb',h0',fun j hj=>(World.cell?_of_block ((heap_setCell_other _ ⟨k,2,none⟩ b' _ hne).trans ((heap_setCell_other _ ⟨k,1,none⟩ b' _ hne).trans (heap_setCell_other _ ⟨k,0,none⟩ b' _ hne)))).trans (hc' j hj)⟩
def DrC (k3:Int) (bb:Bool) (z1 z2 z3:List Int) (W:World) (e:Ending) (w':World):Prop:=
 Old W w'/\∃x1 d1 x2 d2 x3 d3,e=.returned (.tuple #[.agg #[.slice x1 z1.length d1,.slice x2 z2.length d2,.slice x3 z3.length d3],.int .i64 k3,.bool bb])/\Row w' (.slice x1 z1.length d1) z1/\Row w' (.slice x2 z2.length d2) z2/\Row w' (.slice x3 z3.length d3) z3
theorem Qlm (N T E at_ k1 k2 k3:Int) (a0:Option Addr) (l0 c0:Nat) (a1:Option Addr) (l1 c1:Nat) (b1 b2 b3:Bool) (z1 z2 z3:List Int) (n1 n2 n3:Nat) (w:World)
 (K1:∀W,Old w W->Calls Tryz.prog 65 #[.slice a1 l1 c1,.int .i64 at_,.int .i64 N] W fun e w'=>∃x c,e=.returned (.tuple #[.slice x n1 c,.int .i64 k1,.bool b1])/\Old W w'/\Row w' (.slice x n1 c) z1)
 (K2:∀W,Old w W->Calls Tryz.prog 66 #[.slice a1 l1 c1,.int .i64 k1,.int .i64 E,.int .i64 N] W fun e w'=>∃x c,e=.returned (.tuple #[.slice x n2 c,.int .i64 k2,.bool b2])/\Old W w'/\Row w' (.slice x n2 c) z2)
 (K3:∀W,Old w W->Calls Tryz.prog 66 #[.slice a1 l1 c1,.int .i64 k2,.int .i64 E,.int .i64 N] W fun e w'=>∃x c,e=.returned (.tuple #[.slice x n3 c,.int .i64 k3,.bool b3])/\Old W w'/\Row w' (.slice x n3 c) z3) :
 Calls Tryz.prog 36 #[.agg #[.int .i64 N,.int .i64 T,.int .i64 E,.slice a0 l0 c0],.slice a1 l1 c1,.int .i64 at_] w fun e w'=>Old w w'/\∃x1 d1 x2 d2 x3 d3,e=.returned (.tuple #[.agg #[.slice x1 n1 d1,.slice x2 n2 d2,.slice x3 n3 d3],.int .i64 k3,.bool (b1&&b2&&b3)])/\Row w' (.slice x1 n1 d1) z1/\Row w' (.slice x2 n2 d2) z2/\Row w' (.slice x3 n3 d3) z3:=by
 have HK1:=Qaa K1;have HK2:=Qaa K2;have HK3:=Qaa K3;obtain ⟨B,hB⟩:∃B:World,(w.alloc (.cells #[.int .i64 N,.int .i64 T,.int .i64 E,.slice a0 l0 c0] 35)).alloc (.cells #[.slice none 0 0,.slice none 0 0,.slice none 0 0] 78)=B:=⟨_,rfl⟩
 have G0:Hid (Old w B):=by rw [<- hB];exact ((Old.refl w).alloc _).alloc _
 have P0:Hid (Bk B w.heap.size #[.int .i64 N,.int .i64 T,.int .i64 E,.slice a0 l0 c0] 35):=by rw [<- hB];exact (Bk.new' w _ _ rfl).alloc _
 have R0:Hid (Bk B (w.heap.size+1) #[.slice none 0 0,.slice none 0 0,.slice none 0 0] 78):=by rw [<- hB];exact Bk.new' _ _ _ (by simp)
 obtain ⟨kp,hkp⟩:∃k,w.heap.size=k:=⟨_,rfl⟩
 have HKP:=Qaa hkp;rw [hkp] at P0 R0;have p0:=P0.out.c (i:=0) rfl;clear K1 K2 K3;go_enter Tryz.func36,Tryz.ntmps36;go_wp2_with fail;refine (HK1.out _ G0.out).mono ?_
 rintro e w1 ⟨x1,d1,rfl,g1,r1⟩;have G1:=Qaa (Old.trans G0.out g1);have P1:=Qaa (P0.out.old g1);have R1:=Qaa (R0.out.old g1);have H11:=Qaa r1;clear p0 g1 r1 P0 R0 G0 HK1 hB hkp;have p0:=P1.out.c (i:=0) rfl;have p2:=P1.out.c (i:=2) rfl;go_wp2_with fail;refine (HK2.out _ G1.out).mono ?_
 rintro e w2 ⟨x2,d2,rfl,g2,r2⟩;have G2:=Qaa (Old.trans G1.out g2);have P2:=Qaa (P1.out.old g2);have R2:=Qaa (R1.out.old g2);have H21:=Qaa (H11.out.old g2);have H22:=Qaa r2;clear p0 p2 g2 r2 P1 R1 G1 HK2 H11;have p0:=P2.out.c (i:=0) rfl;have p2:=P2.out.c (i:=2) rfl;go_wp2_with fail;refine (HK3.out _ G2.out).mono ?_
 rintro e w3 ⟨x3,d3,rfl,g3,r3⟩;have G3:=Qaa (Old.trans G2.out g3);have R3:=Qaa (R2.out.old g3);have H31:=Qaa (H21.out.old g3);have H32:=Qaa (H22.out.old g3);have H33:=Qaa r3;clear p0 p2 g3 r3 P2 R2 G2 HK3 H21 H22;have y0:=R3.out.c (i:=0) rfl;have y1:=R3.out.c (i:=1) rfl;have y2:=R3.out.c (i:=2) rfl;have f0:w3.frozen? ⟨kp+1,0,none⟩=false:=frozen_of_row _ _ _ _ _ R3.out
 have f1:w3.frozen? ⟨kp+1,1,none⟩=false:=frozen_of_row _ _ _ _ _ R3.out
 have f2:w3.frozen? ⟨kp+1,2,none⟩=false:=frozen_of_row _ _ _ _ _ R3.out
 have Q0:Bk (w3.setCell ⟨kp+1,0,none⟩ (.slice x1 n1 d1)) (kp+1) #[.slice x1 n1 d1,.slice none 0 0,.slice none 0 0] 78:=heap_setCell_same _ (kp+1) 0 _ _ _ R3.out;have Q1:Bk ((w3.setCell ⟨kp+1,0,none⟩ (.slice x1 n1 d1)).setCell ⟨kp+1,1,none⟩ (.slice x2 n2 d2)) (kp+1) #[.slice x1 n1 d1,.slice x2 n2 d2,.slice none 0 0] 78:=heap_setCell_same _ (kp+1) 1 _ _ _ Q0;have Q2:Bk (((w3.setCell ⟨kp+1,0,none⟩ (.slice x1 n1 d1)).setCell ⟨kp+1,1,none⟩ (.slice x2 n2 d2)).setCell ⟨kp+1,2,none⟩ (.slice x3 n3 d3)) (kp+1) #[.slice x1 n1 d1,.slice x2 n2 d2,.slice x3 n3 d3] 78:=heap_setCell_same _ (kp+1) 2 _ _ _ Q1;have HQ2:=Qaa Q2;clear Q0 Q1 Q2
 cases b1
 ·skip
  go_wp2_with fail;have q0:=HQ2.out.c (i:=0) rfl;have q1:=HQ2.out.c (i:=1) rfl;have q2:=HQ2.out.c (i:=2) rfl;have hkp':=HKP.out;refine bodyPost_ret (v:=.tuple #[.agg #[.slice x1 n1 d1,.slice x2 n2 d2,.slice x3 n3 d3],.int .i64 k3,.bool false]) (by simp [results,Tryz.results36,go_sem,q0,q1,q2]) rfl ?_
  refine ⟨((G3.out.own (p:=⟨kp+1,0,none⟩) (by show w.heap.size<=kp+1;omega) _).own (p:=⟨kp+1,1,none⟩) (by show w.heap.size<=kp+1;omega) _).own (p:=⟨kp+1,2,none⟩) (by show w.heap.size<=kp+1;omega) _,x1,d1,x2,d2,x3,d3,rfl,Qcw H31.out (Qll R3.out) _ _ _,Qcw H32.out (Qll R3.out) _ _ _,Qcw H33.out (Qll R3.out) _ _ _⟩
 ·cases b2
  ·skip
   go_wp2_with fail;have q0:=HQ2.out.c (i:=0) rfl;have q1:=HQ2.out.c (i:=1) rfl;have q2:=HQ2.out.c (i:=2) rfl;have hkp':=HKP.out;refine bodyPost_ret (v:=.tuple #[.agg #[.slice x1 n1 d1,.slice x2 n2 d2,.slice x3 n3 d3],.int .i64 k3,.bool false]) (by simp [results,Tryz.results36,go_sem,q0,q1,q2]) rfl ?_
   refine ⟨((G3.out.own (p:=⟨kp+1,0,none⟩) (by show w.heap.size<=kp+1;omega) _).own (p:=⟨kp+1,1,none⟩) (by show w.heap.size<=kp+1;omega) _).own (p:=⟨kp+1,2,none⟩) (by show w.heap.size<=kp+1;omega) _,x1,d1,x2,d2,x3,d3,rfl,Qcw H31.out (Qll R3.out) _ _ _,Qcw H32.out (Qll R3.out) _ _ _,Qcw H33.out (Qll R3.out) _ _ _⟩
  ·skip
   go_wp2_with fail;have q0:=HQ2.out.c (i:=0) rfl;have q1:=HQ2.out.c (i:=1) rfl;have q2:=HQ2.out.c (i:=2) rfl;have hkp':=HKP.out;refine bodyPost_ret (v:=.tuple #[.agg #[.slice x1 n1 d1,.slice x2 n2 d2,.slice x3 n3 d3],.int .i64 k3,.bool b3]) (by simp [results,Tryz.results36,go_sem,q0,q1,q2]) rfl ?_
   refine ⟨((G3.out.own (p:=⟨kp+1,0,none⟩) (by show w.heap.size<=kp+1;omega) _).own (p:=⟨kp+1,1,none⟩) (by show w.heap.size<=kp+1;omega) _).own (p:=⟨kp+1,2,none⟩) (by show w.heap.size<=kp+1;omega) _,x1,d1,x2,d2,x3,d3,rfl,Qcw H31.out (Qll R3.out) _ _ _,Qcw H32.out (Qll R3.out) _ _ _,Qcw H33.out (Qll R3.out) _ _ _⟩
def cT (ws:List Int) (at_ N:Int):Option (List Int×Nat):=Qnt ws at_ N
def cE (ws:List Int) (at_ N E:Int):Option (List Int×Nat):=Qwx ws (aK (Qnt ws at_ N)) E N
def cF (ws:List Int) (at_ N E:Int):Option (List Int×Nat):=Qwx ws (aK (cE ws at_ N E)) E N
def enB (ws:List Int) (at_ N E:Int):Bool:=(cT ws at_ N).isSome&&(cE ws at_ N E).isSome&&(cF ws at_ N E).isSome
theorem Qgr {A:Option (List Int×Nat)} {W w':World} {e:Ending} (h:Qga A W e w'):∃x c,e=.returned (.tuple #[.slice x (aL A).length c,.int .i64 (aK A),.bool A.isSome])/\Old W w'/\Row w' (.slice x (aL A).length c) (aL A):=by
 obtain ⟨v',h1,h2,h3⟩:=h;have hr:=Own.row h3;obtain ⟨a,c,rfl⟩:=hr.slice;exact ⟨a,c,h1,h2,hr⟩
theorem Qjp (N T E:Int) (a0:Option Addr) (l0 c0:Nat) (ws:List Int) (a1:Option Addr) (c1:Nat) (at_ : Int) (w:World) (h:Row w (.slice a1 ws.length c1) ws) (hf:Q0u (.slice a1 ws.length c1)) (hl:ws.length<=9223372036854775807) :
 Calls Tryz.prog 36 #[.agg #[.int .i64 N,.int .i64 T,.int .i64 E,.slice a0 l0 c0],.slice a1 ws.length c1,.int .i64 at_] w (DrC (aK (cF ws at_ N E)) (enB ws at_ N E) (aL (cT ws at_ N)) (aL (cE ws at_ N E)) (aL (cF ws at_ N E)) w):=
 Qlm N T E at_ _ _ _ a0 l0 c0 a1 ws.length c1 _ _ _ _ _ _ _ _ _ w (fun W q=>(Qiw ws _ at_ N W (h.old q) hf hl).mono fun e w' r=>Qgr r) (fun W q=>(Qgb ws _ _ E N W (h.old q) hf hl).mono fun e w' r=>Qgr r) (fun W q=>(Qgb ws _ _ E N W (h.old q) hf hl).mono fun e w' r=>Qgr r)
theorem Quv {D:Nat->Option (Int×Nat)} {Q:Int->Prop} (hD:∀k x k',D k=some (x,k')->Q x) {k0:Nat}:∀n l k,drP D k0 n=some (l,k)->∀x∈l,Q x
 | 0,l,k,h,x,hx=>by simp [drP] at h;rw [h.1] at hx;simp at hx
 | n+1,l,k,h,x,hx=>by
   simp only [drP] at h
   cases e:drP D k0 n with
   | none=>rw [e] at h;simp at h
   | some q=>
     obtain ⟨l',k'⟩:=q;rw [e] at h;simp only at h
     cases e2:D k' with
     | none=>rw [e2] at h;simp at h
     | some q2=>
       obtain ⟨y,k2⟩:=q2;rw [e2] at h;simp only [Option.some.injEq,Prod.mk.injEq] at h;rw [<- h.1] at hx;rcases List.mem_append.1 hx with h3 | h3
       ·exact Quv hD n l' k' e x h3
       ·simp at h3;subst h3;exact hD _ _ _ e2
def SmN (n:Nat) (l:List Int):Prop:=l.length=n/\∀i,i<l.length->-1099511627776<=l.getD i 0/\l.getD i 0<=1099511627776
theorem Qya {D:Nat->Option (Int×Nat)} (hD:∀k x k',D k=some (x,k')->-16<=x/\x<=16) {k0 n:Nat} (h:(drP D k0 n).isSome=true):SmN n (aL (drP D k0 n)):=by
 cases e:drP D k0 n with
 | none=>rw [e] at h;cases h
 | some p=>
   obtain ⟨l,k⟩:=p;refine ⟨Qfd _ l k e,fun i hi=>?_⟩
   have hm:(aL (some (l,k))).getD i 0∈l:=by
    have hi':i<l.length:=hi
    show l.getD i 0∈l
    simp [List.getD,hi']
   have:=Quv (Q:=fun x=> -16<=x/\x<=16) hD n l k e _ hm;omega
theorem Q3v (ws:List Int) (b:Nat) (hb:b<=16) (k:Nat) (x:Int) (k':Nat) (h:nD ws b k=some (x,k')) : -16<=x/\x<=16:=by
 unfold nD at h;split at h
 ·simp only [Option.some.injEq,Prod.mk.injEq] at h;have:=Qx8 (ws.getD k 0).toNat b b;have e:nzK (ws.getD k 0).toNat b b=nz (ws.getD k 0).toNat b:=rfl;rw [e,h.1] at this;omega
 ·cases h
theorem Q3w (ws:List Int) (k:Nat) (x:Int) (k':Nat) (h:tD ws k=some (x,k')) : -16<=x/\x<=16:=by
 unfold tD at h
 cases e:uD ws 3 k with
 | none=>rw [e] at h;cases h
 | some p=>
   obtain ⟨y,q⟩:=p;rw [e] at h;simp only [Option.some.injEq,Prod.mk.injEq] at h;unfold uD at e;split at e
   ·simp only [Option.some.injEq,Prod.mk.injEq] at e;have:=Int.emod_nonneg (ws.getD (nx ws (Qlu 3) (ws.length - k) k) 0) (show ((3:Nat):Int)≠0 by omega);have:=Int.emod_lt_of_pos (ws.getD (nx ws (Qlu 3) (ws.length - k) k) 0) (show (0:Int)<((3:Nat):Int) by omega);rw [e.1] at *;rw [<- h.1];unfold Qkb;split <;> omega
   ·cases e
theorem Quw {ws:List Int} {at_ b n:Int} (h:(Qwx ws at_ b n).isSome=true):SmN n.toNat (aL (Qwx ws at_ b n)):=by
 unfold Qwx at h ⊢;split at h
 ·rename_i hc
  rw [if_pos hc]
  have hb:b.toNat<=16:=by
   unfold inQ at hc;simp only [Bool.and_eq_true,decide_eq_true_eq] at hc;omega
  exact Qya (Q3v ws _ hb) h
 ·cases h
theorem Q01 {ws:List Int} {at_ n:Int} (h:(Qnt ws at_ n).isSome=true):SmN n.toNat (aL (Qnt ws at_ n)):=by
 unfold Qnt at h ⊢;split at h
 ·rename_i hc
  rw [if_pos hc];exact Qya (Q3w ws) h
 ·cases h
theorem Q02 {ws:List Int} {at_ N E:Int} (h:enB ws at_ N E=true):SmN N.toNat (aL (cT ws at_ N))/\SmN N.toNat (aL (cE ws at_ N E))/\SmN N.toNat (aL (cF ws at_ N E)):=by
 unfold enB at h;simp only [Bool.and_eq_true] at h;exact ⟨Q01 h.1.1,Quw h.1.2,Quw h.2⟩
def SS (W:World) (q:Nat) (v:Value) (ws:List Int):Option (List Int×Nat)->Prop
 | some (_,k)=>Sp W q v ws k true
 | none=>∃k,Sp W q v ws k false
def nxt (D:Nat->Option (Int×Nat)) (n:Nat):Option (List Int×Nat)->Option (List Int×Nat)
 | some (_,k)=>drP D k n
 | none=>none
def SA (R:Option (List Int×Nat)) (ws:List Int) (W:World) (q:Nat) (v:Value) (e:Ending) (w':World):Prop:=
 Chg W w' q (q+1)/\∃x m c,e=.returned (.slice x m c)/\SS w' q v ws R/\∀l k,R=some (l,k)->m=l.length/\Own w' W.heap.size (.slice x m c) l
theorem Qyb {R:Option (List Int×Nat)} {ws:List Int} {W w':World} {q:Nat} {v:Value} {e:Ending} (h:RwM R ws W q v e w'):SA R ws W q v e w':=by
 obtain ⟨g,⟨l,k,v',rfl,rfl,o,s⟩ | ⟨rfl,⟨a,m,c,rfl⟩,s⟩⟩:=h
 ·obtain ⟨a,c,rfl⟩:=(Own.row o).slice;refine ⟨g,a,l.length,c,rfl,s,fun l' k' e=>?_⟩;simp only [Option.some.injEq,Prod.mk.injEq] at e;obtain ⟨rfl,rfl⟩:=e;exact ⟨rfl,o⟩
 ·exact ⟨g,a,m,c,rfl,s,fun l k e=>by cases e⟩
theorem Qrt (ws:List Int) (q k n:Nat) (b:Int) (v:Value) (w:World) (h:Sp w q v ws k false) (hn:n<=64) :
 Calls Tryz.prog 27 #[.pointer (some ⟨q,0,none⟩),.int .i64 b,.int .i64 n] w fun e w'=>e=.returned (.slice none 0 0)/\w'=w:=by
 have c2:=h.c2;clear h
 by_cases h0:0<n
 ·have dl2:decide (0<n)=true:=by simp;omega
  clear h0;go_enter Tryz.func27,Tryz.ntmps27;go_wp2_with fail;refine wp_loop_rounds 1 ?_
  rw [rounds_succ];go_wp2_with fail;go_ret;exact ⟨rfl,rfl⟩
 ·have dl2:decide (0<n)=false:=by simp;omega
  clear h0;go_enter Tryz.func27,Tryz.ntmps27;go_wp2_with fail;refine wp_loop_rounds 1 ?_
  rw [rounds_succ];go_wp2_with fail;go_ret;exact ⟨rfl,rfl⟩
theorem Qnj (A:Option (List Int×Nat)) (ws:List Int) (q n b:Nat) (v:Value) (w:World) (hw:wdB ws=true) (hl:ws.length<=4000) (hb:1<=b/\b<=16) (hn:n<=64) (h:SS w q v ws A) :
 Calls Tryz.prog 27 #[.pointer (some ⟨q,0,none⟩),.int .i64 b,.int .i64 n] w (SA (nxt (nD ws b) n A) ws w q v):=by
 cases A with
 | none=>
   obtain ⟨k,hk⟩:=h;refine (Qrt ws q k n b v w hk hn).mono ?_
   rintro e w' ⟨rfl,rfl⟩;exact ⟨Chg.refl _ _ _,none,0,0,rfl,⟨k,hk⟩,fun l k e=>by cases e⟩
 | some p=>
   obtain ⟨l,k⟩:=p;exact (Qwu (nD ws b) ws q k n b v w hn h (fun k W hs=>Qww ws q b v hw hl hb k W hs)).mono fun e w' r=>Qyb r
theorem Qnk (ws:List Int) (q n k:Nat) (v:Value) (w:World) (hw:wdB ws=true) (hl:ws.length<=4000) (hn:n<=64) (h:Sp w q v ws k true) :
 Calls Tryz.prog 26 #[.pointer (some ⟨q,0,none⟩),.int .i64 n] w (SA (drP (tD ws) k n) ws w q v):=
 (Qo8 (tD ws) ws q k n v w hn h (fun k W hs=>Qrr ws q v hw hl k W hs)).mono fun e w' r=>Qyb r
theorem Qnl (ws:List Int) (a:Option Addr) (c k:Nat) (w:World) (h:Row w (.slice a ws.length c) ws) (hk:k<=ws.length) :
 Calls Tryz.prog 25 #[.slice a ws.length c,.int .i64 (k:Int)] w fun e w'=>∃q,q=w.heap.size/\e=.returned (.pointer (some ⟨q,0,none⟩))/\Old w w'/\Sp w' q (.slice a ws.length c) ws k true:=by
 have HS:=Qaa (Sp.new h hk);clear h;go_enter Tryz.func25,Tryz.ntmps25;go_wp2_with fail;go_ret;exact ⟨_,rfl,rfl,(Old.refl w).alloc _,HS.out⟩
theorem Qyc {D:Nat->Option (Int×Nat)} {L:Nat} (hD:∀k x k',D k=some (x,k')->k'<=L) {k0:Nat} (h0:k0<=L):∀n l k,drP D k0 n=some (l,k)->k<=L
 | 0,l,k,h=>by simp [drP] at h;omega
 | n+1,l,k,h=>by
   simp only [drP] at h
   cases e:drP D k0 n with
   | none=>rw [e] at h;simp at h
   | some q=>
     obtain ⟨l',k'⟩:=q;rw [e] at h;simp only at h
     cases e2:D k' with
     | none=>rw [e2] at h;simp at h
     | some q2=>
       obtain ⟨y,k2⟩:=q2;rw [e2] at h;simp only [Option.some.injEq,Prod.mk.injEq] at h;have:=hD _ _ _ e2;omega
theorem Q3x (ws:List Int) (b k:Nat) (x:Int) (k':Nat) (h:nD ws b k=some (x,k')):k'<=ws.length:=by
 unfold nD at h;split at h
 ·simp only [Option.some.injEq,Prod.mk.injEq] at h;omega
 ·cases h
theorem Q3y (ws:List Int) (k:Nat) (x:Int) (k':Nat) (h:tD ws k=some (x,k')):k'<=ws.length:=by
 unfold tD at h
 cases e:uD ws 3 k with
 | none=>rw [e] at h;cases h
 | some p=>
   obtain ⟨y,q⟩:=p;rw [e] at h;simp only [Option.some.injEq,Prod.mk.injEq] at h;unfold uD at e;split at e
   ·simp only [Option.some.injEq,Prod.mk.injEq] at e;omega
   ·cases e
theorem Qux {ws:List Int} {k:Nat} {N E:Int} (hw:wsB ws=true) (hk:k<=ws.length) (hN:0<=N/\N<=64) (hE:inQ E 1 16=true):Qwx ws (k:Int) E N=drP (nD ws E.toNat) k N.toNat:=by
 have h1:Qo9 ws (k:Int) N=true:=by
  unfold Qo9;rw [hw];simp [inQ];omega
 unfold Qwx;rw [h1,hE];rfl
theorem Qw5 {ws:List Int} {at_ N E:Int} (h:atB ws at_ = false):enB ws at_ N E=false:=by
 have:cT ws at_ N=none:=by
  unfold cT Qnt;rw [Quu,h];rfl
 unfold enB;rw [this];rfl
theorem Qru {ws:List Int} {at_ N E:Int} (hat:atB ws at_ = true) (hN:0<=N/\N<=64) (hE:inQ E 1 16=true) :
 (nxt (nD ws E.toNat) N.toNat (nxt (nD ws E.toNat) N.toNat (drP (tD ws) at_.toNat N.toNat))=none->enB ws at_ N E=false)/\(∀l3 k3,nxt (nD ws E.toNat) N.toNat (nxt (nD ws E.toNat) N.toNat (drP (tD ws) at_.toNat N.toNat))=some (l3,k3)->∃l1 k1 l2 k2,drP (tD ws) at_.toNat N.toNat=some (l1,k1)/\nxt (nD ws E.toNat) N.toNat (drP (tD ws) at_.toNat N.toNat)=some (l2,k2)/\enB ws at_ N E=true/\aL (cT ws at_ N)=l1/\aL (cE ws at_ N E)=l2/\aL (cF ws at_ N E)=l3/\aK (cF ws at_ N E)=(k3:Int)):=by
 have hw:wsB ws=true:=by
  unfold atB at hat;rw [Bool.and_eq_true] at hat;exact hat.1
 obtain ⟨_,_,hA⟩:=Qut hat
 have hT:cT ws at_ N=drP (tD ws) at_.toNat N.toNat:=by
  unfold cT Qnt;rw [Quu,hat];simp [inQ,hN]
 cases e1:drP (tD ws) at_.toNat N.toNat with
 | none=>
   rw [e1] at hT;refine ⟨fun _=>?_,fun l3 k3 h=>by cases h⟩;unfold enB;rw [hT];rfl
 | some p1=>
   obtain ⟨l1,k1⟩:=p1;have hk1:=Qyc (Q3y ws) (show at_.toNat<=ws.length by omega) _ _ _ e1;rw [e1] at hT;have hT':Qnt ws at_ N=some (l1,k1):=hT
   have hE1:cE ws at_ N E=drP (nD ws E.toNat) k1 N.toNat:=by
    unfold cE;rw [hT'];exact Qux hw hk1 hN hE
   show (nxt (nD ws E.toNat) N.toNat (drP (nD ws E.toNat) k1 N.toNat)=none->_)/\(∀l3 k3,nxt (nD ws E.toNat) N.toNat (drP (nD ws E.toNat) k1 N.toNat)=some (l3,k3)->∃l1' k1' l2 k2,some (l1,k1)=some (l1',k1')/\drP (nD ws E.toNat) k1 N.toNat=some (l2,k2)/\_)
   cases e2:drP (nD ws E.toNat) k1 N.toNat with
   | none=>
     rw [e2] at hE1;refine ⟨fun _=>?_,fun l3 k3 h=>by cases h⟩;unfold enB;rw [hT,hE1];rfl
   | some p2=>
     obtain ⟨l2,k2⟩:=p2;have hk2:=Qyc (Q3x ws _) hk1 _ _ _ e2;rw [e2] at hE1
     have hF1:cF ws at_ N E=drP (nD ws E.toNat) k2 N.toNat:=by
      unfold cF;rw [hE1];exact Qux hw hk2 hN hE
     show (drP (nD ws E.toNat) k2 N.toNat=none->_)/\(∀l3 k3,drP (nD ws E.toNat) k2 N.toNat=some (l3,k3)->_)
     refine ⟨fun h=>?_,fun l3 k3 h=>⟨l1,k1,l2,k2,rfl,rfl,?_,by rw [hT];rfl,by rw [hE1];rfl,by rw [hF1,h];rfl,by rw [hF1,h];rfl⟩⟩
     ·unfold enB;rw [hT,hE1,hF1,h];rfl
     ·unfold enB;rw [hT,hE1,hF1,h];rfl
theorem Qnm {Nn:Nat} {ps:List Int} {xss yss:List (List Int)} (hx:OkX Nn ps xss) (hy:OkX Nn ps yss):Qb4 Qd3 ps xss yss=Qb4 Qd3 ps yss xss:=by
 unfold Qb4;refine List.map_congr_left fun k hk=>?_
 have hk':k<ps.length:=by simpa using hk
 unfold Qco;rw [(hx k hk').1,(hy k hk').1];refine List.map_congr_left fun i _=>?_
 unfold Qd3;rw [Int.add_comm]
end Go.Proofs.YtdaepfjocofkjaaGreatDoor
