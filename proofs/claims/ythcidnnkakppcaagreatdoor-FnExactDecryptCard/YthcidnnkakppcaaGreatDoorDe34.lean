/- Proved: what its theorems say. -/
import Derived.Test.YthcidnnkakppcaaGreatDoorDe33
import Derived.Deep.DeepCutAuto
set_option linter.unusedVariables false
set_option linter.unusedSimpArgs false
set_option maxHeartbeats 16000000
set_option maxRecDepth 100000
namespace Go.Proofs.YthcidnnkakppcaaGreatDoor
open Go.ChangeShapes Go.WideShapes Go.ChangeAt Go.RowKit
open M2
structure Two (w0:World) (a b:Nat) (W:World) (p6 p7:Nat):Prop where
 old:Old w0 W
 z6:Sz W p6 (pad a) (cnt a)
 z7:Sz W p7 (pad b) (cnt b)
 lo6:w0.heap.size<=p6
 lo7:w0.heap.size<=p7
theorem Old.drw {a b:World} (h:Old a b):Old a b.drew:=Below.drew h
theorem Sz.drw {w:World} {g:Nat} {ls:List Nat} {c:Nat} (h:Sz w g ls c):Sz w.drew g ls c:=⟨h.blk,h.len⟩
theorem Sz.zero0 (w:World):Sz (w.alloc (.cells Tryz.zeroCells103 103)) w.heap.size (ext []) 0:=Sz.zero w _ rfl
theorem Sz.zero1 (w:World) (o:Obj):Sz ((w.alloc o).alloc (.cells Tryz.zeroCells103 103)) (w.heap.size+1) (ext []) 0:=Sz.zero _ _ (by simp)
theorem Qac {W:World} {g:Nat} {A:Array Value} (h:W.heap[g]? = some (.cells A 103 (0,0))) (hs:A.size=81):(loadCellsFrom ⟨g,0,none⟩ 0 81 #[]).run Tryz.prog W=.ok A W:=by
 have:=run_loadCells_list (P:=Tryz.prog) W ⟨g,0,none⟩ A.toList (fun j v hv=>by
  have hadd:(⟨g,0,none⟩:Addr).add j=⟨g,j,none⟩:=by unfold Addr.add;split <;> simp_all
  rw [hadd,cell_of_row W g j A _ _ h]
  simpa using hv)
 simpa [loadCells,hs] using this
theorem Qu1 (n:Bool) (xs ys:List Nat):Qfv n (val xs+val ys)=told (sv n xs+sv n ys):=by
 refine Qkz _ _ _ ?_ (fun h0=>?_)
 ·cases n <;> simp [sv] <;> omega
 ·cases n <;> simp [sv] <;> omega
theorem Qu2 (a b:Nat) (ha:cnt a<=40) (hb:cnt b<=40):cnt (a+b)<=41:=by
 refine Qb4 ?_
 have h1:=cnt_lt a;have h2:=cnt_lt b;have h3:=Nat.pow_le_pow_right Qa2 ha;have h4:=Nat.pow_le_pow_right Qa2 hb;have h5:LB^41=LB^40*LB:=Nat.pow_succ ..;have h6:LB^40*2<=LB^40*LB:=Nat.mul_le_mul_left _ (by decide);omega
theorem Qu3 (n m:Bool) (xs ys:List Nat) (h:¬n=m) (hlt:val xs<val ys):Qfv m (val ys - val xs)=told (sv n xs+sv m ys):=by
 refine Qkz _ _ _ ?_ (fun h0=>?_)
 ·cases n <;> cases m <;> simp [sv] at h ⊢ <;> omega
 ·cases n <;> cases m <;> simp [sv] at h ⊢ <;> omega
theorem Qu4 (n m:Bool) (xs ys:List Nat) (h:¬n=m) (hle:val ys<=val xs):Qfv n (val xs - val ys)=told (sv n xs+sv m ys):=by
 refine Qkz _ _ _ ?_ (fun h0=>?_)
 ·cases n <;> cases m <;> simp [sv] at h ⊢ <;> omega
 ·cases n <;> cases m <;> simp [sv] at h ⊢ <;> omega
theorem Qgi {W:World} {g n:Nat} {ls:List Nat} {c:Nat} (hs:Sz W g ls c) (hl:(szV n).size=81):(storeCells ⟨g,0,none⟩ (szV n).toList 0).run Tryz.prog W=.ok () (W.setRow g (szV n)):=by
 have:=run_storeVar_row (P:=Tryz.prog) W g 103 103 (szA ls c) (szV n) hs.blk (by rw [hl];exact Qd8) (by rw [Qah hs.len,hl]) (Qoi _ _)
 cases hq:Tryz.prog.info? 103 with
 | none=>have h2:=Qd8;rw [hq] at h2;cases h2
 | some i=>
   have h2:=Qd8;rw [hq] at h2;have h3:i.size=81:=by simpa using h2
   simpa [storeVar,Go.sizeOf,typeInfo,hq,Value.cells,hl,h3] using this
theorem Qk7 {o:Oper} {a:Act} {K:Act→World→Prop} {Q:Exit→Act→World→Prop} {f:Unit→World→Result Next} {W:World} {g n:Nat} {ls:List Nat} {c:Nat} (hs:Sz W g ls c) (hl:(szV n).size=81)
  (h:Oper.upon Tryz.prog o a K Q (f () (W.setRow g (szV n)))):Oper.upon Tryz.prog o a K Q ((Sem.run Tryz.prog (storeCells ⟨g,0,none⟩ (szV n).toList 0) W).andThen f):=by
 rw [Qgi hs hl];exact h
def Qd5 (n:Nat):Code->Option Code
 | .region i ops b=>if i=n then some (.region i ops b) else none
 | .seq a b=>match Qd5 n a with
   | some c=>some c
   | none=>Qd5 n b
 | .block _ c=>Qd5 n c
 | _=>none
set_option maxRecDepth 1000000 in
theorem Q1f (n m:Bool) (xs ys:List Int) (c0 c1:Option Addr) (cap0 cap1:Nat) (w w2:World) (HV2:Hid (Row w (.slice c0 xs.length cap0) (toI (nat xs)))) (HU2:Hid (Row w (.slice c1 ys.length cap1) (toI (nat ys)))) (HGX:Hid (Gw n (nat xs)∧(nat xs).length≤40)) (HGY:Hid (Gw m (nat ys)∧(nat ys).length≤40))
  (HCX:Hid (cnt (val (nat xs))<=40/\cnt (val (nat ys))<=40)) (HLX:Hid ((szV (val (nat xs))).size=81)) (HLY:Hid ((szV (val (nat ys))).size=81))
  (SA2:Hid (StW w2 w.heap.size (.bool n) (.slice c0 xs.length cap0) 65)) (SB2:Hid (StW w2 (w.heap.size+1) (.bool m) (.slice c1 ys.length cap1) 65)) (HG2:Hid (Old w w2)) (R:Ending->World->Prop) (K:Act->World->Prop) (s0 s1 s4 s5 s6 s7 s8 s9 s10 s11 s12 s13 s14 s15 s16 s17 s18 s19 s20 s21 s22 s23 s24 s25 s26 s27 s28 s29 s30 s31 s32 s33 s34 s35 s36 s37 s38 s39 s40 s41 s42 s43 s44 s45 s46 s47 s48 s49 s50 s51 s52 s53:Value)
  (HK:Hid (∀(p6 p7:Nat) (W:World) (u17 u18 u19 u20:Value),Two w2 (val (nat xs)) (val (nat ys)) W p6 p7->K ⟨#[s0,s1,.pointer (some ⟨w.heap.size,0,none⟩),.pointer (some ⟨w.heap.size+1,0,none⟩),s4,s5,.pointer (some ⟨p6,0,none⟩),.pointer (some ⟨p7,0,none⟩),s8,s9,s10,s11,s12,s13,s14,s15,s16,u17,u18,u19,u20,s21,s22,s23,s24,s25,s26,s27,s28,s29,s30,s31,s32,s33,s34,s35,s36,s37,s38,s39,s40,s41,s42,s43,s44,s45,s46,s47,s48,s49,s50,s51,s52,s53],[]⟩ W)) :
  Code.wp Tryz.prog ((Tryz.f110.body.bind (Qd5 3)).getD .skip) (Exit.then K (bodyPost Tryz.prog Tryz.f110 R)) ⟨#[s0,s1,.pointer (some ⟨w.heap.size,0,none⟩),.pointer (some ⟨w.heap.size+1,0,none⟩),s4,s5,s6,s7,s8,s9,s10,s11,s12,s13,s14,s15,s16,s17,s18,s19,s20,s21,s22,s23,s24,s25,s26,s27,s28,s29,s30,s31,s32,s33,s34,s35,s36,s37,s38,s39,s40,s41,s42,s43,s44,s45,s46,s47,s48,s49,s50,s51,s52,s53],[]⟩ w2:=by
 obtain ⟨N,hN,HN⟩:∃N,(∀W,Sem.run Tryz.prog (Go.sizeOf 103) W=.ok N W)/\Hid (N=81):=⟨81,Tryz.sizeOf103,rfl⟩
 conv=>arg 2;whnf
 have hlx:=HLX.out;have hly:=HLY.out;rw [<- HN.out] at hlx hly;have HAS:Hid (∀W',Old w2 W'->(W'.cell? ⟨w.heap.size,0,none⟩=some (.bool n)/\W'.cell? ⟨w.heap.size,1,none⟩=some (.slice c0 xs.length cap0)/\W'.cell? ⟨w.heap.size+1,0,none⟩=some (.bool m)/\W'.cell? ⟨w.heap.size+1,1,none⟩=some (.slice c1 ys.length cap1))):=fun W' g=>⟨(SA2.out.old g).c0,(SA2.out.old g).c1,(SB2.out.old g).c0,(SB2.out.old g).c1⟩
 have HLP:Hid ((pad (val (nat xs))).length=80/\(pad (val (nat ys))).length=80):=⟨Qab (k:=40) HCX.out.1 (by omega),Qab (k:=40) HCX.out.2 (by omega)⟩;have tok:True:=trivial
 go_region_held3 (fun W'=>W'.cell? ⟨w.heap.size,0,none⟩=some (.bool n)/\W'.cell? ⟨w.heap.size,1,none⟩=some (.slice c0 xs.length cap0)/\W'.cell? ⟨w.heap.size+1,0,none⟩=some (.bool m)/\W'.cell? ⟨w.heap.size+1,1,none⟩=some (.slice c1 ys.length cap1)) (first | exact HAS.out _ (by repeat' (first | exact Old.refl _ | refine Old.drw ?_ | refine Old.alloc ?_ _ | refine Old.trans ?_ H4.out | refine Old.trans ?_ H3.out | refine Old.row ?_ (by omega) _ | fail)) | fail) (first
  | (go_at_call 74;have _t:=tok;refine (Qb7 n (nat xs) _ _ (HV2.out.old (Old.trans HG2.out (by repeat' (first | exact Old.refl _ | refine Old.drw ?_ | refine Old.alloc ?_ _ | refine Old.trans ?_ H4.out | refine Old.trans ?_ H3.out | refine Old.row ?_ (by omega) _ | fail)))) HGX.out.1.1 (by have:=HGX.out.2;omega)).mono ?_;rintro e w3 ⟨rfl,g3⟩;have q3:=g3.size;(try simp at q3);have H3:Hid (Old _ w3):=g3;clear tok g3)
  | (go_at_call 74;refine (Qb7 m (nat ys) _ _ (HU2.out.old (Old.trans HG2.out (by repeat' (first | exact Old.refl _ | refine Old.drw ?_ | refine Old.alloc ?_ _ | refine Old.trans ?_ H4.out | refine Old.trans ?_ H3.out | refine Old.row ?_ (by omega) _ | fail)))) HGY.out.1.1 (by have:=HGY.out.2;omega)).mono ?_;rintro e w4 ⟨rfl,g4⟩;have q4:=g4.size;(try simp at q4);have H4:Hid (Old _ w4):=g4;clear g4)
  | (refine Qk7 (ls:=ext []) (c:=0) (by repeat' (first | with_reducible exact Sz.zero0 _ | with_reducible exact Sz.zero1 _ _ | refine Sz.drw ?_ | refine Sz.alloc ?_ _ | refine Sz.old ?_ H4.out | refine Sz.old ?_ H3.out | refine Sz.otherRow ?_ (by omega) _ | fail)) HLX.out ?_;go_simp)
  | (refine Qk7 (ls:=ext []) (c:=0) (by repeat' (first | with_reducible exact Sz.zero0 _ | with_reducible exact Sz.zero1 _ _ | refine Sz.drw ?_ | refine Sz.alloc ?_ _ | refine Sz.old ?_ H4.out | refine Sz.old ?_ H3.out | refine Sz.otherRow ?_ (by omega) _ | fail)) HLY.out ?_;go_simp) | fail)
 all_goals
  go_wp2_with fail;refine HK.out _ _ _ _ _ _ _ ⟨by repeat' (first | exact Old.refl _ | refine Old.drw ?_ | refine Old.alloc ?_ _ | refine Old.trans ?_ H4.out | refine Old.trans ?_ H3.out | refine Old.row ?_ (by omega) _ | fail),?_,?_,by omega,by omega⟩
  ·exact Sz.otherRow (Sz.row (ls:=ext []) (c:=0) (by repeat' (first | with_reducible exact Sz.zero0 _ | with_reducible exact Sz.zero1 _ _ | refine Sz.drw ?_ | refine Sz.alloc ?_ _ | refine Sz.old ?_ H4.out | refine Sz.old ?_ H3.out | refine Sz.otherRow ?_ (by omega) _ | fail)) _ _ HLP.out.1) (by omega) _
  ·exact Sz.row (ls:=ext []) (c:=0) (by repeat' (first | with_reducible exact Sz.zero0 _ | with_reducible exact Sz.zero1 _ _ | refine Sz.drw ?_ | refine Sz.alloc ?_ _ | refine Sz.old ?_ H4.out | refine Sz.old ?_ H3.out | refine Sz.otherRow ?_ (by omega) _ | fail)) _ _ HLP.out.2
theorem Qxt (n m:Bool) (xs ys:List Int) (v u:Value) (w:World) (hv:Row w v xs) (hu:Row w u ys) (la:xs.length≤1048576) (lb:ys.length≤1048576) :
  Calls Tryz.prog 110 #[.agg #[.bool n,v],.agg #[.bool m,u]] w fun e w'=>∃v',e=.returned (.tuple #[.agg #[.bool (Qt2 n m xs ys).1,v'],.bool (Qt2 n m xs ys).2.2])/\Old w w'/\Own w' w.heap.size v' (toI (Qt2 n m xs ys).2.1):=by
 have HV:=Qaa hv;have HU:=Qaa hu;obtain ⟨c0,cap0,rfl⟩:=hv.slice;obtain ⟨c1,cap1,rfl⟩:=hu.slice;clear hv hu;have HA:Hid (Old w (((w.alloc (.cells #[.bool n,.slice c0 xs.length cap0] 65)).alloc (.cells #[.bool m,.slice c1 ys.length cap1] 65)).alloc (.cells #[.bool false,.slice none 0 0] 65))):=(((Old.refl w).alloc _).alloc _).alloc _;have SA0:Hid (StW (((w.alloc (.cells #[.bool n,.slice c0 xs.length cap0] 65)).alloc (.cells #[.bool m,.slice c1 ys.length cap1] 65)).alloc (.cells #[.bool false,.slice none 0 0] 65)) w.heap.size (.bool n) (.slice c0 xs.length cap0) 65):=(StW.at1 w _ _ _ _ _ _).old ((Old.refl _).alloc _);have SB0:Hid (StW (((w.alloc (.cells #[.bool n,.slice c0 xs.length cap0] 65)).alloc (.cells #[.bool m,.slice c1 ys.length cap1] 65)).alloc (.cells #[.bool false,.slice none 0 0] 65)) (w.heap.size+1) (.bool m) (.slice c1 ys.length cap1) 65):=(StW.at2 w _ _ _ _ _ _).old ((Old.refl _).alloc _)
 have ST0:Hid (StW (((w.alloc (.cells #[.bool n,.slice c0 xs.length cap0] 65)).alloc (.cells #[.bool m,.slice c1 ys.length cap1] 65)).alloc (.cells #[.bool false,.slice none 0 0] 65)) (w.heap.size+1+1) (.bool false) (.slice none 0 0) 65):=by
  have:=StW.new ((w.alloc (.cells #[.bool n,.slice c0 xs.length cap0] 65)).alloc (.cells #[.bool m,.slice c1 ys.length cap1] 65)) (.bool false) (.slice none 0 0) 65;rw [show ((w.alloc (.cells #[.bool n,.slice c0 xs.length cap0] 65)).alloc (.cells #[.bool m,.slice c1 ys.length cap1] 65)).heap.size=w.heap.size+1+1 by simp] at this;exact this
 by_cases hga:Good n xs
 ·have cga:=fun W (h:Row W (.slice c0 xs.length cap0) xs)=>Qa8 n xs _ W h la
  rw [decide_eq_true hga] at cga
  by_cases hgb:Good m ys
  ·have cgb:=fun W (h:Row W (.slice c1 ys.length cap1) ys)=>Qa8 m ys _ W h lb
   rw [decide_eq_true hgb] at cgb;have hR2:Qt2 n m xs ys=told (sv n (nat xs)+sv m (nat ys)):=by unfold Qt2;rw [if_pos ⟨hga,hgb⟩]
   rw [hR2];obtain ⟨ex,gx,lx⟩:=Qd3 hga;obtain ⟨ey,gy,ly⟩:=Qd3 hgb;have HV2:Hid (Row w (.slice c0 xs.length cap0) (toI (nat xs))):=by rw [ex];exact HV.out
   have HU2:Hid (Row w (.slice c1 ys.length cap1) (toI (nat ys))):=by rw [ey];exact HU.out
   have HGX:Hid (Gw n (nat xs)/\(nat xs).length<=40):=⟨gx,lx⟩;have HGY:Hid (Gw m (nat ys)/\(nat ys).length<=40):=⟨gy,ly⟩;clear hga hgb ex ey gx gy lx ly hR2
   have HCX:Hid (cnt (val (nat xs))<=40/\cnt (val (nat ys))<=40):=by
    refine ⟨?_,?_⟩
    ·rw [Qc2 HGX.out.1.1];exact HGX.out.2
    ·rw [Qc2 HGY.out.1.1];exact HGY.out.2
   have HLX:Hid ((szV (val (nat xs))).size=81):=Qah (Qab (k:=40) HCX.out.1 (by omega)) _;have HLY:Hid ((szV (val (nat ys))).size=81):=Qah (Qab (k:=40) HCX.out.2 (by omega)) _;obtain ⟨N,hN,HN⟩:∃N,(∀W,Sem.run Tryz.prog (Go.sizeOf 103) W=.ok N W)/\Hid (N=81):=⟨81,Tryz.sizeOf103,rfl⟩
   obtain ⟨R,hRR⟩:∃R,told (sv n (nat xs)+sv m (nat ys))=R:=⟨_,rfl⟩
   rw [hRR];have HRR:=Qaa hRR;clear hRR;go_enter Tryz.func110,Tryz.ntmps110;go_wp2_with fail;refine (cga _ (HV.out.old HA.out)).mono ?_
   rintro e w1 ⟨rfl,g1⟩;have SA1:=Qaa (SA0.out.old g1);have SB1:=Qaa (SB0.out.old g1);have ST1:=Qaa (ST0.out.old g1);have HG1:=Qaa (Old.trans HA.out g1);have b0:=SB1.out.c0;have b1:=SB1.out.c1;clear g1 HA;go_wp2_with fail;refine (cgb _ (HU.out.old HG1.out)).mono ?_
   rintro e w2 ⟨rfl,g2⟩;clear b0 b1;have SA2:=Qaa (SA1.out.old g2);have SB2:=Qaa (SB1.out.old g2);have ST2:=Qaa (ST1.out.old g2);have HG2:=Qaa (Old.trans HG1.out g2);clear g2 SA1 SB1 ST1 HG1 cga cgb
   go_upto_region 3 with fail
   go_cut [6,7] (fun s6 s7 W=>∃p6 p7,s6=.pointer (some ⟨p6,0,none⟩)/\s7=.pointer (some ⟨p7,0,none⟩)/\Two w2 (val (nat xs)) (val (nat ys)) W p6 p7)
   case first=>
    refine Q1f n m xs ys c0 c1 cap0 cap1 w w2 HV2 HU2 HGX HGY HCX HLX HLY SA2 SB2 HG2 _ _ _ _ _ _ _ _ _ _ _ _ _ _ _ _ _ _ _ _ _ _ _ _ _ _ _ _ _ _ _ _ _ _ _ _ _ _ _ _ _ _ _ _ _ _ _ _ _ _ _ _ _ _ ?_
    intro p6 p7 W u17 u18 u19 u20 TW;go_wp2_with fail
    go_meet
    exact ⟨p6,p7,rfl,rfl,TW⟩
   case rest=>
   obtain ⟨p6,p7,rfl,rfl,TW⟩:=hcut;obtain ⟨w3,hw3⟩:∃W,W=wc:=⟨_,rfl⟩
   subst hw3;have SA3:=Qaa (SA2.out.old TW.old);have SB3:=Qaa (SB2.out.old TW.old);have ST3:=Qaa (ST2.out.old TW.old);have HG3:=Qaa (Old.trans HG2.out TW.old);have Z6:=Qaa TW.z6;have Z7:=Qaa TW.z7
   have D67:Hid (w.heap.size+1+1<p6/\w.heap.size+1+1<p7):=by
    have h1:=TW.lo6;have h2:=TW.lo7;have h3:=ST2.out.lt;exact ⟨by omega,by omega⟩
   clear TW SA2 SB2 ST2 HG2;have a0:=SA3.out.c0;have b0:=SB3.out.c0
   by_cases hnm:n=m
   ·subst hnm;have HE:=Qaa ((Qu1 n (nat xs) (nat ys)).trans HRR.out);have HCR:Hid (cnt (val (nat xs)+val (nat ys))≤80):=Nat.le_trans (Qu2 _ _ HCX.out.1 HCX.out.2) (by decide);have HAS:Hid (∀W':World,Old w3 W'→(W'.cell? ⟨w.heap.size,0,none⟩=some (.bool n)∧W'.cell? ⟨w.heap.size+1,0,none⟩=some (.bool n)∧W'.heap[p6]? = some (.cells (szV (val (nat xs))) 103 (0,0))∧W'.heap[p7]? = some (.cells (szV (val (nat ys))) 103 (0,0)))):=fun W' g=>⟨(SA3.out.old g).c0,(SB3.out.old g).c0,(Z6.out.old g).blk,(Z7.out.old g).blk⟩
    have HKS:Hid (∀(W':World) (v0 v1:Value),(W'.cell? ⟨w.heap.size,0,none⟩=some (.bool n)/\W'.cell? ⟨w.heap.size+1,0,none⟩=some (.bool n)/\W'.heap[p6]? = some (.cells (szV (val (nat xs))) 103 (0,0))/\W'.heap[p7]? = some (.cells (szV (val (nat ys))) 103 (0,0)))->((fun W':World=>W'.cell? ⟨w.heap.size,0,none⟩=some (.bool n)/\W'.cell? ⟨w.heap.size+1,0,none⟩=some (.bool n)/\W'.heap[p6]? = some (.cells (szV (val (nat xs))) 103 (0,0))/\W'.heap[p7]? = some (.cells (szV (val (nat ys))) 103 (0,0))) ((W'.setCell ⟨w.heap.size+1+1,0,none⟩ v0).setCell ⟨w.heap.size+1+1,1,none⟩ v1))):=fun W' v0 v1 h=>by
     exact ⟨(Qar _ _ _ _ (by first | (simp;done) | (simp;omega))).trans ((Qar _ _ _ _ (by first | (simp;done) | (simp;omega))).trans h.1),(Qar _ _ _ _ (by first | (simp;done) | (simp;omega))).trans ((Qar _ _ _ _ (by first | (simp;done) | (simp;omega))).trans h.2.1),(heap_setCell_other _ _ _ _ (by have:=D67.out;show p6≠w.heap.size+1+1;omega)).trans ((heap_setCell_other _ _ _ _ (by have:=D67.out;show p6≠w.heap.size+1+1;omega)).trans h.2.2.1),(heap_setCell_other _ _ _ _ (by have:=D67.out;show p7≠w.heap.size+1+1;omega)).trans ((heap_setCell_other _ _ _ _ (by have:=D67.out;show p7≠w.heap.size+1+1;omega)).trans h.2.2.2)⟩
    have hR6:∀W:World,W.heap[p6]? = some (.cells (szV (val (nat xs))) 103 (0,0))->Sem.run Tryz.prog (loadCellsFrom ⟨p6,0,none⟩ 0 N #[]) W=.ok (szV (val (nat xs))) W:=fun W h=>by rw [HN.out];exact Qac h HLX.out
    have hR7:∀W:World,W.heap[p7]? = some (.cells (szV (val (nat ys))) 103 (0,0))->Sem.run Tryz.prog (loadCellsFrom ⟨p7,0,none⟩ 0 N #[]) W=.ok (szV (val (nat ys))) W:=fun W h=>by rw [HN.out];exact Qac h HLY.out
    go_wp2_with fail
    go_region_held3 (fun W'=>W'.cell? ⟨w.heap.size,0,none⟩=some (.bool n)/\W'.cell? ⟨w.heap.size+1,0,none⟩=some (.bool n)/\W'.heap[p6]? = some (.cells (szV (val (nat xs))) 103 (0,0))/\W'.heap[p7]? = some (.cells (szV (val (nat ys))) 103 (0,0))) (first | exact HKS.out _ _ _ (HAS.out _ G6.out) | exact HAS.out _ G6.out | exact HAS.out _ G5.out | exact HAS.out _ (Below.drew (Old.refl w3)) | exact HAS.out _ (Old.refl w3)) (first
     | (go_at_call 124;refine (Qtw (val (nat xs)) (val (nat ys)) _ (by have:=HCX.out.1;omega) (by have:=HCX.out.2;omega)).mono ?_;rintro e w5 ⟨rfl,g5⟩;have G5:=Qaa (Old.trans ((Old.refl _).drewN 1) g5);clear g5)
     | (go_at_call 106;refine (Qev n (val (nat xs)+val (nat ys)) _ HCR.out).mono ?_;rw [HE.out];rintro e w6 ⟨v6,rfl,g6,o6⟩;obtain ⟨a6,cap6,rfl⟩:=(Own.row o6).sliceN;have G6:=Qaa (Old.trans G5.out g6);have S6:=Qaa (ST3.out.old G6.out);have HO6:Hid (Own w6 (w.heap.size+1+1+1) (.slice a6 R.2.1.length cap6) (toI R.2.1)):=Own.low o6 (by have:=(ST3.out.old G5.out).lt;omega);have s0:=S6.out.c0;have s1:=S6.out.c1;have f0:=S6.out.f0;have f1:=S6.out.f1;clear g6 o6))
    all_goals
     go_wp2_with fail;refine bodyPost_ret (v:=.tuple #[.agg #[.bool R.1,.slice a6 R.2.1.length cap6],.bool R.2.2]) (by simp [results,Tryz.results110,go_sem,s0,s1]) rfl ⟨_,rfl,?_,?_⟩
     ·exact ((Old.trans HG3.out G6.out).own (p:=⟨w.heap.size+1+1,0,none⟩) (by simp;omega) _).own (p:=⟨w.heap.size+1+1,1,none⟩) (by simp;omega) _
     ·refine Own.low (base:=w.heap.size+1+1+1) (ownsRow_setCell_other (ownsRow_setCell_other HO6.out (fun e=>?_) _) (fun e=>?_) _) (by omega)
      ·have:=(HO6.out.lt (w.heap.size+1+1) e).1;omega
      ·have:=(HO6.out.lt (w.heap.size+1+1) e).1;omega
   ·have dnm:(n==m)=false:=by simp [hnm]
    have z6:=Z6.out.blk;have z7:=Z7.out.blk;have hR6:∀W:World,W.heap[p6]? = some (.cells (szV (val (nat xs))) 103 (0,0))->Sem.run Tryz.prog (loadCellsFrom ⟨p6,0,none⟩ 0 N #[]) W=.ok (szV (val (nat xs))) W:=fun W h=>by rw [HN.out];exact Qac h HLX.out
    have hR7:∀W:World,W.heap[p7]? = some (.cells (szV (val (nat ys))) 103 (0,0))->Sem.run Tryz.prog (loadCellsFrom ⟨p7,0,none⟩ 0 N #[]) W=.ok (szV (val (nat ys))) W:=fun W h=>by rw [HN.out];exact Qac h HLY.out
    change w3.heap[p6]? = some (.cells (szV (val (nat xs))) 103 (0,0)) at z6
    change w3.heap[p7]? = some (.cells (szV (val (nat ys))) 103 (0,0)) at z7
    by_cases hlt:val (nat xs)<val (nat ys)
    ·have HCM:Hid (Qb3 (val (nat xs)) (val (nat ys)) = -1):=by show Qb3 _ _ = -1;unfold Qb3;rw [if_pos hlt]
     have HE:=Qaa ((Qu3 n m (nat xs) (nat ys) hnm hlt).trans HRR.out);have HCR:Hid (cnt (val (nat ys) - val (nat xs))<=80):=Nat.le_trans (cnt_mono (Nat.sub_le _ _)) (Nat.le_trans HCX.out.2 (by decide));have HLE:=Qaa (Nat.le_of_lt hlt);go_wp2_with fail;refine (Qgs (val (nat xs)) (val (nat ys)) _ (by have:=HCX.out.1;omega) (by have:=HCX.out.2;omega)).mono ?_
     rw [HCM.out];rintro e w4 ⟨rfl,g4⟩;have SA4:=Qaa (SA3.out.old g4);have SB4:=Qaa (SB3.out.old g4);have ST4:=Qaa (ST3.out.old g4);have HG4:=Qaa (Old.trans HG3.out g4);have Z6b:=Qaa (Z6.out.old g4);have Z7b:=Qaa (Z7.out.old g4);clear g4 a0 b0 z6 z7 hR6 hR7 SA3 SB3 ST3 HG3 Z6 Z7 hlt;have HAS:Hid (∀W':World,Old w4 W'->(W'.cell? ⟨w.heap.size,0,none⟩=some (.bool n)/\W'.cell? ⟨w.heap.size+1,0,none⟩=some (.bool m)/\W'.heap[p6]? = some (.cells (szV (val (nat xs))) 103 (0,0))/\W'.heap[p7]? = some (.cells (szV (val (nat ys))) 103 (0,0)))):=fun W' g=>⟨(SA4.out.old g).c0,(SB4.out.old g).c0,(Z6b.out.old g).blk,(Z7b.out.old g).blk⟩
     have HKS:Hid (∀(W':World) (v0 v1:Value),(W'.cell? ⟨w.heap.size,0,none⟩=some (.bool n)/\W'.cell? ⟨w.heap.size+1,0,none⟩=some (.bool m)/\W'.heap[p6]? = some (.cells (szV (val (nat xs))) 103 (0,0))/\W'.heap[p7]? = some (.cells (szV (val (nat ys))) 103 (0,0)))->((fun W':World=>W'.cell? ⟨w.heap.size,0,none⟩=some (.bool n)/\W'.cell? ⟨w.heap.size+1,0,none⟩=some (.bool m)/\W'.heap[p6]? = some (.cells (szV (val (nat xs))) 103 (0,0))/\W'.heap[p7]? = some (.cells (szV (val (nat ys))) 103 (0,0))) ((W'.setCell ⟨w.heap.size+1+1,0,none⟩ v0).setCell ⟨w.heap.size+1+1,1,none⟩ v1))):=fun W' v0 v1 h=>by
      exact ⟨(Qar _ _ _ _ (by first | (simp;done) | (simp;omega))).trans ((Qar _ _ _ _ (by first | (simp;done) | (simp;omega))).trans h.1),(Qar _ _ _ _ (by first | (simp;done) | (simp;omega))).trans ((Qar _ _ _ _ (by first | (simp;done) | (simp;omega))).trans h.2.1),(heap_setCell_other _ _ _ _ (by have:=D67.out;show p6≠w.heap.size+1+1;omega)).trans ((heap_setCell_other _ _ _ _ (by have:=D67.out;show p6≠w.heap.size+1+1;omega)).trans h.2.2.1),(heap_setCell_other _ _ _ _ (by have:=D67.out;show p7≠w.heap.size+1+1;omega)).trans ((heap_setCell_other _ _ _ _ (by have:=D67.out;show p7≠w.heap.size+1+1;omega)).trans h.2.2.2)⟩
     have hR6:∀W:World,W.heap[p6]? = some (.cells (szV (val (nat xs))) 103 (0,0))->Sem.run Tryz.prog (loadCellsFrom ⟨p6,0,none⟩ 0 N #[]) W=.ok (szV (val (nat xs))) W:=fun W h=>by rw [HN.out];exact Qac h HLX.out
     have hR7:∀W:World,W.heap[p7]? = some (.cells (szV (val (nat ys))) 103 (0,0))->Sem.run Tryz.prog (loadCellsFrom ⟨p7,0,none⟩ 0 N #[]) W=.ok (szV (val (nat ys))) W:=fun W h=>by rw [HN.out];exact Qac h HLY.out
     go_wp2_with fail
     go_region_held3 (fun W'=>W'.cell? ⟨w.heap.size,0,none⟩=some (.bool n)/\W'.cell? ⟨w.heap.size+1,0,none⟩=some (.bool m)/\W'.heap[p6]? = some (.cells (szV (val (nat xs))) 103 (0,0))/\W'.heap[p7]? = some (.cells (szV (val (nat ys))) 103 (0,0))) (first | exact HKS.out _ _ _ (HAS.out _ G6.out) | exact HAS.out _ G6.out | exact HAS.out _ G5.out | exact HAS.out _ (Below.drew (Old.refl w4)) | exact HAS.out _ (Old.refl w4)) (first
      | (go_at_call 119;refine (Qke (val (nat ys)) (val (nat xs)) _ HLE.out (by have:=HCX.out.2;omega)).mono ?_;rintro e w5 ⟨rfl,g5⟩;have G5:=Qaa (Old.trans ((Old.refl _).drewN 1) g5);clear g5)
      | (go_at_call 106;refine (Qev m (val (nat ys) - val (nat xs)) _ HCR.out).mono ?_;rw [HE.out];rintro e w6 ⟨v6,rfl,g6,o6⟩;obtain ⟨a6,cap6,rfl⟩:=(Own.row o6).sliceN;have G6:=Qaa (Old.trans G5.out g6);have S6:=Qaa (ST4.out.old G6.out);have HO6:Hid (Own w6 (w.heap.size+1+1+1) (.slice a6 R.2.1.length cap6) (toI R.2.1)):=Own.low o6 (by have:=(ST4.out.old G5.out).lt;omega);have s0:=S6.out.c0;have s1:=S6.out.c1;have f0:=S6.out.f0;have f1:=S6.out.f1;clear g6 o6))
     all_goals
      go_wp2_with fail;refine bodyPost_ret (v:=.tuple #[.agg #[.bool R.1,.slice a6 R.2.1.length cap6],.bool R.2.2]) (by simp [results,Tryz.results110,go_sem,s0,s1]) rfl ⟨_,rfl,?_,?_⟩
      ·exact ((Old.trans HG4.out G6.out).own (p:=⟨w.heap.size+1+1,0,none⟩) (by simp;omega) _).own (p:=⟨w.heap.size+1+1,1,none⟩) (by simp;omega) _
      ·refine Own.low (base:=w.heap.size+1+1+1) (ownsRow_setCell_other (ownsRow_setCell_other HO6.out (fun e=>?_) _) (fun e=>?_) _) (by omega)
       ·have:=(HO6.out.lt (w.heap.size+1+1) e).1;omega
       ·have:=(HO6.out.lt (w.heap.size+1+1) e).1;omega
    ·have HCM:Hid (∃k:Nat,Qb3 (val (nat xs)) (val (nat ys))=(k:Int)):=by
      unfold Qb3;rw [if_neg hlt]
      by_cases h2:val (nat ys)<val (nat xs)
      ·rw [if_pos h2];exact ⟨1,rfl⟩
      ·rw [if_neg h2];exact ⟨0,rfl⟩
     have HE:=Qaa ((Qu4 n m (nat xs) (nat ys) hnm (by omega)).trans HRR.out);have HCR:Hid (cnt (val (nat xs) - val (nat ys))<=80):=Nat.le_trans (cnt_mono (Nat.sub_le _ _)) (Nat.le_trans HCX.out.1 (by decide));have HLE:=Qaa (Nat.le_of_not_lt hlt);go_wp2_with fail;refine (Qgs (val (nat xs)) (val (nat ys)) _ (by have:=HCX.out.1;omega) (by have:=HCX.out.2;omega)).mono ?_
     obtain ⟨kc,hkc⟩:=HCM.out;rw [hkc];have dkc:decide ((kc:Int)<0)=false:=decide_eq_false (by omega);clear hkc;rintro e w4 ⟨rfl,g4⟩;have SA4:=Qaa (SA3.out.old g4);have SB4:=Qaa (SB3.out.old g4);have ST4:=Qaa (ST3.out.old g4);have HG4:=Qaa (Old.trans HG3.out g4);have Z6b:=Qaa (Z6.out.old g4);have Z7b:=Qaa (Z7.out.old g4);clear g4 a0 b0 z6 z7 hR6 hR7 SA3 SB3 ST3 HG3 Z6 Z7 hlt;have HAS:Hid (∀W':World,Old w4 W'->(W'.cell? ⟨w.heap.size,0,none⟩=some (.bool n)/\W'.cell? ⟨w.heap.size+1,0,none⟩=some (.bool m)/\W'.heap[p6]? = some (.cells (szV (val (nat xs))) 103 (0,0))/\W'.heap[p7]? = some (.cells (szV (val (nat ys))) 103 (0,0)))):=fun W' g=>⟨(SA4.out.old g).c0,(SB4.out.old g).c0,(Z6b.out.old g).blk,(Z7b.out.old g).blk⟩
     have HKS:Hid (∀(W':World) (v0 v1:Value),(W'.cell? ⟨w.heap.size,0,none⟩=some (.bool n)/\W'.cell? ⟨w.heap.size+1,0,none⟩=some (.bool m)/\W'.heap[p6]? = some (.cells (szV (val (nat xs))) 103 (0,0))/\W'.heap[p7]? = some (.cells (szV (val (nat ys))) 103 (0,0)))->((fun W':World=>W'.cell? ⟨w.heap.size,0,none⟩=some (.bool n)/\W'.cell? ⟨w.heap.size+1,0,none⟩=some (.bool m)/\W'.heap[p6]? = some (.cells (szV (val (nat xs))) 103 (0,0))/\W'.heap[p7]? = some (.cells (szV (val (nat ys))) 103 (0,0))) ((W'.setCell ⟨w.heap.size+1+1,0,none⟩ v0).setCell ⟨w.heap.size+1+1,1,none⟩ v1))):=fun W' v0 v1 h=>by
      exact ⟨(Qar _ _ _ _ (by first | (simp;done) | (simp;omega))).trans ((Qar _ _ _ _ (by first | (simp;done) | (simp;omega))).trans h.1),(Qar _ _ _ _ (by first | (simp;done) | (simp;omega))).trans ((Qar _ _ _ _ (by first | (simp;done) | (simp;omega))).trans h.2.1),(heap_setCell_other _ _ _ _ (by have:=D67.out;show p6≠w.heap.size+1+1;omega)).trans ((heap_setCell_other _ _ _ _ (by have:=D67.out;show p6≠w.heap.size+1+1;omega)).trans h.2.2.1),(heap_setCell_other _ _ _ _ (by have:=D67.out;show p7≠w.heap.size+1+1;omega)).trans ((heap_setCell_other _ _ _ _ (by have:=D67.out;show p7≠w.heap.size+1+1;omega)).trans h.2.2.2)⟩
     have hR6:∀W:World,W.heap[p6]? = some (.cells (szV (val (nat xs))) 103 (0,0))->Sem.run Tryz.prog (loadCellsFrom ⟨p6,0,none⟩ 0 N #[]) W=.ok (szV (val (nat xs))) W:=fun W h=>by rw [HN.out];exact Qac h HLX.out
     have hR7:∀W:World,W.heap[p7]? = some (.cells (szV (val (nat ys))) 103 (0,0))->Sem.run Tryz.prog (loadCellsFrom ⟨p7,0,none⟩ 0 N #[]) W=.ok (szV (val (nat ys))) W:=fun W h=>by rw [HN.out];exact Qac h HLY.out
     go_wp2_with fail
     go_region_held3 (fun W'=>W'.cell? ⟨w.heap.size,0,none⟩=some (.bool n)/\W'.cell? ⟨w.heap.size+1,0,none⟩=some (.bool m)/\W'.heap[p6]? = some (.cells (szV (val (nat xs))) 103 (0,0))/\W'.heap[p7]? = some (.cells (szV (val (nat ys))) 103 (0,0))) (first | exact HKS.out _ _ _ (HAS.out _ G6.out) | exact HAS.out _ G6.out | exact HAS.out _ G5.out | exact HAS.out _ (Below.drew (Old.refl w4)) | exact HAS.out _ (Old.refl w4)) (first
      | (go_at_call 119;refine (Qke (val (nat xs)) (val (nat ys)) _ HLE.out (by have:=HCX.out.1;omega)).mono ?_;rintro e w5 ⟨rfl,g5⟩;have G5:=Qaa (Old.trans ((Old.refl _).drewN 1) g5);clear g5)
      | (go_at_call 106;refine (Qev n (val (nat xs) - val (nat ys)) _ HCR.out).mono ?_;rw [HE.out];rintro e w6 ⟨v6,rfl,g6,o6⟩;obtain ⟨a6,cap6,rfl⟩:=(Own.row o6).sliceN;have G6:=Qaa (Old.trans G5.out g6);have S6:=Qaa (ST4.out.old G6.out);have HO6:Hid (Own w6 (w.heap.size+1+1+1) (.slice a6 R.2.1.length cap6) (toI R.2.1)):=Own.low o6 (by have:=(ST4.out.old G5.out).lt;omega);have s0:=S6.out.c0;have s1:=S6.out.c1;have f0:=S6.out.f0;have f1:=S6.out.f1;clear g6 o6))
     all_goals
      go_wp2_with fail;refine bodyPost_ret (v:=.tuple #[.agg #[.bool R.1,.slice a6 R.2.1.length cap6],.bool R.2.2]) (by simp [results,Tryz.results110,go_sem,s0,s1]) rfl ⟨_,rfl,?_,?_⟩
      ·exact ((Old.trans HG4.out G6.out).own (p:=⟨w.heap.size+1+1,0,none⟩) (by simp;omega) _).own (p:=⟨w.heap.size+1+1,1,none⟩) (by simp;omega) _
      ·refine Own.low (base:=w.heap.size+1+1+1) (ownsRow_setCell_other (ownsRow_setCell_other HO6.out (fun e=>?_) _) (fun e=>?_) _) (by omega)
       ·have:=(HO6.out.lt (w.heap.size+1+1) e).1;omega
       ·have:=(HO6.out.lt (w.heap.size+1+1) e).1;omega
  ·have hR2:Qt2 n m xs ys=nought:=by unfold Qt2;rw [if_neg (fun h=>hgb h.2)]
   rw [hR2];unfold nought;have cgb:=fun W (h:Row W (.slice c1 ys.length cap1) ys)=>Qa8 m ys _ W h lb
   rw [decide_eq_false hgb] at cgb;clear hga hgb hR2;go_enter Tryz.func110,Tryz.ntmps110;go_wp2_with fail;refine (cga _ (HV.out.old (HA.out))).mono ?_
   rintro e w1 ⟨rfl,g1⟩;have SB1:=Qaa (SB0.out.old g1);have HG1:=Qaa (Old.trans HA.out g1);have b0:=SB1.out.c0;have b1:=SB1.out.c1;have ST1:=Qaa (ST0.out.old g1)
   skip
   clear g1 HA;go_wp2_with fail;refine (cgb _ (HU.out.old HG1.out)).mono ?_
   rintro e w2 ⟨rfl,g2⟩;have HG2:=Qaa (Old.trans HG1.out g2);have ST2:=Qaa (ST1.out.old g2);have t0:=ST2.out.c0;have t1:=ST2.out.c1;have tf0:=ST2.out.f0;have tf1:=ST2.out.f1;clear g2;go_wp2_with fail;refine bodyPost_ret (v:=.tuple #[.agg #[.bool false,.slice none 0 0],.bool false]) (by simp [results,Tryz.results110,go_sem,t0,t1]) rfl ⟨_,rfl,?_,rfl,Or.inl ⟨rfl,rfl⟩⟩;exact (HG2.out.own (p:=⟨w.heap.size+1+1,0,none⟩) (by simp;omega) _).own (p:=⟨w.heap.size+1+1,1,none⟩) (by simp;omega) _
 ·have hR2:Qt2 n m xs ys=nought:=by unfold Qt2;rw [if_neg (fun h=>hga h.1)]
  rw [hR2];unfold nought;have cga:=fun W (h:Row W (.slice c0 xs.length cap0) xs)=>Qa8 n xs _ W h la
  rw [decide_eq_false hga] at cga;clear hga hR2;go_enter Tryz.func110,Tryz.ntmps110;go_wp2_with fail;refine (cga _ (HV.out.old HA.out)).mono ?_
  rintro e w1 ⟨rfl,g1⟩;have HG1:=Qaa (Old.trans HA.out g1);have ST1:=Qaa (ST0.out.old g1);have t0:=ST1.out.c0;have t1:=ST1.out.c1;have tf0:=ST1.out.f0;have tf1:=ST1.out.f1;clear g1;go_wp2_with fail;refine bodyPost_ret (v:=.tuple #[.agg #[.bool false,.slice none 0 0],.bool false]) (by simp [results,Tryz.results110,go_sem,t0,t1]) rfl ⟨_,rfl,?_,rfl,Or.inl ⟨rfl,rfl⟩⟩;exact (HG1.out.own (p:=⟨w.heap.size+1+1,0,none⟩) (by simp;omega) _).own (p:=⟨w.heap.size+1+1,1,none⟩) (by simp;omega) _
end Go.Proofs.YthcidnnkakppcaaGreatDoor
