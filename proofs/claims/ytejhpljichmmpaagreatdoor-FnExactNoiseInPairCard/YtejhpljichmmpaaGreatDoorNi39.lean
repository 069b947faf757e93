/- Proved: what its theorems say. -/
import Derived.Test.YtejhpljichmmpaaGreatDoorNi38
import Derived.Test.YtejhpljichmmpaaGreatDoorNi40
set_option linter.unusedVariables false
set_option linter.unusedSimpArgs false
set_option maxHeartbeats 8000000
set_option maxRecDepth 100000
namespace Go.Proofs.YtejhpljichmmpaaGreatDoor
open Go.ChangeShapes Go.WideShapes Go.ChangeAt Go.RowKit
open M2
theorem Qv5 (b:Nat) (x:Int) (w:World) (hc:w.cell? ⟨b,0,none⟩=some (.int .i64 x)) :
 Calls Tryz.prog 119 #[.pointer (some ⟨b,0,none⟩)] w fun e w'=>e=.returned (.int .i64 x)/\w'=w:=by
 have hl:=run_call_load (P:=Tryz.prog) Tryz.func171 (by kernel_rfl) (by kernel_rfl) (by kernel_rfl) .i64 (by kernel_rfl) hc;go_enter Tryz.func119,Tryz.ntmps119;go_wp2_with fail;go_ret;exact ⟨rfl,rfl⟩
theorem Qyl (b:Nat) (x:Int) (u:Value) (w:World) (hc:w.cell? ⟨b,0,none⟩=some u) (hz:w.frozen? ⟨b,0,none⟩=false) :
 Calls Tryz.prog 120 #[.pointer (some ⟨b,0,none⟩),.int .i64 x] w fun e w'=>(∃v,e=.returned v)/\w'=w.setCell ⟨b,0,none⟩ (.int .i64 x):=by
 have hl:=run_call_store (P:=Tryz.prog) Tryz.func172 (by kernel_rfl) (by kernel_rfl) (by kernel_rfl) (by kernel_rfl) (k:=.i64) (y:=x) hc hz;go_enter Tryz.func120,Tryz.ntmps120;go_wp2_with fail
 go_end0
 exact ⟨⟨_,rfl⟩,rfl⟩
theorem Qns {w:World} {k:Nat} {x y:Value} {t:TypeId} (h:Bk w k #[x,y] t) (x':Value):Bk (w.setCell ⟨k,0,none⟩ x') k #[x',y] t:=heap_setCell_same w k 0 _ _ x' h
theorem Qde {w:World} {k:Nat} {x y:Value} {t:TypeId} (h:Bk w k #[x,y] t) (x' y':Value):Bk ((w.setCell ⟨k,0,none⟩ x').setCell ⟨k,1,none⟩ y') k #[x',y'] t:=heap_setCell_same _ k 1 _ _ y' (Qns h x')
theorem Qfg {W:World} {lo g j:Nat} {v:Value} {xs:List Int} {cs:Array Value} (h:Own W lo v xs) (hg:Bk W g cs 31) (y:Value):Own (W.setCell ⟨g,j,none⟩ y) lo v xs:=by
 refine ⟨h.1,?_⟩;rcases h.2 with hn | ⟨p,cap,cur,rfl,hb,hgg,rest⟩
 ·exact .inl hn
 ·refine .inr ⟨p,cap,cur,rfl,hb,?_,rest⟩
  have hne:p≠g:=fun e=>by
   have hg':W.heap[g]? = some (.cells cs 31 (0,0)):=hg
   rw [e,hg'] at hgg;simp at hgg
  rw [heap_setCell_other W ⟨g,j,none⟩ p _ hne];exact hgg
def grN (f:Nat->Nat):Nat->Nat
 | 0=>0
 | k+1=>max (grN f k) (f k)
theorem Qv6 (f:Nat->Nat) (B:Nat):∀n,(∀k,k<n->f k<=B)->grN f n<=B
 | 0,_=>Nat.zero_le _
 | n+1,h=>by
   have h1:=Qv6 f B n (fun k hk=>h k (by omega));have h2:=h n (by omega);unfold grN;omega
theorem Qgt {a b:Nat}:(0<Qby a b)↔b<a:=by
 unfold Qby;split
 ·constructor <;> intro h <;> omega
 ·split
  ·constructor <;> intro h <;> omega
  ·constructor <;> intro h <;> omega
theorem Qym (z:Int):val (dg z)=z.natAbs:=Qai _
theorem Qqe (Nn:Nat) (ps:List Int) (zss:List (List Int)) (base:Nat) (v:Value) (w:World) (hN:1<=Nn/\Nn<=16) (hG:Gr Nn ps zss) (h:WsX Nn ps zss base w v) :
 Calls Tryz.prog 59 #[v] w fun e w'=>∃v',e=.returned (.agg #[.bool false,v'])/\Old w w'/\Own w' w.heap.size v' (toI (dig (grN (fun k=>(ctZ ps zss k).natAbs) Nn))):=by
 obtain ⟨b,cap,rfl,hb,hc⟩:=h.at (by omega) hG
 have HC:Hid (∀k,k<Nn->∃a c,w.cell? ⟨b,k*2,none⟩=some (.bool (ng (ctZ ps zss k)))/\w.cell? ⟨b,k*2+1,none⟩=some (.slice a (dg (ctZ ps zss k)).length c)/\∀W,Old w W->Calls Tryz.prog 118 #[.agg #[.bool (ng (ctZ ps zss k)),.slice a (dg (ctZ ps zss k)).length c]] W fun e w'=>e=.returned (.agg (szV (ctZ ps zss k).natAbs))/\Old W w'):=fun k hk=>by
  obtain ⟨a,c,q0,q1,r⟩:=hc k hk;refine ⟨a,c,q0,q1,fun W g=>?_⟩;have:=Qrw (ng (ctZ ps zss k)) (dg (ctZ ps zss k)) _ W (r.old g) (Qwk _).1 (by have:=Ql4 hG k hk;omega);rw [Qym] at this;exact this
 have HB:Hid (∀k,k<Nn->cnt (ctZ ps zss k).natAbs<=7):=fun k hk=>Ql4 hG k hk
 have HN:=Qag hN;have hNN:Nn<=16:=hN.2;clear hc h hG hN;obtain ⟨f,hf⟩:∃f:Nat->Nat,(fun k=>(ctZ ps zss k).natAbs)=f:=⟨_,rfl⟩
 have hf':∀k,(ctZ ps zss k).natAbs=f k:=fun k=>by rw [<- hf]
 rw [hf];simp only [hf'] at HC HB;clear hf hf';obtain ⟨B1,hB1⟩:∃B:World,(w.alloc (.cells #[.bool false,.slice none 0 0] 31)).alloc (.cells #[.int .i64 0] 180)=B:=⟨_,rfl⟩
 have O1:Hid (Old w B1):=by rw [<- hB1];exact ((Old.refl w).alloc _).alloc _
 have R1:Hid (Bk B1 w.heap.size #[.bool false,.slice none 0 0] 31):=by rw [<- hB1];exact (Bk.new' w _ _ rfl).alloc _
 have A1:Hid (Bk B1 (w.heap.size+1) #[.int .i64 0] 180):=by rw [<- hB1];exact Bk.new' _ _ _ (by simp)
 obtain ⟨kr,hkr⟩:∃kr,w.heap.size=kr:=⟨_,rfl⟩
 have HKR:=Qag hkr;rw [hkr] at R1 A1;have hbk:b<kr:=by omega
 go_enter Tryz.func59,Tryz.ntmps59;go_wp2_with fail
 go_loopw [8,4,5] (fun i _ _ W=>∃(k p:Nat),k<=Nn/\i=.int .i64 k/\Hid (p<Nn/\(k=0->p=0)/\(0<k->f p=grN f k))/\Hid (Old w W)/\Hid (Bk W kr #[.bool false,.slice none 0 0] 31)/\Hid (Bk W (kr+1) #[.int .i64 p] 180)) (fun i _ _ _=>Nn - (intOf i).toNat)
 case atStart=>exact ⟨0,0,by omega,rfl,⟨by have:=HN.out;omega,fun _=>rfl,fun h=>by omega⟩,O1,R1,A1⟩
 case round=>
  obtain ⟨k,p,hk,rfl,HP,HG,R2,A2⟩:=hrel;clear O1 R1 A1
  by_cases hlt:k<Nn
  ·have d1:decide ((k:Int)<(Nn:Int))=true:=decide_eq_true (by omega);have iL:(k:Int)<(Nn:Int):=by omega
   have pL:(p:Int)<(Nn:Int):=by have:=HP.out;omega
   obtain ⟨a1,c1,q0,q1,K1⟩:=HC.out k hlt;obtain ⟨a2,c2,q2,q3,K2⟩:=HC.out p HP.out.1;have hcm:=Qi0 (f k) (f p);have hbk1:=HB.out k hlt;have hbk2:=HB.out p HP.out.1;have K3:=Qag (fun W=>hcm W (by omega) (by omega));have q0':=(HG.out.cell (p:=⟨b,k*2,none⟩) (by omega)).trans q0;have q1':=(HG.out.cell (p:=⟨b,k*2+1,none⟩) (by omega)).trans q1;generalize hz1:ctZ ps zss k=z1 at *;generalize hz2:ctZ ps zss p=z2 at *;have HK1:=Qag K1;have HK2:=Qag K2;obtain ⟨n1,hn1⟩:∃n,ng z1=n:=⟨_,rfl⟩
   obtain ⟨l1,hl1⟩:∃n,(dg z1).length=n:=⟨_,rfl⟩
   obtain ⟨n2,hn2⟩:∃n,ng z2=n:=⟨_,rfl⟩
   obtain ⟨l2,hl2⟩:∃n,(dg z2).length=n:=⟨_,rfl⟩
   rw [hn1] at q0' HK1;rw [hl1] at q1' HK1;rw [hn2] at q2 HK2;rw [hl2] at q3 HK2;have HQ2:=Qag q2;have HQ3:=Qag q3;obtain ⟨B8,hB8⟩:∃B:World,wr.alloc (.cells #[.bool n1,.slice a1 l1 c1] 31)=B:=⟨_,rfl⟩
   have O8:Old wr B8:=by rw [<- hB8];exact (Old.refl wr).alloc _
   have Y8:Hid (Bk B8 wr.heap.size #[.bool n1,.slice a1 l1 c1] 31):=by rw [<- hB8];exact Bk.new' wr _ _ rfl
   have G8:=Qag (Old.trans HG.out O8);have R8:=Qag (R2.out.old O8);have A8:=Qag (A2.out.old O8);obtain ⟨wb,hwb⟩:∃wb,wr.heap.size=wb:=⟨_,rfl⟩
   rw [hwb] at Y8;have y0:=Y8.out.c (i:=0) rfl;have y1:=Y8.out.c (i:=1) rfl;clear q0 q1 q2 q3 K1 K2 hcm O8 hz1 hz2 hn1 hl1 hn2 hl2 HG R2 A2 hbk1 hbk2;go_wp2_with fail;refine (HK1.out _ G8.out).mono ?_
   rintro e w3 ⟨rfl,g3⟩;have G3:=Qag (Old.trans G8.out g3);have R3:=Qag (R8.out.old g3);have A3:=Qag (A8.out.old g3);have c3:=A3.out.c (i:=0) rfl;have KL:=Qag (Qv5 (kr+1) p w3 c3);have r2:=(G3.out.cell (p:=⟨b,p*2,none⟩) (by have:=HKR.out;show b<_;omega)).trans HQ2.out;have r3:=(G3.out.cell (p:=⟨b,p*2+1,none⟩) (by have:=HKR.out;show b<_;omega)).trans HQ3.out;clear g3 y0 y1 Y8 hB8 hwb q0' q1' c3 R8 A8 G8 HK1;go_wp2_with fail;refine KL.out.mono ?_
   rintro e w3' ⟨rfl,hw⟩;obtain rfl:w3=w3':=hw.symm;clear hw KL;go_wp2_with fail;refine (HK2.out _ G3.out).mono ?_
   rintro e w4 ⟨rfl,g4⟩;have G4:=Qag (Old.trans G3.out g4);have R4:=Qag (R3.out.old g4);have A4:=Qag (A3.out.old g4);clear g4 r2 r3 G3 R3 A3 HK2;go_wp2_with fail;refine (K3.out _).mono ?_
   rintro e w5 ⟨rfl,g5⟩;have G5:=Qag (Old.trans G4.out g5);have R5:=Qag (R4.out.old g5);have A5:=Qag (A4.out.old g5);clear g5 G4 R4 A4 K3
   by_cases hgt:f p<f k
   ·have hc0:=Qgt.2 hgt
    have HNP:Hid (k<Nn/\(k+1=0->k=0)/\(0<k+1->f k=grN f (k+1))):=⟨hlt,fun h=>by omega,fun _=>by
     unfold grN;obtain ⟨h1,h2,h3⟩:=HP.out;rcases Nat.eq_zero_or_pos k with h0 | h0
     ·subst h0;unfold grN;omega
     ·have:=h3 h0;omega⟩
    generalize Qby (f k) (f p)=cm at *;have d5:decide (0<cm)=true:=decide_eq_true hc0;have c5:=A5.out.c (i:=0) rfl;have f5:w5.frozen? ⟨kr+1,0,none⟩=false:=frozen_of_row _ _ _ _ _ A5.out
    have KS:=Qag (Qyl (kr+1) k _ w5 c5 f5);clear HP hc0 hgt;go_wp2_with fail;refine KS.out.mono ?_
    rintro e w6 ⟨⟨v6,rfl⟩,rfl⟩;have G6:Hid (Old w (w5.setCell ⟨kr+1,0,none⟩ (.int .i64 k))):=G5.out.own (p:=⟨kr+1,0,none⟩) (by have:=HKR.out;show w.heap.size<=kr+1;omega) _;have R6:Hid (Bk (w5.setCell ⟨kr+1,0,none⟩ (.int .i64 k)) kr #[.bool false,.slice none 0 0] 31):=(heap_setCell_other w5 ⟨kr+1,0,none⟩ kr _ (by show kr≠kr+1;omega)).trans R5.out;have A6:Hid (Bk (w5.setCell ⟨kr+1,0,none⟩ (.int .i64 k)) (kr+1) #[.int .i64 k] 180):=heap_setCell_same w5 (kr+1) 0 _ _ _ A5.out;generalize w5.setCell ⟨kr+1,0,none⟩ (.int .i64 (k:Int))=w7 at *;clear KS c5 f5 R5 A5 G5;go_wp2_with fail;exact ⟨⟨k+1,k,by omega,by go_num,HNP,G6,R6,A6⟩,by simp [intOf];omega⟩
   ·have hc0:¬0<Qby (f k) (f p):=fun h=>hgt (Qgt.1 h)
    have HNP:Hid (p<Nn/\(k+1=0->p=0)/\(0<k+1->f p=grN f (k+1))):=⟨HP.out.1,fun h=>by omega,fun _=>by
     unfold grN;obtain ⟨h1,h2,h3⟩:=HP.out;rcases Nat.eq_zero_or_pos k with h0 | h0
     ·have:=h2 h0;subst h0;subst this;unfold grN;omega
     ·have:=h3 h0;omega⟩
    generalize Qby (f k) (f p)=cm at *;have d5:decide (0<cm)=false:=decide_eq_false hc0;clear HP hc0 hgt;go_wp2_with fail;exact ⟨⟨k+1,p,by omega,by go_num,HNP,G5,R5,A5⟩,by simp [intOf];omega⟩
  ·have d1:decide ((k:Int)<(Nn:Int))=false:=decide_eq_false (by omega);obtain rfl:k=Nn:=by omega
   have pL:(p:Int)<(k:Int):=by have:=HP.out;omega
   obtain ⟨a2,c2,q2,q3,K2⟩:=HC.out p HP.out.1;have hbk2:=HB.out p HP.out.1;have HE:=Qag (HP.out.2.2 (by have:=HN.out;omega));have K4:=Qag (fun W=>Qnc (f p) W (by omega));have q2':=(HG.out.cell (p:=⟨b,p*2,none⟩) (by omega)).trans q2;have q3':=(HG.out.cell (p:=⟨b,p*2+1,none⟩) (by omega)).trans q3;generalize hz2:ctZ ps zss p=z2 at *;have HK2:=Qag K2;obtain ⟨n2,hn2⟩:∃n,ng z2=n:=⟨_,rfl⟩
   obtain ⟨l2,hl2⟩:∃n,(dg z2).length=n:=⟨_,rfl⟩
   rw [hn2] at q2' HK2;rw [hl2] at q3' HK2;have c3:=A2.out.c (i:=0) rfl;have KL:=Qag (Qv5 (kr+1) p wr c3);clear q2 q3 K2 hz2 hn2 hl2 hbk2 c3 HP;go_wp2_with fail;refine KL.out.mono ?_
   rintro e w3' ⟨rfl,hw⟩;obtain rfl:wr=w3':=hw.symm;clear hw KL;go_wp2_with fail;refine (HK2.out _ HG.out).mono ?_
   rintro e w4 ⟨rfl,g4⟩;have G4:=Qag (Old.trans HG.out g4);have R4:=Qag (R2.out.old g4);clear g4 q2' q3' HG R2 A2 HK2;go_wp2_with fail;refine (K4.out _).mono ?_
   rintro e w5 ⟨v5,rfl,g5,o5⟩;have G5:=Qag (Old.trans G4.out g5);have R5:=Qag (R4.out.old g5);have HO5:=Qag (o5.low G4.out.size);obtain ⟨a5,c5,e5⟩:=(Own.row o5).sliceN;subst e5;obtain ⟨l5,hl5⟩:∃l,(dig (f p)).length=l:=⟨_,rfl⟩
   have HL5:=Qag hl5;rw [hl5] at HO5 ⊢;have z0:=R5.out.c (i:=0) rfl;have z1:=R5.out.c (i:=1) rfl;have f0:w5.frozen? ⟨kr,0,none⟩=false:=frozen_of_row _ _ _ _ _ R5.out
   have f1:w5.frozen? ⟨kr,1,none⟩=false:=frozen_of_row _ _ _ _ _ R5.out
   clear g5 o5 hl5 G4 R4 K4;go_wp2_with fail;have qq:=Qde R5.out (.bool false) (.slice a5 l5 c5);have q0:=qq.c (i:=0) rfl;have q1:=qq.c (i:=1) rfl;have hkr':=HKR.out;refine bodyPost_ret (v:=.agg #[.bool false,.slice a5 l5 c5]) (by simp [results,Tryz.results59,go_sem,q0,q1]) rfl ?_
   refine ⟨_,rfl,(G5.out.own (p:=⟨kr,0,none⟩) (by show w.heap.size<=kr;omega) _).own (p:=⟨kr,1,none⟩) (by show w.heap.size<=kr;omega) _,?_⟩;rw [<- HE.out];exact Qfg (Qfg HO5.out R5.out _) (Qns R5.out (.bool false)) _
end Go.Proofs.YtejhpljichmmpaaGreatDoor
namespace Go.Proofs.YtejhpljichmmpaaGreatDoor
open Go.ChangeShapes Go.WideShapes Go.ChangeAt Go.RowKit
theorem Qh1 (gr:Option Addr) (lr cr:Nat) (aA aB:Option Addr) (lA cA lB cB:Nat) (w:World) (b1 b2:Bool) (P1 P2:World->Option Addr->Nat->Nat->Prop)
 (o1:∀W W' p l c,Old W W'->P1 W p l c->P1 W' p l c)
 (s1:∀W p l c v v',P1 W p l c->P1 ((W.setCell ⟨w.heap.size+1,0,none⟩ v).setCell ⟨w.heap.size+1,1,none⟩ v') p l c)
 (s2:∀W p l c v v',P2 W p l c->P2 ((W.setCell ⟨w.heap.size+1,0,none⟩ v).setCell ⟨w.heap.size+1,1,none⟩ v') p l c)
 (K1:∀W,Old w W->w.heap.size+2<=W.heap.size->Calls Tryz.prog 113 #[.slice gr lr cr,.agg #[.bool false,.slice aA lA cA]] W fun e w'=>Old W w'/\∃p l c,e=.returned (.tuple #[.slice p l c,.bool b1])/\P1 w' p l c)
 (K2:∀W,Old w W->w.heap.size+2<=W.heap.size->Calls Tryz.prog 113 #[.slice gr lr cr,.agg #[.bool false,.slice aB lB cB]] W fun e w'=>Old W w'/\∃p l c,e=.returned (.tuple #[.slice p l c,.bool b2])/\P2 w' p l c) :
 Calls Tryz.prog 91 #[.slice gr lr cr,.agg #[.slice aA lA cA,.slice aB lB cB]] w fun e w'=>Old w w'/\∃p l c p' l' c',e=.returned (.tuple #[.agg #[.slice p l c,.slice p' l' c'],.bool (b1&&b2)])/\P1 w' p l c/\P2 w' p' l' c':=by
 have HK1:=Qag K1;have HK2:=Qag K2;have HO1:=Qag o1;have HS1:=Qag s1;have HS2:=Qag s2;have HA:Hid (Old w ((w.alloc (.cells #[.slice aA lA cA,.slice aB lB cB] 68)).alloc (.cells #[.slice none 0 0,.slice none 0 0] 142))):=((Old.refl w).alloc _).alloc _;have HSZ:Hid (w.heap.size+2<=((w.alloc (.cells #[.slice aA lA cA,.slice aB lB cB] 68)).alloc (.cells #[.slice none 0 0,.slice none 0 0] 142)).heap.size):=by simp [Hid]
 have BP:Hid (Bk ((w.alloc (.cells #[.slice aA lA cA,.slice aB lB cB] 68)).alloc (.cells #[.slice none 0 0,.slice none 0 0] 142)) w.heap.size #[.slice aA lA cA,.slice aB lB cB] 68):=(Bk.new' w _ _ rfl).alloc _;have BR:Hid (Bk ((w.alloc (.cells #[.slice aA lA cA,.slice aB lB cB] 68)).alloc (.cells #[.slice none 0 0,.slice none 0 0] 142)) (w.heap.size+1) #[.slice none 0 0,.slice none 0 0] 142):=Bk.new' _ _ _ (by simp);clear K1 K2 o1 s1 s2
 cases b1
 all_goals
  go_enter Tryz.func91,Tryz.ntmps91;go_wp2_with fail;refine (HK1.out _ HA.out HSZ.out).mono ?_
  rintro e w1 ⟨g1,p,l,c,rfl,h1⟩;have H1:=Qag h1;have HG1:Hid (Old w w1):=Old.trans HA.out g1;have HZ1:Hid (w.heap.size+2<=w1.heap.size):=Nat.le_trans HSZ.out g1.size;have P1':=Qag (BP.out.old g1);have R1':=Qag (BR.out.old g1);clear g1 h1 BP BR HA HK1 HSZ;have z0:=P1'.out.c (i:=0) rfl;have z1:=P1'.out.c (i:=1) rfl;go_wp2_with fail;refine (HK2.out _ HG1.out HZ1.out).mono ?_
  rintro e w2 ⟨g2,p',l',c',rfl,h2⟩;have H2:=Qag h2;have H1':=Qag (HO1.out _ _ _ _ _ g2 H1.out);have HG2:Hid (Old w w2):=Old.trans HG1.out g2;have R2':=Qag (R1'.out.old g2);clear g2 h2 P1' R1' HK2 z0 z1 H1 HO1 HZ1;have z0:=R2'.out.c (i:=0) rfl;have z1:=R2'.out.c (i:=1) rfl;have f0:w2.frozen? ⟨w.heap.size+1,0,none⟩=false:=frozen_of_row _ _ _ _ _ R2'.out
  have f1:w2.frozen? ⟨w.heap.size+1,1,none⟩=false:=frozen_of_row _ _ _ _ _ R2'.out
  go_wp2_with fail;have qq:=Qde R2'.out (.slice p l c) (.slice p' l' c');have q0:=qq.c (i:=0) rfl;have q1:=qq.c (i:=1) rfl;refine bodyPost_ret (v:=.tuple #[.agg #[.slice p l c,.slice p' l' c'],.bool _]) (by simp [results,Tryz.results91,go_sem,q0,q1];rfl) rfl ?_
  exact ⟨(HG2.out.own (p:=⟨w.heap.size+1,0,none⟩) (by simp) _).own (p:=⟨w.heap.size+1,1,none⟩) (by simp) _,p,l,c,p',l',c',rfl,HS1.out _ _ _ _ _ _ H1'.out,HS2.out _ _ _ _ _ _ H2.out⟩
end Go.Proofs.YtejhpljichmmpaaGreatDoor
namespace Go.Proofs.YtejhpljichmmpaaGreatDoor
open Go.ChangeShapes Go.WideShapes Go.ChangeAt Go.RowKit
open M1
theorem Q06 (Nn:Nat) (ps:List Int) (Rf:Nat->Int) (xss yss:List (List Int)) (v1 v2:Value) (w:World) (hN:2<=Nn/\Nn<=16) (hps:1<=ps.length/\ps.length<=6) (hpb:∀k,k<ps.length->2<=ps.getD k 0/\ps.getD k 0<=268435456) (hx:OkX Nn ps xss) (hy:OkX Nn ps yss) (h1:RdX Nn ps Rf xss w v1) (h2:RdX Nn ps Rf yss w v2) :
 Calls Tryz.prog 94 #[v1,v2,.func (.func 95) #[] #[]] w fun e w'=>∃v',e=.returned v'/\Old w w'/\Mx Nn ps Rf (Qa3 Qd7 ps xss yss) w.heap.size w' v':=by
 obtain ⟨us,hr,hus⟩:=h1;obtain ⟨vs,hs,hvs⟩:=h2;refine (Qmz Nn false ps Rf us v1 ps Rf false vs v2 ps.length w hr (fun k hk=>?_) hs (fun k hk=>?_) (by omega) (Qa3 Qd7 ps xss yss) (fun k hk W g=>?_)).mono fun e w' h=>⟨_,h.1,h.2.1,_,h.2.2⟩
 ·obtain ⟨_,x,c,e⟩:=hus k hk;exact ⟨x,_,c,e⟩
 ·obtain ⟨_,x,c,e⟩:=hvs k hk;exact ⟨x,_,c,e⟩
 ·obtain ⟨r1,x,c,e⟩:=hus k hk;obtain ⟨r2,y,d,f⟩:=hvs k hk;rw [(hx k hk).1] at e;rw [(hy k hk).1] at f;rw [e] at r1 ⊢;rw [f] at r2 ⊢;refine (Qpy (ps.getD k 0) (Rf k) (ps.getD k 0) (Rf k) Nn false false Nn _ _ x y c d W (r1.old g) (r2.old g) (hpb k hk) hN (hx k hk).1 (hy k hk).1 (fun i hi=>⟨(hx k hk).2 i hi,(hy k hk).2 i hi⟩)).mono fun e w' h=>?_
  obtain ⟨g',rfl,g2,o2⟩:=h;refine ⟨_,rfl,g2,?_⟩;rw [Qc2 _ _ _ _ k hk];exact o2
theorem Qnt {Nn:Nat} {ps:List Int} {xss yss:List (List Int)} (hpb:∀k,k<ps.length->2<=ps.getD k 0/\ps.getD k 0<=268435456) (hx:OkX Nn ps xss):OkX Nn ps (Qa3 Qd7 ps xss yss):=fun k hk=>by
 rw [Qc2 _ _ _ _ _ hk,Qb9];refine ⟨(hx k hk).1,fun i hi=>?_⟩;rw [Qcq _ _ _ _ _ (by rw [(hx k hk).1];exact hi)];have:=hpb k hk;exact ⟨Int.emod_nonneg _ (by omega),Int.emod_lt_of_pos _ (by omega)⟩
theorem Qkl (aA aB:Option Addr) (lA cA lB cB:Nat) (w:World) :
 Calls Tryz.prog 91 #[.slice none 0 0,.agg #[.slice aA lA cA,.slice aB lB cB]] w fun e w'=>Old w w'/\∃p l c p' l' c' b,e=.returned (.tuple #[.agg #[.slice p l c,.slice p' l' c'],.bool b]):=by
 have key:∀(a1:Option Addr) (l1 c1:Nat) (W:World),Calls Tryz.prog 113 #[.slice none 0 0,.agg #[.bool false,.slice a1 l1 c1]] W fun e w'=>Old W w'/\∃p l c,e=.returned (.tuple #[.slice p l c,.bool (decide (l1=0))])/\True:=fun a1 l1 c1 W=>
  (Qhl false l1 a1 c1 W).mono fun e w' h=>by
   obtain ⟨g,⟨hd,e1⟩ | ⟨hd,gg,e1⟩⟩:=h
   ·exact ⟨g,none,0,0,by rw [hd];exact e1,trivial⟩
   ·exact ⟨g,gg,0,0,by rw [hd];exact e1,trivial⟩
 refine (Qh1 none 0 0 aA aB lA cA lB cB w _ _ (fun _ _ _ _=>True) (fun _ _ _ _=>True) (fun _ _ _ _ _ _ _=>trivial) (fun _ _ _ _ _ _ _=>trivial) (fun _ _ _ _ _ _ _=>trivial) (fun W _ _=>key aA lA cA W) (fun W _ _=>key aB lB cB W)).mono fun e w' h=>?_
 obtain ⟨g,p,l,c,p',l',c',e1,_⟩:=h;exact ⟨g,p,l,c,p',l',c',_,e1⟩
theorem Ql7 (Nn:Nat) (ps:List Int) (Rf:Nat->Int) (xss yss:List (List Int)) (ux uy:Nat->Option Addr) (cx cy:Nat->Nat) (g:Nat) (aA aB:Option Addr) (cA cB:Nat) (w:World) (hN:2<=Nn/\Nn<=16) (hps:1<=ps.length/\ps.length<=6) (hrg:Rgs w g Nn ps Rf ps.length) (hsp:spB Nn ps=true)
 (hlx:xss.length<=1048576) (hrx:∀r∈xss,r.length<=1048576) (hx:0<xss.length->Qdh w (.slice aA xss.length cA) ps xss ux cx) (hly:yss.length<=1048576) (hry:∀r∈yss,r.length<=1048576) (hy:0<yss.length->Qdh w (.slice aB yss.length cB) ps yss uy cy) :
 Calls Tryz.prog 91 #[.slice (some ⟨g,0,none⟩) ps.length ps.length,.agg #[.slice aA xss.length cA,.slice aB yss.length cB]] w fun e w'=>Old w w'/\(((rwB Nn ps xss&&rwB Nn ps yss)=false/\∃p l c p' l' c',e=.returned (.tuple #[.agg #[.slice p l c,.slice p' l' c'],.bool false]))∨((rwB Nn ps xss&&rwB Nn ps yss)=true/\∃g1 g2,e=.returned (.tuple #[.agg #[.slice g1 ps.length ps.length,.slice g2 ps.length ps.length],.bool true])/\RdX Nn ps Rf xss w' (.slice g1 ps.length ps.length)/\RdX Nn ps Rf yss w' (.slice g2 ps.length ps.length))):=by
 have key:∀(a1:Option Addr) (zss:List (List Int)) (uz:Nat->Option Addr) (cz:Nat->Nat) (c1:Nat) (hl:zss.length<=1048576) (hr:∀r∈zss,r.length<=1048576) (hz:0<zss.length->Qdh w (.slice a1 zss.length c1) ps zss uz cz) (W:World),Old w W->w.heap.size+2<=W.heap.size->
  Calls Tryz.prog 113 #[.slice (some ⟨g,0,none⟩) ps.length ps.length,.agg #[.bool false,.slice a1 zss.length c1]] W fun e w'=>Old W w'/\∃p l c,e=.returned (.tuple #[.slice p l c,.bool (rwB Nn ps zss)])/\(rwB Nn ps zss=true->∃g',w.heap.size+2<=g'/\p=some ⟨g',0,none⟩/\l=ps.length/\c=ps.length/\RRs w' g' Nn false ps Rf uz ps.length):=fun a1 zss uz cz c1 hl hr hz W q hq=>
  (Qmy Nn false ps zss Rf uz cz g a1 c1 W (hrg.old q) hsp hl hr (fun h=>(hz h).old q)).mono fun e w' h=>by
   obtain ⟨gg,⟨hd,e1⟩ | ⟨hd,g',hg',e1,hrr⟩⟩:=h
   ·exact ⟨gg,none,0,0,by rw [hd];exact e1,fun h=>by rw [hd] at h;cases h⟩
   ·exact ⟨gg,_,_,_,by rw [hd];exact e1,fun _=>⟨g',by omega,rfl,rfl,rfl,hrr⟩⟩
 have old:∀(zss:List (List Int)) (uz:Nat->Option Addr) (W W':World) (p:Option Addr) (l c:Nat),Old W W'->(rwB Nn ps zss=true->∃g',w.heap.size+2<=g'/\p=some ⟨g',0,none⟩/\l=ps.length/\c=ps.length/\RRs W g' Nn false ps Rf uz ps.length)->(rwB Nn ps zss=true->∃g',w.heap.size+2<=g'/\p=some ⟨g',0,none⟩/\l=ps.length/\c=ps.length/\RRs W' g' Nn false ps Rf uz ps.length):=fun zss uz W W' p l c q h hb=>by
  obtain ⟨g',h1,h2,h3,h4,h5⟩:=h hb;exact ⟨g',h1,h2,h3,h4,h5.old q⟩
 have set:∀(zss:List (List Int)) (uz:Nat->Option Addr) (W:World) (p:Option Addr) (l c:Nat) (v v':Value),(rwB Nn ps zss=true->∃g',w.heap.size+2<=g'/\p=some ⟨g',0,none⟩/\l=ps.length/\c=ps.length/\RRs W g' Nn false ps Rf uz ps.length)->(rwB Nn ps zss=true->∃g',w.heap.size+2<=g'/\p=some ⟨g',0,none⟩/\l=ps.length/\c=ps.length/\RRs ((W.setCell ⟨w.heap.size+1,0,none⟩ v).setCell ⟨w.heap.size+1,1,none⟩ v') g' Nn false ps Rf uz ps.length):=fun zss uz W p l c v v' h hb=>by
  obtain ⟨g',h1,h2,h3,h4,h5⟩:=h hb;refine ⟨g',h1,h2,h3,h4,h5.same ?_⟩;have hne:g'≠w.heap.size+1:=by omega
  exact (heap_setCell_other _ ⟨w.heap.size+1,1,none⟩ g' _ hne).trans (heap_setCell_other _ ⟨w.heap.size+1,0,none⟩ g' _ hne)
 refine (Qh1 (some ⟨g,0,none⟩) ps.length ps.length aA aB xss.length cA yss.length cB w _ _ _ _ (old xss ux) (set xss ux) (set yss uy) (key aA xss ux cx cA hlx hrx hx) (key aB yss uy cy cB hly hry hy)).mono fun e w' h=>?_
 obtain ⟨q,p,l,c,p',l',c',e1,h1,h2⟩:=h;refine ⟨q,?_⟩
 cases hb:(rwB Nn ps xss&&rwB Nn ps yss)
 ·rw [hb] at e1;exact .inl ⟨rfl,_,_,_,_,_,_,e1⟩
 ·rw [hb] at e1;obtain ⟨b1,b2⟩:=(Bool.and_eq_true _ _).mp hb;obtain ⟨g1,k1,rfl,rfl,rfl,r1⟩:=h1 b1;obtain ⟨g2,k2,rfl,rfl,rfl,r2⟩:=h2 b2;have l1:=(Qei b1).1;have l2:=(Qei b2).1;obtain ⟨bb,cc,_,hbb,_⟩:=hx (by omega);exact .inr ⟨rfl,_,_,e1,Qsj (base:=0) (uf:=fun _=>ux) (j:=0) hN ⟨g1,rfl,by omega,r1⟩ ((hx (by omega)).old q) b1,Qsj (base:=0) (uf:=fun _=>uy) (j:=0) hN ⟨g2,rfl,by omega,r2⟩ ((hy (by omega)).old q) b2⟩
end Go.Proofs.YtejhpljichmmpaaGreatDoor
namespace Go.Proofs.YtejhpljichmmpaaGreatDoor
open Go.ChangeShapes Go.WideShapes Go.ChangeAt Go.RowKit
open M2
theorem Ql8 {N:Nat} {ss:List Int} (h:wiB N 1 ss=true):ss.length=N/\∀i,i<ss.length->-1<=ss.getD i 0/\ss.getD i 0<=1:=by
 unfold wiB Qs1 at h;rw [Bool.and_eq_true,decide_eq_true_eq,decide_eq_true_eq] at h;exact ⟨by omega,fun i hi=>h.2 i hi (by omega)⟩
def WbN (w:World) (zs:List Nat) (ok:Bool) (e:Ending) (w':World):Prop:=∃v',e=.returned (.tuple #[.agg #[.bool false,v'],.bool ok])/\Old w w'/\Own w' w.heap.size v' (toI zs)
end Go.Proofs.YtejhpljichmmpaaGreatDoor
namespace Go.Proofs.YtejhpljichmmpaaGreatDoor
open Go.ChangeShapes Go.WideShapes Go.ChangeAt Go.RowKit
open M1
open M2
theorem Qpf {N:Nat} {ss:List Int} (h:wmB N (-1099511627776) 1099511627776 ss=true):ss.length=N/\∀i,i<ss.length->-1099511627776<=ss.getD i 0/\ss.getD i 0<=1099511627776:=by
 unfold wmB wlB at h;rw [Bool.and_eq_true,decide_eq_true_eq,decide_eq_true_eq] at h;exact ⟨by omega,fun i hi=>h.2 i hi (by omega)⟩
def niN (Nn:Nat) (ps:List Int) (U:List (List Int)):Nat:=grN (fun k=>(ctZ ps U k).natAbs) Nn
theorem Qgg (N T E:Int) (ps:List Int) (xss yss:List (List Int)) (ss ws:List Int) (v u2 u3:Value) (aA aB:Option Addr) (cA cB:Nat) (ux uy:Nat->Option Addr) (cx cy:Nat->Nat) (w:World) (hP:Qdk w) (hT:Qbe w) (hv:Row w v ps) (hf:Fit v) (hlx:xss.length<=1048576) (hrx:∀r∈xss,r.length<=1048576) (hx:0<xss.length->Qdh w (.slice aA xss.length cA) ps xss ux cx) (hly:yss.length<=1048576) (hry:∀r∈yss,r.length<=1048576) (hy:0<yss.length->Qdh w (.slice aB yss.length cB) ps yss uy cy) (hu2:Row w u2 ss) (hl2:ss.length<=9223372036854775807) (hu3:Row w u3 ws) (hl3:ws.length<=9223372036854775807) (hlp:ps.length<=9223372036854775807) (Z:List Nat) (ok:Bool) (hyy:(prB N T E ps&&(rwB N ps xss&&rwB N ps yss)&&wiB N 1 ss&&wmB N (-1099511627776) 1099511627776 ws)=true->Z=dig (niN N.toNat ps (Qa3 Qd7 ps (ppL N.toNat ps yss xss (smS ps ss)) (smS ps ws)))/\ok=true) (hnn:(prB N T E ps&&(rwB N ps xss&&rwB N ps yss)&&wiB N 1 ss&&wmB N (-1099511627776) 1099511627776 ws)=false->Z=[]/\ok=false) :
 Calls Tryz.prog 34 #[.agg #[.int .i64 N,.int .i64 T,.int .i64 E,v],u2,.agg #[.slice aA xss.length cA,.slice aB yss.length cB],u3] w (WbN w Z ok):=by
 have HY:=Qag hyy;have HNN:=Qag hnn;clear hyy hnn;obtain ⟨Rf,hRb⟩:=Qom N ps;have hRf:=fun k hk=>(hRb k hk).1
 have HRB:Hid (∀Nn:Nat,N=Nn->spB N ps=true->RtS Nn ps Rf):=fun Nn e hs=>by
  subst e;exact Qvv hRb hs
 have HU2:=Qag hu2;have HU3:=Qag hu3;have HTW:=Qag hT;have HX:=Qag hx;have HYR:=Qag hy;have HRX:=Qag hrx;have HRY:=Qag hry;have K1:=Qag (fun W (g:Old w W)=>Qe4 N T E ps Rf v W (hP.old g) (hT.old g) (hv.old g) hf hlp hRf);obtain ⟨a0,c0,ev⟩:=hv.slice;obtain ⟨a2,c2',eu2⟩:=hu2.slice;obtain ⟨a3,c3',eu3⟩:=hu3.slice;subst ev eu2 eu3;have HV:Hid (Row w (.slice a0 ps.length c0) ps/\Fit (.slice a0 ps.length c0)):=⟨hv,hf⟩;have HA:Hid (Old w (((w.alloc (.cells #[.int .i64 N,.int .i64 T,.int .i64 E,.slice a0 ps.length c0] 34)).alloc (.cells #[.slice aA xss.length cA,.slice aB yss.length cB] 68)).alloc (.cells #[.bool false,.slice none 0 0] 31))):=(((Old.refl w).alloc _).alloc _).alloc _;have BP:Hid (Bk (((w.alloc (.cells #[.int .i64 N,.int .i64 T,.int .i64 E,.slice a0 ps.length c0] 34)).alloc (.cells #[.slice aA xss.length cA,.slice aB yss.length cB] 68)).alloc (.cells #[.bool false,.slice none 0 0] 31)) w.heap.size #[.int .i64 N,.int .i64 T,.int .i64 E,.slice a0 ps.length c0] 34):=((Bk.new' w _ _ rfl).alloc _).alloc _;have BB:Hid (Bk (((w.alloc (.cells #[.int .i64 N,.int .i64 T,.int .i64 E,.slice a0 ps.length c0] 34)).alloc (.cells #[.slice aA xss.length cA,.slice aB yss.length cB] 68)).alloc (.cells #[.bool false,.slice none 0 0] 31)) (w.heap.size+1) #[.slice aA xss.length cA,.slice aB yss.length cB] 68):=(Bk.new' _ _ _ (by simp)).alloc _;have BW:Hid (Bk (((w.alloc (.cells #[.int .i64 N,.int .i64 T,.int .i64 E,.slice a0 ps.length c0] 34)).alloc (.cells #[.slice aA xss.length cA,.slice aB yss.length cB] 68)).alloc (.cells #[.bool false,.slice none 0 0] 31)) (w.heap.size+1+1) #[.bool false,.slice none 0 0] 31):=Bk.new' _ _ _ (by simp);clear hv hf hP hT hRf hRb hu2 hu3 hx hy hrx hry;go_enter Tryz.func34,Tryz.ntmps34;go_wp2_with fail;refine (K1.out _ HA.out).mono ?_
 rintro e w1 ⟨g1,h⟩;have HG1:=Qag (Old.trans HA.out g1);have P1:=Qag (BP.out.old g1);have B1:=Qag (BB.out.old g1);have W1':=Qag (BW.out.old g1);have z0:=B1.out.c (i:=0) rfl;have z1:=B1.out.c (i:=1) rfl;clear g1 K1 BB BP HA BW;rcases h with ⟨hB,rfl⟩ | ⟨hB,g,hg,rfl,hrg⟩
 ·have HB:Hid (Z=[]∧ok=false):=HNN.out (by rw [hB];rfl);have c2:=Qag (Qkl aA aB xss.length cA yss.length cB w1);clear hB;go_wp2_with fail;refine c2.out.mono ?_
  rintro e w2 ⟨g2,p,l,c,p',l',c',b,rfl⟩;obtain ⟨B2,hB2⟩:∃B:World,w2.alloc (.cells #[.slice p l c,.slice p' l' c'] 142)=B:=⟨_,rfl⟩
  have O2:Old w2 B2:=by rw [<- hB2];exact (Old.refl w2).alloc _
  have HG3:=Qag (Old.trans HG1.out (Old.trans g2 O2));have W3':=Qag (W1'.out.old (Old.trans g2 O2));clear g2 c2 O2 z0 z1;have z0:=W3'.out.c (i:=0) rfl;have z1:=W3'.out.c (i:=1) rfl;have f0:B2.frozen? ⟨w.heap.size+1+1,0,none⟩=false:=frozen_of_row _ _ _ _ _ W3'.out
  have f1:B2.frozen? ⟨w.heap.size+1+1,1,none⟩=false:=frozen_of_row _ _ _ _ _ W3'.out
  go_wp2_with fail;have qq:=Qde W3'.out (.bool false) (.slice none 0 0);have q0:=qq.c (i:=0) rfl;have q1:=qq.c (i:=1) rfl;refine bodyPost_ret (v:=.tuple #[.agg #[.bool false,.slice none 0 0],.bool false]) (by simp [results,Tryz.results34,go_sem,q0,q1]) rfl ?_
  rw [HB.out.1,HB.out.2];exact ⟨_,rfl,(HG3.out.own (p:=⟨w.heap.size+1+1,0,none⟩) (by simp;omega) _).own (p:=⟨w.heap.size+1+1,1,none⟩) (by simp;omega) _,Qc1 _ _⟩
 ·have hsp:=Qr9 hB;obtain ⟨hz4,hbb,_⟩:=Qdr hsp;obtain ⟨Nn,rfl⟩:∃Nn:Nat,N=(Nn:Int):=⟨N.toNat,by omega⟩
  have hNn:2<=Nn/\Nn<=16:=by omega
  have hps:=(Qc0 hbb).1;have HRG:=Qag hrg;have HBB:=Qag hB;have K2:=Qag (Ql7 Nn ps Rf xss yss ux uy cx cy g aA aB cA cB w1 hNn hps hrg hsp hlx HRX.out (fun h=>(HX.out h).old HG1.out) hly HRY.out (fun h=>(HYR.out h).old HG1.out));clear hB hrg hg;go_wp2_with fail;refine K2.out.mono ?_
  rintro e w2 ⟨g2,h⟩;have HG2:=Qag (Old.trans HG1.out g2);have HO2:=Qag g2;have P2:=Qag (P1.out.old g2);have W2':=Qag (W1'.out.old g2);clear g2 K2 z0 z1 P1 B1 W1';rcases h with ⟨hC,p,l,c,p',l',c',rfl⟩ | ⟨hC,ga,gb,rfl,hra,hrb⟩
  ·have HB:Hid (Z=[]∧ok=false):=HNN.out (by rw [HBB.out,hC];rfl);obtain ⟨B2,hB2⟩:∃B:World,w2.alloc (.cells #[.slice p l c,.slice p' l' c'] 142)=B:=⟨_,rfl⟩
   have O2:Old w2 B2:=by rw [<- hB2];exact (Old.refl w2).alloc _
   have HG3:=Qag (Old.trans HG2.out O2);have W3':=Qag (W2'.out.old O2);clear hC O2;have z0:=W3'.out.c (i:=0) rfl;have z1:=W3'.out.c (i:=1) rfl;have f0:B2.frozen? ⟨w.heap.size+1+1,0,none⟩=false:=frozen_of_row _ _ _ _ _ W3'.out
   have f1:B2.frozen? ⟨w.heap.size+1+1,1,none⟩=false:=frozen_of_row _ _ _ _ _ W3'.out
   go_wp2_with fail;have qq:=Qde W3'.out (.bool false) (.slice none 0 0);have q0:=qq.c (i:=0) rfl;have q1:=qq.c (i:=1) rfl;refine bodyPost_ret (v:=.tuple #[.agg #[.bool false,.slice none 0 0],.bool false]) (by simp [results,Tryz.results34,go_sem,q0,q1]) rfl ?_
   rw [HB.out.1,HB.out.2];exact ⟨_,rfl,(HG3.out.own (p:=⟨w.heap.size+1+1,0,none⟩) (by simp;omega) _).own (p:=⟨w.heap.size+1+1,1,none⟩) (by simp;omega) _,Qc1 _ _⟩
  ·have HC:=Qag hC;obtain ⟨B2,hB2⟩:∃B:World,w2.alloc (.cells #[.slice ga ps.length ps.length,.slice gb ps.length ps.length] 142)=B:=⟨_,rfl⟩
   have O2:Old w2 B2:=by rw [<- hB2];exact (Old.refl w2).alloc _
   have R2:Hid (Bk B2 w2.heap.size #[.slice ga ps.length ps.length,.slice gb ps.length ps.length] 142):=by rw [<- hB2];exact Bk.new' w2 _ _ rfl
   have HG3:=Qag (Old.trans HG2.out O2);have HO3:=Qag (Old.trans HO2.out O2);have W3':=Qag (W2'.out.old O2);have P3:=Qag (P2.out.old O2);have RA:=Qag (hra.old O2);have RB:=Qag (hrb.old O2);obtain ⟨kp,hkp⟩:∃kp,w2.heap.size=kp:=⟨_,rfl⟩
   rw [hkp] at R2;have K3:=Qag (fun W (q:Old w W)=>Qk8 Nn T E a0 ps.length c0 ss (.slice a2 ss.length c2') W (HU2.out.old q) hl2);have K4:=Qag (fun W (q:Old w W)=>Qiw Nn (-1099511627776) 1099511627776 ws (.slice a3 ws.length c3') W (HU3.out.old q) hl3);have x0:=P3.out.c (i:=0) rfl;have x1:=P3.out.c (i:=1) rfl;have x2:=P3.out.c (i:=2) rfl;have x3:=P3.out.c (i:=3) rfl;clear hC O2 hra hrb P2 W2' HO2
   cases hwi:wiB Nn 1 ss
   ·rw [hwi] at K3;have HB:Hid (Z=[]∧ok=false):=HNN.out (by rw [HBB.out,HC.out,hwi];rfl);clear hwi;go_wp2_with fail;refine (K3.out _ HG3.out).mono ?_
    rintro e w4 ⟨rfl,g4⟩;have HG4:=Qag (Old.trans HG3.out g4);have W4':=Qag (W3'.out.old g4);clear g4 K3 x0 x1 x2 x3;have z0:=W4'.out.c (i:=0) rfl;have z1:=W4'.out.c (i:=1) rfl;have f0:w4.frozen? ⟨w.heap.size+1+1,0,none⟩=false:=frozen_of_row _ _ _ _ _ W4'.out
    have f1:w4.frozen? ⟨w.heap.size+1+1,1,none⟩=false:=frozen_of_row _ _ _ _ _ W4'.out
    go_wp2_with fail;have qq:=Qde W4'.out (.bool false) (.slice none 0 0);have q0:=qq.c (i:=0) rfl;have q1:=qq.c (i:=1) rfl;refine bodyPost_ret (v:=.tuple #[.agg #[.bool false,.slice none 0 0],.bool false]) (by simp [results,Tryz.results34,go_sem,q0,q1]) rfl ?_
    rw [HB.out.1,HB.out.2];exact ⟨_,rfl,(HG4.out.own (p:=⟨w.heap.size+1+1,0,none⟩) (by simp;omega) _).own (p:=⟨w.heap.size+1+1,1,none⟩) (by simp;omega) _,Qc1 _ _⟩
   ·rw [hwi] at K3
    cases hwm:wmB Nn (-1099511627776) 1099511627776 ws
    ·rw [hwm] at K4;have HB:Hid (Z=[]∧ok=false):=HNN.out (by rw [HBB.out,HC.out,hwi,hwm];rfl);clear hwi hwm;go_wp2_with fail;refine (K3.out _ HG3.out).mono ?_
     rintro e w4 ⟨rfl,g4⟩;have HG4:=Qag (Old.trans HG3.out g4);have W4':=Qag (W3'.out.old g4);have P4':=Qag (P3.out.old g4);have y0:=P4'.out.c (i:=0) rfl;clear g4 K3 x0 x1 x2 x3;go_wp2_with fail;refine (K4.out _ HG4.out).mono ?_
     rintro e w5 ⟨rfl,rfl⟩;clear K4 y0;have z0:=W4'.out.c (i:=0) rfl;have z1:=W4'.out.c (i:=1) rfl;have f0:w5.frozen? ⟨w.heap.size+1+1,0,none⟩=false:=frozen_of_row _ _ _ _ _ W4'.out
     have f1:w5.frozen? ⟨w.heap.size+1+1,1,none⟩=false:=frozen_of_row _ _ _ _ _ W4'.out
     go_wp2_with fail;have qq:=Qde W4'.out (.bool false) (.slice none 0 0);have q0:=qq.c (i:=0) rfl;have q1:=qq.c (i:=1) rfl;refine bodyPost_ret (v:=.tuple #[.agg #[.bool false,.slice none 0 0],.bool false]) (by simp [results,Tryz.results34,go_sem,q0,q1]) rfl ?_
     rw [HB.out.1,HB.out.2];exact ⟨_,rfl,(HG4.out.own (p:=⟨w.heap.size+1+1,0,none⟩) (by simp;omega) _).own (p:=⟨w.heap.size+1+1,1,none⟩) (by simp;omega) _,Qc1 _ _⟩
    ·rw [hwm] at K4;obtain ⟨eZ,eo⟩:=HY.out (by rw [HBB.out,HC.out,hwi,hwm];rfl);rw [show ((Nn:Int).toNat)=Nn by omega] at eZ;have HZ:=Qag eZ;subst eo;obtain ⟨hsl,hsv⟩:=Ql8 hwi;obtain ⟨hwl,hwv⟩:=Qpf hwm;have HSL:=Qag hsl;have HSV:=Qag hsv;have HWL:=Qag hwl;have HWV:=Qag hwv;have HS4:Hid (Sz4 Nn):=by unfold Hid Sz4;omega
     have HPB:Hid (∀k,k<ps.length->2<=ps.getD k 0/\ps.getD k 0<=268435456):=fun k hk=>Qpn ((Qc0 hbb).2 k hk)
     have HPS:=Qag hps;have HNB:=Qag hNn;have HRT:Hid (RtS Nn ps Rf):=HRB.out Nn rfl hsp;obtain ⟨b1,b2⟩:=(Bool.and_eq_true _ _).mp HC.out;have OX:=Qag (Qlv b1);have OY:=Qag (Qlv b2);have OP:Hid (OkX Nn ps (ppL Nn ps yss xss (smS ps ss))):=Qnh HPB.out OY.out;have OU:=Qag (Qnt (yss:=smS ps ws) HPB.out OP.out);have HGR:Hid (Gr Nn ps (Qa3 Qd7 ps (ppL Nn ps yss xss (smS ps ss)) (smS ps ws))):=Qsy hbb (by rw [Qca]) OU.out;clear hwi hwm eZ hsl hsv hwl hwv hps hNn hsp hz4 hbb HNN HY HRB b1 b2;go_wp2_with fail;refine (K3.out _ HG3.out).mono ?_
     rintro e w4 ⟨rfl,g4⟩;have HG4:=Qag (Old.trans HG3.out g4);have HO4:=Qag (Old.trans HO3.out g4);have W4':=Qag (W3'.out.old g4);have P4':=Qag (P3.out.old g4);have R4:=Qag (R2.out.old g4);have RA4:=Qag (RA.out.old g4);have RB4:=Qag (RB.out.old g4);have y0:=P4'.out.c (i:=0) rfl;clear g4 K3 x0 x1 x2 x3 P3 W3' R2 RA RB;go_wp2_with fail;refine (K4.out _ HG4.out).mono ?_
     rintro e w5 ⟨rfl,rfl⟩;clear K4 y0 hB2 hkp;have KS:=Qag (fun W (q:Old w5 W) (zs:List Int) (az:Option Addr) (cz:Nat) (hr:Row W (.slice az zs.length cz) zs) (hl:zs.length=Nn) (hb:∀i,i<zs.length->-1099511627776<=zs.getD i 0/\zs.getD i 0<=1099511627776)=>Qik Nn ps zs Rf g (.slice az zs.length cz) W ((HRG.out.old HO4.out).old q) (by have:=HPS.out;omega) hr (by have h2:=HNB.out;omega) (fun i hi=>by have:=hb i hi;omega) (fun k hk=>by have:=HPB.out k hk;omega));go_wp2_with fail;refine Qyi w5 ga gb ps.length (some ⟨g,0,none⟩) ps.length ps.length a2 ss.length c2' kp (fun W u=>RdX Nn ps Rf (smS ps ss) W u) (fun W u=>RdX Nn ps Rf (ppL Nn ps yss xss (smS ps ss)) W u) (fun W W' u h q=>h.old q) (fun W W' u h q=>h.old q) R4.out (fun W q=>?_) (fun W q u hu=>?_) _ _ ?_ ?_ ?_ ?_ ?_
     ·refine (KS.out W q ss a2 c2' ((HU2.out.old HG4.out).old q) HSL.out (fun i hi=>by have:=HSV.out i hi;omega)).mono fun e w' h=>?_
      obtain ⟨g',_,e1,e2,e3⟩:=h;exact ⟨_,e1,e2,Ows.rd HPS.out.1 e3⟩
     ·refine (Qj9 Nn ps Rf yss xss (smS ps ss) _ _ u W ((HTW.out.old HG4.out).old q) HS4.out HPS.out HPB.out HRT.out OY.out OX.out (Qfe HPB.out HSL.out) (RB4.out.old q) (RA4.out.old q) hu).mono fun e w' h=>?_
      obtain ⟨v',e1,e2,e3⟩:=h;exact ⟨_,e1,e2,e3.rd HPS.out.1⟩
     iterate 4 (·exact rfl)
     intro us W g6 h8;have HG6:=Qag (Old.trans HG4.out g6);have O6:=Qag g6;have W6':=Qag (W4'.out.old g6);have P6:=Qag (P4'.out.old g6);have R8:=Qag h8;obtain ⟨a8,c8,e8⟩:=h8.slice;simp only [Qah,Act.put,Qc4,List.range,List.range.loop,List.map_cons,List.map_nil,List.getD_cons_zero,List.getD_cons_succ,List.setIfInBounds_toArray,List.set_cons_succ,List.set_cons_zero];rw [e8] at R8;simp only [e8];clear g6 h8 e8 W4' P4' R4 RA4 RB4;go_wp2_with fail;refine (KS.out W O6.out ws a3 c3' (HU3.out.old HG6.out) HWL.out HWV.out).mono ?_
     rintro e w7 ⟨g',_,rfl,g7,o7⟩;have HG7:=Qag (Old.trans HG6.out g7);have W7':=Qag (W6'.out.old g7);have P7:=Qag (P6.out.old g7);have K7:=Qag (Q06 Nn ps Rf (ppL Nn ps yss xss (smS ps ss)) (smS ps ws) _ _ w7 HNB.out HPS.out HPB.out OP.out (Qfe HPB.out HWL.out) (R8.out.old g7) (Ows.rd HPS.out.1 o7));clear g7 o7 W6' P6 R8 KS;go_wp2_with fail;refine K7.out.mono ?_
     rintro e w8 ⟨v8,rfl,g8,o8⟩;have r8:=o8.rd HPS.out.1;obtain ⟨a9,c9,e9⟩:=r8.slice;subst e9;have HG8:=Qag (Old.trans HG7.out g8);have W8':=Qag (W7'.out.old g8);have P8:=Qag (P7.out.old g8);have R8':=Qag r8;clear g8 o8 r8 W7' P7 K7;go_wp2_with fail;refine Qyj w8 Nn T E a0 ps.length c0 a9 ps.length c9 w.heap.size (w.heap.size+1+1) (fun W u=>Qbx W u (Qa3 Qd7 ps (ppL Nn ps yss xss (smS ps ss)) (smS ps ws))) (fun W u=>WsX Nn ps (Qa3 Qd7 ps (ppL Nn ps yss xss (smS ps ss)) (smS ps ws)) w.heap.size W u) (fun W u=>∃a l c,u=.agg #[.bool false,.slice a l c]/\Own W w.heap.size (.slice a l c) (toI Z)) (fun W W' u h q=>h.old q) (fun W W' u h q=>h.old q) (fun W W' u h q=>?_) (fun W x h=>?_) P8.out W8'.out (fun W q=>?_) (fun W q u hu=>?_) (fun W q u hu=>?_) _ _ ?_ ?_ ?_ ?_ ?_
     ·obtain ⟨a,l,c,e1,o⟩:=h;exact ⟨a,l,c,e1,o.old q⟩
     ·obtain ⟨a,l,c,e1,o⟩:=h;exact ⟨_,e1,rfl,by simp [Value.oneCell']⟩
     ·exact (Qnm Nn ps Rf (Qa3 Qd7 ps (ppL Nn ps yss xss (smS ps ss)) (smS ps ws)) _ W (by have:=HPS.out;omega) HGR.out.len (R8'.out.old q)).mono fun e w' h=>⟨_,h.1,h.2.1,h.2.2⟩
     ·exact (Qf1 Nn ps (Qa3 Qd7 ps (ppL Nn ps yss xss (smS ps ss)) (smS ps ws)) u (.slice a0 ps.length c0) W ((HV.out.1.old HG8.out).old q) HV.out.2 hu (by have:=HNB.out;omega) HPS.out HGR.out).mono fun e w' h=>by
       obtain ⟨u,e1,q',o⟩:=h;exact ⟨u,e1,q',_,Ows.low o (Nat.le_trans HG8.out.size q.size) (Nat.le_refl _) o.1⟩
     ·exact (Qqe Nn ps (Qa3 Qd7 ps (ppL Nn ps yss xss (smS ps ss)) (smS ps ws)) _ _ W (by have:=HNB.out;omega) HGR.out hu).mono fun e w' h=>by
       obtain ⟨v',e1,q',o⟩:=h;have hz':dig (grN (fun k=>(ctZ ps (Qa3 Qd7 ps (ppL Nn ps yss xss (smS ps ss)) (smS ps ws)) k).natAbs) Nn)=Z:=HZ.out.symm;rw [hz'] at o;obtain ⟨aa,cc,ee⟩:=(Own.row o).sliceN;subst ee;exact ⟨_,e1,q',_,_,_,rfl,o.low (Nat.le_trans HG8.out.size q.size)⟩
     iterate 4 (·exact rfl)
     intro us W cs g9 hC9 _;obtain ⟨aa,ll,cc,ee,oo⟩:=hC9;obtain rfl:cs=#[.bool false,.slice aa ll cc]:=by simpa using ee
     have HG9:=Qag (Old.trans HG8.out g9);have R9:=Qag (W8'.out.old g9);have OO:=Qag oo;have qq:Bk (W.setRow (w.heap.size+1+1) #[.bool false,.slice aa ll cc]) (w.heap.size+1+1) #[.bool false,.slice aa ll cc] 31:=setRow_heap W _ _ _ _ _ R9.out;have q0:=qq.c (i:=0) rfl;have q1:=qq.c (i:=1) rfl;simp only [Qah,Act.put,Qcs,List.range,List.range.loop,List.map_cons,List.map_nil,List.getD_cons_zero,List.getD_cons_succ,List.setIfInBounds_toArray,List.set_cons_succ,List.set_cons_zero];clear g9 oo ee qq;go_wp2_with fail;refine bodyPost_ret (v:=.tuple #[.agg #[.bool false,.slice aa ll cc],.bool true]) (by simp [results,Tryz.results34,go_sem,q0,q1]) rfl ?_
     exact ⟨_,rfl,Old.rowP HG9.out (by omega) _,Quv OO.out R9.out _⟩
end Go.Proofs.YtejhpljichmmpaaGreatDoor
namespace Go.Proofs.YtejhpljichmmpaaGreatDoor
open Go.ChangeShapes Go.WideShapes Go.ChangeAt Go.RowKit
open M2
theorem Qxj.atN {Nn:Nat} {ps:List Int} {zss:List (List Int)} {W:World} {v:Value} (h0:0<Nn) (hG:Gr Nn ps zss) (h:Qxj W v (whB Nn ps zss) (whX Nn ps zss)) :
 ∃b o cap,v=.slice (some ⟨b,o,none⟩) Nn cap/\b<W.heap.size/\∀k,k<Nn->∃a c,W.cell? ⟨b,o+k*2,none⟩=some (.bool (ng (ctZ ps zss k)))/\W.cell? ⟨b,o+k*2+1,none⟩=some (.slice a (dg (ctZ ps zss k)).length c)/\Row W (.slice a (dg (ctZ ps zss k)).length c) (toI (dg (ctZ ps zss k))):=by
 have hl:=Qkg Nn ps zss;obtain ⟨_,⟨a,cap,e,e2⟩ | ⟨b,o,cap,us,e,hb,_,hc⟩⟩:=h
 ·rw [e2] at hl;simp at hl;omega
 ·rw [hl] at e hc;refine ⟨b,o,cap,e,hb,fun k hk=>?_⟩;obtain ⟨q0,q1,r⟩:=hc k hk;obtain ⟨f1,f2⟩:=Qkj hG k hk;rw [Qkh Nn ps zss k hk,← f1] at q0;rw [Qki Nn ps zss k hk,← f2] at r;obtain ⟨a,c,e3⟩:=r.slice;have hz:(toI (dg (ctZ ps zss k))).length=(dg (ctZ ps zss k)).length:=by simp [toI]
  rw [hz] at e3;rw [e3] at q1 r;exact ⟨a,c,q0,q1,r⟩
theorem Qnu {f:Nat->Nat} {n:Nat} (h:∀k,k<n->cnt (f k)<=7):cnt (grN f n)<=7:=by
 have hb:grN f n<=LB^7 - 1:=Qv6 f _ n (fun k hk=>by
  have h1:(dg ((f k:Nat):Int)).length<=7:=h k hk;have:=Q05 h1;simp at this;omega)
 have hp:0<LB^7:=Nat.pow_pos (by rw [Qz5];omega);exact Qcf (by omega)
theorem Qnv (Nn:Nat) (T E:Int) (ps:List Int) (zss:List (List Int)) (v u:Value) (w:World) (hv:Row w v ps) (hu:Qbx w u zss) (hN:1<=Nn/\Nn<=16) (hps:1<=ps.length/\ps.length<=6) (hG:Gr Nn ps zss) :
 Calls Tryz.prog 49 #[.agg #[.int .i64 (Nn:Int),.int .i64 T,.int .i64 E,v],u] w fun e w'=>∃v',e=.returned v'/\Old w w'/\Row w' v' (toI (dig (grN (fun k=>(ctZ ps zss k).natAbs) Nn))):=by
 have K1:=Qag (fun W (g:Old w W)=>Qkk Nn ps zss v u W (hv.old g) (hu.old g) hN hps hG);have HAT:=Qag (fun W x (h:Qxj W x (whB Nn ps zss) (whX Nn ps zss))=>h.atN (by omega) hG);have HB:Hid (∀k,k<Nn->cnt (ctZ ps zss k).natAbs<=7):=fun k hk=>Ql4 hG k hk
 have hNN:Nn<=16:=hN.2;have HDG:Hid (∀k,dg (ctZ ps zss k)=dig (ctZ ps zss k).natAbs):=fun k=>rfl
 obtain ⟨a0,c0,rfl⟩:=hv.slice;obtain ⟨ua,uc,rfl⟩:=hu.slice;have KS:=Qag (fun W=>Qbp (Nn:Int) T E a0 ps.length c0 W);obtain ⟨lu,hlu⟩:∃l,zss.length=l:=⟨_,rfl⟩
 rw [hlu] at K1 ⊢;clear hv hu hN hps hG hlu;obtain ⟨f,hf⟩:∃f:Nat->Nat,(fun k=>(ctZ ps zss k).natAbs)=f:=⟨_,rfl⟩
 have hf':∀k,(ctZ ps zss k).natAbs=f k:=fun k=>by rw [<- hf]
 rw [hf];simp only [hf'] at HB HDG;clear hf hf';obtain ⟨B1,hB1⟩:∃B:World,w.alloc (.cells #[.int .i64 (Nn:Int),.int .i64 T,.int .i64 E,.slice a0 ps.length c0] 34)=B:=⟨_,rfl⟩
 have O1:Hid (Old w B1):=by rw [<- hB1];exact (Old.refl w).alloc _
 have P1:Hid (Bk B1 w.heap.size #[.int .i64 (Nn:Int),.int .i64 T,.int .i64 E,.slice a0 ps.length c0] 34):=by rw [<- hB1];exact Bk.new' w _ _ rfl
 have x0:=P1.out.c (i:=0) rfl;have x1:=P1.out.c (i:=1) rfl;have x2:=P1.out.c (i:=2) rfl;have x3:=P1.out.c (i:=3) rfl;go_enter Tryz.func49,Tryz.ntmps49;go_wp2_with fail;refine (KS.out _).mono ?_
 rintro e w2 ⟨rfl,g2⟩;have G2:=Qag (Old.trans O1.out g2);clear g2 x0 x1 x2 x3 P1 O1 hB1 KS;go_wp2_with fail;refine (K1.out _ G2.out).mono ?_
 rintro e w3 ⟨v3,rfl,g3,r3⟩;obtain ⟨b,o,cap,e3,hb3,hc3⟩:=HAT.out _ _ r3;subst e3;have G3:=Qag (Old.trans G2.out g3);have HC:=Qag hc3;clear g3 r3 hc3 K1 HAT G2;go_wp2_with fail
 go_loopw [13,5,7] (fun i m _ W=>∃(k:Nat) (ma:Option Addr) (ml mc:Nat),k<=Nn/\i=.int .i64 k/\m=.slice ma ml mc/\Hid (Row W (.slice ma ml mc) (toI (dig (grN f k))))/\Hid (Old w3 W)) (fun i _ _ _=>Nn - (intOf i).toNat)
 case atStart=>exact ⟨0,none,0,0,by omega,rfl,rfl,.inl ⟨none,0,rfl,rfl⟩,Old.refl _⟩
 case round=>
  obtain ⟨k,ma,ml,mc,hk,rfl,rfl,HM,HG⟩:=hrel
  by_cases hlt:k<Nn
  ·have d1:decide ((k:Int)<(Nn:Int))=true:=decide_eq_true (by omega);have iL:(k:Int)<(Nn:Int):=by omega
   obtain ⟨a8,c8,q0,q1,r8⟩:=HC.out k hlt;have q0':=(HG.out.cell (p:=⟨b,o+k*2,none⟩) hb3).trans q0;have q1':=(HG.out.cell (p:=⟨b,o+k*2+1,none⟩) hb3).trans q1;have hbk:=HB.out k hlt;have r8':=r8.old HG.out;have hdk:=HDG.out k;generalize hz:ctZ ps zss k=z at *;rw [hdk] at q1' r8';obtain ⟨nb,hnb⟩:∃n,ng z=n:=⟨_,rfl⟩
   rw [hnb] at q0';obtain ⟨l8,hl8⟩:∃n,(dig (f k)).length=n:=⟨_,rfl⟩
   rw [hl8] at q1' r8';have R8':=Qag r8';have hgc:cnt (grN f k)<=7:=Qnu (fun j hj=>HB.out j (by omega));obtain ⟨B8,hB8⟩:∃B:World,wr.alloc (.cells #[.bool nb,.slice a8 l8 c8] 85)=B:=⟨_,rfl⟩
   have O8:Old wr B8:=by rw [<- hB8];exact (Old.refl wr).alloc _
   have Y8:Hid (Bk B8 wr.heap.size #[.bool nb,.slice a8 l8 c8] 85):=by rw [<- hB8];exact Bk.new' wr _ _ rfl
   have G8:=Qag (Old.trans HG.out O8);have K3:=Qag (Qmf (dig (f k)) (dig (grN f k)) (.slice a8 l8 c8) (.slice ma ml mc) B8 (R8'.out.old O8) (HM.out.old O8) (Qwk ((f k:Nat):Int)).1 (Qwk ((grN f k:Nat):Int)).1 (by show cnt (f k)<=_;omega) (by show cnt (grN f k)<=_;omega));rw [show val (dig (f k))=f k from Qai _,show val (dig (grN f k))=grN f k from Qai _] at K3;have M8:=Qag (HM.out.old O8);have R8:=Qag (R8'.out.old O8);obtain ⟨wb,hwb⟩:∃wb,wr.heap.size=wb:=⟨_,rfl⟩
   rw [hwb] at Y8;have y1:=Y8.out.c (i:=1) rfl;clear q0 q1 r8 r8' hdk hz hnb hl8 O8 HM HG hbk hgc R8';go_wp2_with fail;refine K3.out.mono ?_
   rintro e w5 ⟨rfl,g5⟩;have G5:=Qag (Old.trans G8.out g5);have M5:=Qag (M8.out.old g5);have R5:=Qag (R8.out.old g5);have Y5:=Qag (Y8.out.old g5);have y5:=Y5.out.c (i:=1) rfl;clear g5 y1 K3 M8 R8 Y8 G8 hB8 hwb q0' q1'
   by_cases hgt:grN f k<f k
   ·have hc0:=Qgt.2 hgt
    have HN5:Hid (Row w5 (.slice a8 l8 c8) (toI (dig (grN f (k+1))))):=by
     show Row _ _ _
     rw [show grN f (k+1)=f k by unfold grN;omega];exact R5.out
    generalize Qby (f k) (grN f k)=cm at *;have d5:decide (0<cm)=true:=decide_eq_true hc0;clear hc0 hgt M5 R5;go_wp2_with fail;exact ⟨⟨k+1,_,_,_,by omega,by go_num,rfl,HN5,G5⟩,by simp [intOf];omega⟩
   ·have hc0:¬0<Qby (f k) (grN f k):=fun h=>hgt (Qgt.1 h)
    have HN5:Hid (Row w5 (.slice ma ml mc) (toI (dig (grN f (k+1))))):=by
     show Row _ _ _
     rw [show grN f (k+1)=grN f k by rw [show grN f (k+1)=max (grN f k) (f k) from rfl];omega];exact M5.out
    generalize Qby (f k) (grN f k)=cm at *;have d5:decide (0<cm)=false:=decide_eq_false hc0;clear hc0 hgt M5 R5;go_wp2_with fail;exact ⟨⟨k+1,_,_,_,by omega,by go_num,rfl,HN5,G5⟩,by simp [intOf];omega⟩
  ·have d1:decide ((k:Int)<(Nn:Int))=false:=decide_eq_false (by omega);obtain rfl:k=Nn:=by omega
   go_wp2_with fail;go_ret;exact ⟨_,rfl,Old.trans G3.out HG.out,HM.out⟩
end Go.Proofs.YtejhpljichmmpaaGreatDoor
namespace Go.Proofs.YtejhpljichmmpaaGreatDoor
open Go.ChangeShapes Go.WideShapes Go.ChangeAt Go.RowKit
open M1
open M2
theorem Qnw {Nn:Nat} {ps:List Int} {xss yss:List (List Int)} (hx:OkX Nn ps xss) (hy:OkX Nn ps yss):Qa3 Qej ps xss (Qa3 Qfu ps yss yss)=Qa3 Qd7 ps xss yss:=by
 unfold Qa3;refine List.map_congr_left fun k hk=>?_
 have hk':k<ps.length:=by simpa using hk
 have e:((List.range ps.length).map fun k=>Qb3 Qfu (ps.getD k 0) (yss.getD k []) (yss.getD k [])).getD k []=Qb3 Qfu (ps.getD k 0) (yss.getD k []) (yss.getD k []):=by simp [List.getD,hk']
 rw [e];unfold Qb3;refine List.map_congr_left fun i hi=>?_
 have hi':i<(xss.getD k []).length:=by simpa using hi
 have h1:=(hx k hk').1;have h2:=(hy k hk').1;have e2:(Qb3 Qfu (ps.getD k 0) (yss.getD k []) (yss.getD k [])).getD i 0=Qfu (ps.getD k 0) ((yss.getD k []).getD i 0) ((yss.getD k []).getD i 0):=Qcq _ _ _ _ _ (by omega);have e3:((List.range (yss.getD k []).length).map fun i=>Qfu (ps.getD k 0) ((yss.getD k []).getD i 0) ((yss.getD k []).getD i 0)).getD i 0=Qfu (ps.getD k 0) ((yss.getD k []).getD i 0) ((yss.getD k []).getD i 0):=e2;rw [e3];unfold Qej Qfu Qd7;rw [Int.add_emod,Int.emod_emod,<- Int.add_emod,<- Int.sub_eq_add_neg]
theorem Qgh (N T E:Int) (ps:List Int) (xss yss:List (List Int)) (ss ws:List Int) (v u2 u3:Value) (aA aB:Option Addr) (cA cB:Nat) (w:World) (hv:Row w v ps) (hf:Fit v) (hx:Qbx w (.slice aA xss.length cA) xss) (hy:Qbx w (.slice aB yss.length cB) yss) (hlx:xss.length<=1048576) (hrx:∀r∈xss,r.length<=1048576) (hly:yss.length<=1048576) (hry:∀r∈yss,r.length<=1048576) (hu2:Row w u2 ss) (hl2:ss.length<=9223372036854775807) (hu3:Row w u3 ws) (hl3:ws.length<=9223372036854775807) (hlp:ps.length<=9223372036854775807) (hxp:∀x∈ps,-9223372036854775808<=x/\x<=9223372036854775807) (Z:List Nat) (ok:Bool) (hyy:(prB N T E ps&&(rwB N ps xss&&rwB N ps yss)&&wiB N 1 ss&&wmB N (-1099511627776) 1099511627776 ws)=true->Z=dig (niN N.toNat ps (Qa3 Qd7 ps (ppL N.toNat ps yss xss (smS ps ss)) (smS ps ws)))/\ok=true) (hnn:(prB N T E ps&&(rwB N ps xss&&rwB N ps yss)&&wiB N 1 ss&&wmB N (-1099511627776) 1099511627776 ws)=false->Z=[]/\ok=false) :
 Calls Tryz.prog 32 #[.agg #[.int .i64 N,.int .i64 T,.int .i64 E,v],u2,.agg #[.slice aA xss.length cA,.slice aB yss.length cB],u3] w (WbN w Z ok):=by
 have HY:=Qag hyy;have HNN:=Qag hnn;clear hyy hnn;obtain ⟨Rf,hRb⟩:=Qom N ps
 have HRB:Hid (∀Nn:Nat,N=Nn->spB N ps=true->RtS Nn ps Rf):=fun Nn e hs=>by
  subst e;exact Qvv hRb hs
 have HU2:=Qag hu2;have HU3:=Qag hu3;have HV:Hid (Row w v ps/\Fit v):=⟨hv,hf⟩;have HX:=Qag hx;have HYR:=Qag hy;have HRX:=Qag hrx;have HRY:=Qag hry;have K1:=Qag (fun W (g:Old w W)=>Qhd N T E ps ss v u2 W (hv.old g) hf (hu2.old g) hlp hl2 hxp);obtain ⟨a0,c0,rfl⟩:=hv.slice;obtain ⟨sa,sc,rfl⟩:=hu2.slice;obtain ⟨wa,wc,rfl⟩:=hu3.slice;have K2:=Qag (fun (hs:spB N ps=true) W (g:Old w W)=>Qhu N T E ps xss yss a0 c0 aA aB cA cB W (hv.old g) (hx.old g) (hy.old g) hlx hrx hly hry hs);have K3:=Qag (fun W (g:Old w W)=>Qiv N T E a0 ps.length c0 1099511627776 ws (.slice wa ws.length wc) W (hu3.old g) hl3 (by omega) (by omega));rw [<- Qre N 1099511627776 ws] at K3;clear hv hf hu2 hu3 hRb hrx hry hx hy hlx hly hlp hxp hl2 hl3;obtain ⟨B1,hB1⟩:∃B:World,((w.alloc (.cells #[.int .i64 N,.int .i64 T,.int .i64 E,.slice a0 ps.length c0] 34)).alloc (.cells #[.slice aA xss.length cA,.slice aB yss.length cB] 68)).alloc (.cells #[.bool false,.slice none 0 0] 31)=B:=⟨_,rfl⟩
 have O1:Hid (Old w B1):=by rw [<- hB1];exact (((Old.refl w).alloc _).alloc _).alloc _
 have P1:Hid (Bk B1 w.heap.size #[.int .i64 N,.int .i64 T,.int .i64 E,.slice a0 ps.length c0] 34):=by rw [<- hB1];exact ((Bk.new' w _ _ rfl).alloc _).alloc _
 have C1:Hid (Bk B1 (w.heap.size+1) #[.slice aA xss.length cA,.slice aB yss.length cB] 68):=by rw [<- hB1];exact (Bk.new' _ _ _ (by simp)).alloc _
 have R1:Hid (Bk B1 (w.heap.size+1+1) #[.bool false,.slice none 0 0] 31):=by rw [<- hB1];exact Bk.new' _ _ _ (by simp)
 obtain ⟨kp,hkp⟩:∃kp,w.heap.size=kp:=⟨_,rfl⟩
 have HKP:=Qag hkp;rw [hkp] at P1 C1 R1;have x0:=P1.out.c (i:=0) rfl;have x1:=P1.out.c (i:=1) rfl;have x2:=P1.out.c (i:=2) rfl;have x3:=P1.out.c (i:=3) rfl
 cases hB:prB N T E ps&&wiB N 1 ss
 ·rw [hB] at K1
  have HB:Hid (Z=[]/\ok=false):=HNN.out (by
   cases h1:prB N T E ps <;> rw [h1] at hB <;> simp_all)
  clear hB;go_enter Tryz.func32,Tryz.ntmps32;go_wp2_with fail;refine (K1.out _ O1.out).mono ?_
  rintro e w2 ⟨rfl,g2⟩;have G2:=Qag (Old.trans O1.out g2);have R2:=Qag (R1.out.old g2);clear g2 x0 x1 x2 x3 hB1 hkp;have z0:=R2.out.c (i:=0) rfl;have z1:=R2.out.c (i:=1) rfl;have f0:w2.frozen? ⟨kp+1+1,0,none⟩=false:=frozen_of_row _ _ _ _ _ R2.out
  have f1:w2.frozen? ⟨kp+1+1,1,none⟩=false:=frozen_of_row _ _ _ _ _ R2.out
  go_wp2_with fail;have qq:=Qde R2.out (.bool false) (.slice none 0 0);have q0:=qq.c (i:=0) rfl;have q1:=qq.c (i:=1) rfl;have hkp':=HKP.out;refine bodyPost_ret (v:=.tuple #[.agg #[.bool false,.slice none 0 0],.bool false]) (by simp [results,Tryz.results32,go_sem,q0,q1]) rfl ?_
  rw [HB.out.1,HB.out.2];exact ⟨_,rfl,(G2.out.own (p:=⟨kp+1+1,0,none⟩) (by show w.heap.size<=kp+1+1;omega) _).own (p:=⟨kp+1+1,1,none⟩) (by show w.heap.size<=kp+1+1;omega) _,Qc1 _ _⟩
 rw [hB] at K1;rw [Bool.and_eq_true] at hB;obtain ⟨hpr,hwi⟩:=hB;have hsp:=Qr9 hpr;have K2':=Qag (K2.out hsp);clear K2
 cases hC:rwB N ps xss&&rwB N ps yss
 ·rw [hC] at K2';have HB:Hid (Z=[]∧ok=false):=HNN.out (by rw [hpr,hC];rfl);clear hC hpr hwi hsp;go_enter Tryz.func32,Tryz.ntmps32;go_wp2_with fail;refine (K1.out _ O1.out).mono ?_
  rintro e w2 ⟨rfl,g2⟩;have G2:=Qag (Old.trans O1.out g2);have P2:=Qag (P1.out.old g2);have C2:=Qag (C1.out.old g2);have R2:=Qag (R1.out.old g2);clear g2 x0 x1 x2 x3 hB1 hkp P1 C1;have x0:=P2.out.c (i:=0) rfl;have x1:=P2.out.c (i:=1) rfl;have x2:=P2.out.c (i:=2) rfl;have x3:=P2.out.c (i:=3) rfl;have y0:=C2.out.c (i:=0) rfl;have y1:=C2.out.c (i:=1) rfl;go_wp2_with fail;refine (K2'.out _ G2.out).mono ?_
  rintro e w3 ⟨rfl,g3⟩;have G3:=Qag (Old.trans G2.out g3);have R3:=Qag (R2.out.old g3);clear g3 x0 x1 x2 x3 y0 y1;have z0:=R3.out.c (i:=0) rfl;have z1:=R3.out.c (i:=1) rfl;have f0:w3.frozen? ⟨kp+1+1,0,none⟩=false:=frozen_of_row _ _ _ _ _ R3.out
  have f1:w3.frozen? ⟨kp+1+1,1,none⟩=false:=frozen_of_row _ _ _ _ _ R3.out
  go_wp2_with fail;have qq:=Qde R3.out (.bool false) (.slice none 0 0);have q0:=qq.c (i:=0) rfl;have q1:=qq.c (i:=1) rfl;have hkp':=HKP.out;refine bodyPost_ret (v:=.tuple #[.agg #[.bool false,.slice none 0 0],.bool false]) (by simp [results,Tryz.results32,go_sem,q0,q1]) rfl ?_
  rw [HB.out.1,HB.out.2];exact ⟨_,rfl,(G3.out.own (p:=⟨kp+1+1,0,none⟩) (by show w.heap.size<=kp+1+1;omega) _).own (p:=⟨kp+1+1,1,none⟩) (by show w.heap.size<=kp+1+1;omega) _,Qc1 _ _⟩
 rw [hC] at K2'
 cases hW:wmB N (-1099511627776) 1099511627776 ws
 ·rw [hW] at K3;have HB:Hid (Z=[]∧ok=false):=HNN.out (by rw [hpr,hC,hwi,hW];rfl);clear hC hpr hwi hsp hW;go_enter Tryz.func32,Tryz.ntmps32;go_wp2_with fail;refine (K1.out _ O1.out).mono ?_
  rintro e w2 ⟨rfl,g2⟩;have G2:=Qag (Old.trans O1.out g2);have P2:=Qag (P1.out.old g2);have C2:=Qag (C1.out.old g2);have R2:=Qag (R1.out.old g2);clear g2 x0 x1 x2 x3 hB1 hkp P1 C1;have x0:=P2.out.c (i:=0) rfl;have x1:=P2.out.c (i:=1) rfl;have x2:=P2.out.c (i:=2) rfl;have x3:=P2.out.c (i:=3) rfl;have y0:=C2.out.c (i:=0) rfl;have y1:=C2.out.c (i:=1) rfl;go_wp2_with fail;refine (K2'.out _ G2.out).mono ?_
  rintro e w3 ⟨rfl,g3⟩;have G3:=Qag (Old.trans G2.out g3);have P3:=Qag (P2.out.old g3);have R3:=Qag (R2.out.old g3);clear g3 x0 x1 x2 x3 y0 y1 P2;have x0:=P3.out.c (i:=0) rfl;have x1:=P3.out.c (i:=1) rfl;have x2:=P3.out.c (i:=2) rfl;have x3:=P3.out.c (i:=3) rfl;go_wp2_with fail;refine (K3.out _ G3.out).mono ?_
  rintro e w4 ⟨rfl,g4⟩;have G4:=Qag (Old.trans G3.out g4);have R4:=Qag (R3.out.old g4);clear g4 x0 x1 x2 x3;have z0:=R4.out.c (i:=0) rfl;have z1:=R4.out.c (i:=1) rfl;have f0:w4.frozen? ⟨kp+1+1,0,none⟩=false:=frozen_of_row _ _ _ _ _ R4.out
  have f1:w4.frozen? ⟨kp+1+1,1,none⟩=false:=frozen_of_row _ _ _ _ _ R4.out
  go_wp2_with fail;have qq:=Qde R4.out (.bool false) (.slice none 0 0);have q0:=qq.c (i:=0) rfl;have q1:=qq.c (i:=1) rfl;have hkp':=HKP.out;refine bodyPost_ret (v:=.tuple #[.agg #[.bool false,.slice none 0 0],.bool false]) (by simp [results,Tryz.results32,go_sem,q0,q1]) rfl ?_
  rw [HB.out.1,HB.out.2];exact ⟨_,rfl,(G4.out.own (p:=⟨kp+1+1,0,none⟩) (by show w.heap.size<=kp+1+1;omega) _).own (p:=⟨kp+1+1,1,none⟩) (by show w.heap.size<=kp+1+1;omega) _,Qc1 _ _⟩
 rw [hW] at K3;obtain ⟨eZ,eo⟩:=HY.out (by rw [hpr,hC,hwi,hW];rfl);subst eo;obtain ⟨hz4,hbb,_⟩:=Qdr hsp;obtain ⟨Nn,rfl⟩:∃Nn:Nat,N=(Nn:Int):=⟨N.toNat,by omega⟩
 rw [show ((Nn:Int).toNat)=Nn by omega] at eZ;obtain ⟨hsl,hsv⟩:=Ql8 hwi;obtain ⟨hwl,hwv⟩:=Qpf hW;have hpb:∀k,k<ps.length->2<=ps.getD k 0/\ps.getD k 0<=268435456:=fun k hk=>Qpn ((Qc0 hbb).2 k hk)
 have hps:=(Qc0 hbb).1;have hS4:Sz4 Nn:=by unfold Sz4;omega
 have hNB:2<=Nn/\Nn<=16:=by omega
 have HNB:=Qag hNB;obtain ⟨b1,b2⟩:=(Bool.and_eq_true _ _).mp hC;have OX:=Qlv b1;have OY:=Qlv b2;have lx:=(Qei b1).1;have ly:=(Qei b2).1;have OS:OkX Nn ps (smS ps ss):=Qfe hpb hsl;have OW:OkX Nn ps (smS ps ws):=Qfe hpb hwl;have HRT:Hid (RtS Nn ps Rf):=HRB.out Nn rfl hsp;have OM:OkX Nn ps (Qlw Nn ps xss (smS ps ss)):=Qsi HRT.out;have OP:OkX Nn ps (ppL Nn ps yss xss (smS ps ss)):=Qnh hpb OY;have OU:OkX Nn ps (Qa3 Qd7 ps (ppL Nn ps yss xss (smS ps ss)) (smS ps ws)):=Qnt (yss:=smS ps ws) hpb OP;have HGR:Hid (Gr Nn ps (Qa3 Qd7 ps (ppL Nn ps yss xss (smS ps ss)) (smS ps ws))):=Qsy hbb (by rw [Qca]) OU;have hsub:Qa3 Qej ps (ppL Nn ps yss xss (smS ps ss)) (Qa3 Qfu ps (smS ps ws) (smS ps ws))=(Qa3 Qd7 ps (ppL Nn ps yss xss (smS ps ss)) (smS ps ws)):=Qnw OP OW
 have ON:OkX Nn ps (Qa3 Qfu ps (smS ps ws) (smS ps ws)):=fun k hk=>by
  rw [Qc2 _ _ _ _ _ hk,Qb9];refine ⟨(OW k hk).1,fun i hi=>?_⟩;rw [Qcq _ _ _ _ _ (by rw [(OW k hk).1];exact hi)];have:=hpb k hk;exact ⟨Int.emod_nonneg _ (by omega),Int.emod_lt_of_pos _ (by omega)⟩
 have KS:=Qag (fun W=>Qbp (Nn:Int) T E a0 ps.length c0 W);have KA:=Qag (fun W (g:Old w W)=>Qf9 (Nn:Int) T E ps ss (.slice a0 ps.length c0) (.slice sa ss.length sc) W (HV.out.1.old g) (HU2.out.old g) hps (by omega) hpb (fun i hi=>by have:=hsv i hi;omega));have KB:=Qag (fun W u (g:Old w W) (h:Qbx W u (smS ps ss))=>Qx8 Nn ps Rf xss (smS ps ss) (.slice a0 ps.length c0) (.slice aA xss.length cA) u W (HV.out.1.old g) (HX.out.old g) h hS4 hps HRT.out lx (Qj0 _ _) OX OS);have KC:=Qag (fun W u (g:Old w W) (h:Qbx W u (Qlw Nn ps xss (smS ps ss)))=>Qsk Nn ps yss (Qlw Nn ps xss (smS ps ss)) (.slice a0 ps.length c0) (.slice aB yss.length cB) u W (HV.out.1.old g) (HYR.out.old g) h hNB.2 hps hpb ly (Qo9 _ _ _ _) OY OM);have KD:=Qag (fun W (g:Old w W)=>Qf9 (Nn:Int) T E ps ws (.slice a0 ps.length c0) (.slice wa ws.length wc) W (HV.out.1.old g) (HU3.out.old g) hps (by omega) hpb hwv)
 have KE:=Qag (fun W u (g:Old w W) (h:Qbx W u (smS ps ws))=>Qpx (Nn:Int) ps (smS ps ws) (.slice a0 ps.length c0) u W (HV.out.1.old g) h hps (Qj0 _ _) (fun k hk=>by
  obtain ⟨h1,h2⟩:=OW k hk;have hp:=hpb k hk;exact ⟨by omega,hp,fun i hi=>by have:=h2 i (by omega);omega⟩))
 have KF:=Qag (fun W u u' (g:Old w W) (h:Qbx W u (ppL Nn ps yss xss (smS ps ss))) (h':Qbx W u' (Qa3 Qfu ps (smS ps ws) (smS ps ws)))=>Qsk Nn ps (ppL Nn ps yss xss (smS ps ss)) (Qa3 Qfu ps (smS ps ws) (smS ps ws)) (.slice a0 ps.length c0) u u' W (HV.out.1.old g) h h' hNB.2 hps hpb (by unfold ppL;rw [Qca]) (Qca _ _ _ _) OP ON);rw [hsub] at KF;have K5:=Qag (fun W u (g:Old w W) (h:Qbx W u (Qa3 Qd7 ps (ppL Nn ps yss xss (smS ps ss)) (smS ps ws)))=>Qnv Nn T E ps (Qa3 Qd7 ps (ppL Nn ps yss xss (smS ps ss)) (smS ps ws)) (.slice a0 ps.length c0) u W (HV.out.1.old g) h (by have:=HNB.out;omega) hps HGR.out);have hZ':dig (grN (fun k=>(ctZ ps (Qa3 Qd7 ps (ppL Nn ps yss xss (smS ps ss)) (smS ps ws)) k).natAbs) Nn)=Z:=eZ.symm;rw [hZ'] at K5
 have hZ40:Z.length<=40:=by
  rw [eZ];have:cnt (niN Nn ps (Qa3 Qd7 ps (ppL Nn ps yss xss (smS ps ss)) (smS ps ws)))<=7:=Qnu (fun k hk=>Ql4 HGR.out k hk)
  show cnt _<=40
  omega
 have K6:=Qag (fun W u (h:Row W u (toI Z))=>Qxt false Z u W h hZ40)
 change Hid (∀(W:World) (u:Value),Old w W->Qbx W u (Qlw Nn ps xss (smS ps ss))->Calls Tryz.prog 85 #[.agg #[.int .i64 (Nn:Int),.slice a0 ps.length c0],.slice aB yss.length cB,u] W fun e w'=>∃v',e=.returned v'/\Old W w'/\OwS (ppL Nn ps yss xss (smS ps ss)) w' W.heap.size w'.heap.size v') at KC
 clear hC hpr hwi hsp hW eZ hz4 hbb hsl hsv hwl hwv b1 b2 hps hpb hS4 hNB OX OY lx ly OS OW HRT OM OP OU hsub ON hZ' hZ40 HGR HNB HY HNN HRB HX HYR HRX HRY;generalize (Qa3 Qd7 ps (ppL Nn ps yss xss (smS ps ss)) (smS ps ws))=UU at *;generalize Qa3 Qfu ps (smS ps ws) (smS ps ws)=NW at *;generalize ppL Nn ps yss xss (smS ps ss)=PP at *;generalize Qlw Nn ps xss (smS ps ss)=MM at *;generalize smS ps ws=SW at *;generalize smS ps ss=SS at *;go_enter Tryz.func32,Tryz.ntmps32;go_wp2_with fail;refine (K1.out _ O1.out).mono ?_
 rintro e w2 ⟨rfl,g2⟩;have G2:=Qag (Old.trans O1.out g2);have P2:=Qag (P1.out.old g2);have C2:=Qag (C1.out.old g2);have R2:=Qag (R1.out.old g2);clear g2 x0 x1 x2 x3 hB1 hkp P1 C1 R1 O1 K1;have x0:=P2.out.c (i:=0) rfl;have x1:=P2.out.c (i:=1) rfl;have x2:=P2.out.c (i:=2) rfl;have x3:=P2.out.c (i:=3) rfl;have y0:=C2.out.c (i:=0) rfl;have y1:=C2.out.c (i:=1) rfl;go_wp2_with fail;refine (K2'.out _ G2.out).mono ?_
 rintro e w3 ⟨rfl,g3⟩;have G3:=Qag (Old.trans G2.out g3);have P3:=Qag (P2.out.old g3);have C3:=Qag (C2.out.old g3);have R3:=Qag (R2.out.old g3);clear g3 x0 x1 x2 x3 y0 y1 P2 C2 R2 G2 K2';have x0:=P3.out.c (i:=0) rfl;have x1:=P3.out.c (i:=1) rfl;have x2:=P3.out.c (i:=2) rfl;have x3:=P3.out.c (i:=3) rfl;go_wp2_with fail;refine (K3.out _ G3.out).mono ?_
 rintro e w4 ⟨rfl,g4⟩;have G4:=Qag (Old.trans G3.out g4);have P4:=Qag (P3.out.old g4);have C4:=Qag (C3.out.old g4);have R4:=Qag (R3.out.old g4);clear g4 x0 x1 x2 x3 P3 C3 R3 G3 K3;have x0:=P4.out.c (i:=0) rfl;have x1:=P4.out.c (i:=1) rfl;have x2:=P4.out.c (i:=2) rfl;have x3:=P4.out.c (i:=3) rfl;go_wp2_with fail;refine (KS.out _).mono ?_
 rintro e w5 ⟨rfl,g5⟩;obtain ⟨B5,hB5⟩:∃B:World,w5.alloc (.cells #[.int .i64 (Nn:Int),.slice a0 ps.length c0] 80)=B:=⟨_,rfl⟩
 have O5:Old w4 B5:=by rw [<- hB5];exact g5.alloc _
 have G5:=Qag (Old.trans G4.out O5);have P5:=Qag (P4.out.old O5);have C5:=Qag (C4.out.old O5);have R5:=Qag (R4.out.old O5);have S5:Hid (Bk B5 w5.heap.size #[.int .i64 (Nn:Int),.slice a0 ps.length c0] 80):=by rw [<- hB5];exact Bk.new' w5 _ _ rfl
 obtain ⟨ks,hks⟩:∃k,w5.heap.size=k:=⟨_,rfl⟩
 rw [hks] at S5;clear g5 x0 x1 x2 x3 P4 C4 R4 G4 O5 KS;go_wp2_with fail;refine Qyk B5 (Nn:Int) T E a0 ps.length c0 kp ks aA xss.length cA aB yss.length cB (kp+1) sa ss.length sc wa ws.length wc (fun W u=>Qbx W u SS) (fun W u=>Qbx W u MM) (fun W u=>Qbx W u PP) (fun W u=>Qbx W u SW) (fun W u=>Qbx W u NW) (fun W u=>Qbx W u UU) (fun W W' u h q=>h.old q) (fun W W' u h q=>h.old q) (fun W W' u h q=>h.old q) (fun W W' u h q=>h.old q) (fun W W' u h q=>h.old q) (fun W W' u h q=>h.old q) C5.out P5.out S5.out (fun W q=>?_) (fun W q u hu=>?_) (fun W q u hu=>?_) (fun W q=>?_) (fun W q u hu=>?_) (fun W q u u' hu hu'=>?_) _ _ ?_ ?_ ?_ ?_ ?_ ?_ ?_
 ·exact (KA.out W (Old.trans G5.out q)).mono fun e w' h=>by
   obtain ⟨u,e1,q1,o1⟩:=h;exact ⟨u,e1,q1,o1.rs⟩
 ·exact (KB.out W u (Old.trans G5.out q) hu).mono fun e w' h=>by
   obtain ⟨u,e1,q1,o1⟩:=h;exact ⟨u,e1,q1,o1.rs⟩
 ·exact (KC.out W u (Old.trans G5.out q) hu).mono fun e w' h=>by
   obtain ⟨u,e1,q1,o1⟩:=h;exact ⟨u,e1,q1,o1.rs⟩
 ·exact (KD.out W (Old.trans G5.out q)).mono fun e w' h=>by
   obtain ⟨u,e1,q1,o1⟩:=h;exact ⟨u,e1,q1,o1.rs⟩
 ·exact (KE.out W u (Old.trans G5.out q) hu).mono fun e w' h=>by
   obtain ⟨u,e1,q1,o1⟩:=h;exact ⟨u,e1,q1,o1.rs⟩
 ·exact (KF.out W u u' (Old.trans G5.out q) hu hu').mono fun e w' h=>by
   obtain ⟨u,e1,q1,o1⟩:=h;exact ⟨u,e1,q1,o1.rs⟩
 iterate 6 (·exact rfl)
 intro us w6 g6 h18;obtain ⟨na,nc,e18⟩:=h18.slice;have HN6:=Qag h18;rw [e18] at HN6;have G6:=Qag (Old.trans G5.out g6);have P6:=Qag (P5.out.old g6);have R6:=Qag (R5.out.old g6);simp only [Qah,Act.put,Qck,List.range,List.range.loop,List.map_cons,List.map_nil,List.getD_cons_zero,List.getD_cons_succ,List.setIfInBounds_toArray,List.set_cons_succ,List.set_cons_zero];simp only [e18];obtain ⟨nl,hnl⟩:∃l,UU.length=l:=⟨_,rfl⟩
 rw [hnl] at HN6 ⊢;clear g6 h18 e18 hnl P5 C5 R5 S5 G5 KA KB KC KD KE KF hB5 hks;have x0:=P6.out.c (i:=0) rfl;have x1:=P6.out.c (i:=1) rfl;have x2:=P6.out.c (i:=2) rfl;have x3:=P6.out.c (i:=3) rfl;go_wp2_with fail;refine (K5.out _ _ G6.out HN6.out).mono ?_
 rintro e w7 ⟨v7,rfl,g7,r7⟩;obtain ⟨ma,mc,e7⟩:=r7.sliceN;subst e7;have G7:=Qag (Old.trans G6.out g7);have R7:=Qag (R6.out.old g7);have M7:=Qag r7;obtain ⟨zl,hzl⟩:∃l,Z.length=l:=⟨_,rfl⟩
 rw [hzl] at M7 ⊢;clear g7 r7 x0 x1 x2 x3 P6 R6 K5 HN6 G6;go_wp2_with fail;refine (K6.out _ _ M7.out).mono ?_
 rintro e w8 ⟨v8,rfl,g8,o8⟩;have G8:=Qag (Old.trans G7.out g8);have R8:=Qag (R7.out.old g8);have O8:=Qag (o8.low G7.out.size);obtain ⟨va,vc,e8⟩:=(Own.row o8).sliceN;subst e8;rw [hzl] at O8 ⊢;have z0:=R8.out.c (i:=0) rfl;have z1:=R8.out.c (i:=1) rfl;have f0:w8.frozen? ⟨kp+1+1,0,none⟩=false:=frozen_of_row _ _ _ _ _ R8.out
 have f1:w8.frozen? ⟨kp+1+1,1,none⟩=false:=frozen_of_row _ _ _ _ _ R8.out
 clear g8 o8 hzl K6 M7 R7 G7;go_wp2_with fail;have qq:=Qde R8.out (.bool false) (.slice va zl vc);have q0:=qq.c (i:=0) rfl;have q1:=qq.c (i:=1) rfl;have hkp':=HKP.out;refine bodyPost_ret (v:=.tuple #[.agg #[.bool false,.slice va zl vc],.bool true]) (by simp [results,Tryz.results32,go_sem,q0,q1]) rfl ?_
 refine ⟨_,rfl,(G8.out.own (p:=⟨kp+1+1,0,none⟩) (by show w.heap.size<=kp+1+1;omega) _).own (p:=⟨kp+1+1,1,none⟩) (by show w.heap.size<=kp+1+1;omega) _,?_⟩;exact Qfg (Qfg O8.out R8.out _) (Qns R8.out (.bool false)) _
end Go.Proofs.YtejhpljichmmpaaGreatDoor
