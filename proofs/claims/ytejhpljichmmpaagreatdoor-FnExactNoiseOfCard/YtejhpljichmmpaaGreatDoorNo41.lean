/- Proved: what its theorems say. -/
import Derived.Test.YtejhpljichmmpaaGreatDoorNo40
set_option linter.unusedVariables false
set_option linter.unusedSimpArgs false
set_option maxHeartbeats 8000000
set_option maxRecDepth 100000
namespace Go.Proofs.YtejhpljichmmpaaGreatDoor
open Go.ChangeShapes Go.WideShapes Go.ChangeAt Go.RowKit
open M2
theorem Qxs (b:Nat) (x:Int) (w:World) (hc:w.cell? ⟨b,0,none⟩=some (.int .i64 x)) :
 Calls Tryz.prog 119 #[.pointer (some ⟨b,0,none⟩)] w fun e w'=>e=.returned (.int .i64 x)/\w'=w:=by
 have hl:=run_call_load (P:=Tryz.prog) Tryz.func171 (by kernel_rfl) (by kernel_rfl) (by kernel_rfl) .i64 (by kernel_rfl) hc;go_enter Tryz.func119,Tryz.ntmps119;go_wp2_with fail;go_ret;exact ⟨rfl,rfl⟩
theorem Q0c (b:Nat) (x:Int) (u:Value) (w:World) (hc:w.cell? ⟨b,0,none⟩=some u) (hz:w.frozen? ⟨b,0,none⟩=false) :
 Calls Tryz.prog 120 #[.pointer (some ⟨b,0,none⟩),.int .i64 x] w fun e w'=>(∃v,e=.returned v)/\w'=w.setCell ⟨b,0,none⟩ (.int .i64 x):=by
 have hl:=run_call_store (P:=Tryz.prog) Tryz.func172 (by kernel_rfl) (by kernel_rfl) (by kernel_rfl) (by kernel_rfl) (k:=.i64) (y:=x) hc hz;go_enter Tryz.func120,Tryz.ntmps120;go_wp2_with fail
 go_end0
 exact ⟨⟨_,rfl⟩,rfl⟩
theorem Qk9 {w:World} {k:Nat} {x y:Value} {t:TypeId} (h:Bk w k #[x,y] t) (x':Value):Bk (w.setCell ⟨k,0,none⟩ x') k #[x',y] t:=heap_setCell_same w k 0 _ _ x' h
theorem Qek {w:World} {k:Nat} {x y:Value} {t:TypeId} (h:Bk w k #[x,y] t) (x' y':Value):Bk ((w.setCell ⟨k,0,none⟩ x').setCell ⟨k,1,none⟩ y') k #[x',y'] t:=heap_setCell_same _ k 1 _ _ y' (Qk9 h x')
theorem Qds {W:World} {lo g j:Nat} {v:Value} {xs:List Int} {cs:Array Value} (h:Own W lo v xs) (hg:Bk W g cs 31) (y:Value):Own (W.setCell ⟨g,j,none⟩ y) lo v xs:=by
 refine ⟨h.1,?_⟩;rcases h.2 with hn | ⟨p,cap,cur,rfl,hb,hgg,rest⟩
 ·exact .inl hn
 ·refine .inr ⟨p,cap,cur,rfl,hb,?_,rest⟩
  have hne:p≠g:=fun e=>by
   have hg':W.heap[g]? = some (.cells cs 31 (0,0)):=hg
   rw [e,hg'] at hgg;simp at hgg
  rw [heap_setCell_other W ⟨g,j,none⟩ p _ hne];exact hgg
def grN (f:Nat->Nat):Nat->Nat
 | 0=>0
 | k+1=>max (grN f k) (f k)
theorem Qxt (f:Nat->Nat) (B:Nat):∀n,(∀k,k<n->f k<=B)->grN f n<=B
 | 0,_=>Nat.zero_le _
 | n+1,h=>by
   have h1:=Qxt f B n (fun k hk=>h k (by omega));have h2:=h n (by omega);unfold grN;omega
theorem Qg3 {a b:Nat}:(0<Qb5 a b)↔b<a:=by
 unfold Qb5;split
 ·constructor <;> intro h <;> omega
 ·split
  ·constructor <;> intro h <;> omega
  ·constructor <;> intro h <;> omega
theorem Q0d (z:Int):val (dg z)=z.natAbs:=Qah _
theorem Qro (Nn:Nat) (ps:List Int) (zss:List (List Int)) (base:Nat) (v:Value) (w:World) (hN:1<=Nn/\Nn<=16) (hG:Gr Nn ps zss) (h:WsX Nn ps zss base w v) :
 Calls Tryz.prog 59 #[v] w fun e w'=>∃v',e=.returned (.agg #[.bool false,v'])/\Old w w'/\Own w' w.heap.size v' (toI (dig (grN (fun k=>(ctZ ps zss k).natAbs) Nn))):=by
 obtain ⟨b,cap,rfl,hb,hc⟩:=h.at (by omega) hG
 have HC:Hid (∀k,k<Nn->∃a c,w.cell? ⟨b,k*2,none⟩=some (.bool (ng (ctZ ps zss k)))/\w.cell? ⟨b,k*2+1,none⟩=some (.slice a (dg (ctZ ps zss k)).length c)/\∀W,Old w W->Calls Tryz.prog 118 #[.agg #[.bool (ng (ctZ ps zss k)),.slice a (dg (ctZ ps zss k)).length c]] W fun e w'=>e=.returned (.agg (szV (ctZ ps zss k).natAbs))/\Old W w'):=fun k hk=>by
  obtain ⟨a,c,q0,q1,r⟩:=hc k hk;refine ⟨a,c,q0,q1,fun W g=>?_⟩;have:=Qs2 (ng (ctZ ps zss k)) (dg (ctZ ps zss k)) _ W (r.old g) (Qux _).1 (by have:=Qm2 hG k hk;omega);rw [Q0d] at this;exact this
 have HB:Hid (∀k,k<Nn->cnt (ctZ ps zss k).natAbs<=7):=fun k hk=>Qm2 hG k hk
 have HN:=Qao hN;have hNN:Nn<=16:=hN.2;clear hc h hG hN;obtain ⟨f,hf⟩:∃f:Nat->Nat,(fun k=>(ctZ ps zss k).natAbs)=f:=⟨_,rfl⟩
 have hf':∀k,(ctZ ps zss k).natAbs=f k:=fun k=>by rw [<- hf]
 rw [hf];simp only [hf'] at HC HB;clear hf hf';obtain ⟨B1,hB1⟩:∃B:World,(w.alloc (.cells #[.bool false,.slice none 0 0] 31)).alloc (.cells #[.int .i64 0] 180)=B:=⟨_,rfl⟩
 have O1:Hid (Old w B1):=by rw [<- hB1];exact ((Old.refl w).alloc _).alloc _
 have R1:Hid (Bk B1 w.heap.size #[.bool false,.slice none 0 0] 31):=by rw [<- hB1];exact (Bk.new' w _ _ rfl).alloc _
 have A1:Hid (Bk B1 (w.heap.size+1) #[.int .i64 0] 180):=by rw [<- hB1];exact Bk.new' _ _ _ (by simp)
 obtain ⟨kr,hkr⟩:∃kr,w.heap.size=kr:=⟨_,rfl⟩
 have HKR:=Qao hkr;rw [hkr] at R1 A1;have hbk:b<kr:=by omega
 go_enter Tryz.func59,Tryz.ntmps59;go_wp2_with fail
 go_loopw [8,4,5] (fun i _ _ W=>∃(k p:Nat),k<=Nn/\i=.int .i64 k/\Hid (p<Nn/\(k=0->p=0)/\(0<k->f p=grN f k))/\Hid (Old w W)/\Hid (Bk W kr #[.bool false,.slice none 0 0] 31)/\Hid (Bk W (kr+1) #[.int .i64 p] 180)) (fun i _ _ _=>Nn - (intOf i).toNat)
 case atStart=>exact ⟨0,0,by omega,rfl,⟨by have:=HN.out;omega,fun _=>rfl,fun h=>by omega⟩,O1,R1,A1⟩
 case round=>
  obtain ⟨k,p,hk,rfl,HP,HG,R2,A2⟩:=hrel;clear O1 R1 A1
  by_cases hlt:k<Nn
  ·have d1:decide ((k:Int)<(Nn:Int))=true:=decide_eq_true (by omega);have iL:(k:Int)<(Nn:Int):=by omega
   have pL:(p:Int)<(Nn:Int):=by have:=HP.out;omega
   obtain ⟨a1,c1,q0,q1,K1⟩:=HC.out k hlt;obtain ⟨a2,c2,q2,q3,K2⟩:=HC.out p HP.out.1;have hcm:=Qi3 (f k) (f p);have hbk1:=HB.out k hlt;have hbk2:=HB.out p HP.out.1;have K3:=Qao (fun W=>hcm W (by omega) (by omega));have q0':=(HG.out.cell (p:=⟨b,k*2,none⟩) (by omega)).trans q0;have q1':=(HG.out.cell (p:=⟨b,k*2+1,none⟩) (by omega)).trans q1;generalize hz1:ctZ ps zss k=z1 at *;generalize hz2:ctZ ps zss p=z2 at *;have HK1:=Qao K1;have HK2:=Qao K2;obtain ⟨n1,hn1⟩:∃n,ng z1=n:=⟨_,rfl⟩
   obtain ⟨l1,hl1⟩:∃n,(dg z1).length=n:=⟨_,rfl⟩
   obtain ⟨n2,hn2⟩:∃n,ng z2=n:=⟨_,rfl⟩
   obtain ⟨l2,hl2⟩:∃n,(dg z2).length=n:=⟨_,rfl⟩
   rw [hn1] at q0' HK1;rw [hl1] at q1' HK1;rw [hn2] at q2 HK2;rw [hl2] at q3 HK2;have HQ2:=Qao q2;have HQ3:=Qao q3;obtain ⟨B8,hB8⟩:∃B:World,wr.alloc (.cells #[.bool n1,.slice a1 l1 c1] 31)=B:=⟨_,rfl⟩
   have O8:Old wr B8:=by rw [<- hB8];exact (Old.refl wr).alloc _
   have Y8:Hid (Bk B8 wr.heap.size #[.bool n1,.slice a1 l1 c1] 31):=by rw [<- hB8];exact Bk.new' wr _ _ rfl
   have G8:=Qao (Old.trans HG.out O8);have R8:=Qao (R2.out.old O8);have A8:=Qao (A2.out.old O8);obtain ⟨wb,hwb⟩:∃wb,wr.heap.size=wb:=⟨_,rfl⟩
   rw [hwb] at Y8;have y0:=Y8.out.c (i:=0) rfl;have y1:=Y8.out.c (i:=1) rfl;clear q0 q1 q2 q3 K1 K2 hcm O8 hz1 hz2 hn1 hl1 hn2 hl2 HG R2 A2 hbk1 hbk2;go_wp2_with fail;refine (HK1.out _ G8.out).mono ?_
   rintro e w3 ⟨rfl,g3⟩;have G3:=Qao (Old.trans G8.out g3);have R3:=Qao (R8.out.old g3);have A3:=Qao (A8.out.old g3);have c3:=A3.out.c (i:=0) rfl;have KL:=Qao (Qxs (kr+1) p w3 c3);have r2:=(G3.out.cell (p:=⟨b,p*2,none⟩) (by have:=HKR.out;show b<_;omega)).trans HQ2.out;have r3:=(G3.out.cell (p:=⟨b,p*2+1,none⟩) (by have:=HKR.out;show b<_;omega)).trans HQ3.out;clear g3 y0 y1 Y8 hB8 hwb q0' q1' c3 R8 A8 G8 HK1;go_wp2_with fail;refine KL.out.mono ?_
   rintro e w3' ⟨rfl,hw⟩;obtain rfl:w3=w3':=hw.symm;clear hw KL;go_wp2_with fail;refine (HK2.out _ G3.out).mono ?_
   rintro e w4 ⟨rfl,g4⟩;have G4:=Qao (Old.trans G3.out g4);have R4:=Qao (R3.out.old g4);have A4:=Qao (A3.out.old g4);clear g4 r2 r3 G3 R3 A3 HK2;go_wp2_with fail;refine (K3.out _).mono ?_
   rintro e w5 ⟨rfl,g5⟩;have G5:=Qao (Old.trans G4.out g5);have R5:=Qao (R4.out.old g5);have A5:=Qao (A4.out.old g5);clear g5 G4 R4 A4 K3
   by_cases hgt:f p<f k
   ·have hc0:=Qg3.2 hgt
    have HNP:Hid (k<Nn/\(k+1=0->k=0)/\(0<k+1->f k=grN f (k+1))):=⟨hlt,fun h=>by omega,fun _=>by
     unfold grN;obtain ⟨h1,h2,h3⟩:=HP.out;rcases Nat.eq_zero_or_pos k with h0 | h0
     ·subst h0;unfold grN;omega
     ·have:=h3 h0;omega⟩
    generalize Qb5 (f k) (f p)=cm at *;have d5:decide (0<cm)=true:=decide_eq_true hc0;have c5:=A5.out.c (i:=0) rfl;have f5:w5.frozen? ⟨kr+1,0,none⟩=false:=frozen_of_row _ _ _ _ _ A5.out
    have KS:=Qao (Q0c (kr+1) k _ w5 c5 f5);clear HP hc0 hgt;go_wp2_with fail;refine KS.out.mono ?_
    rintro e w6 ⟨⟨v6,rfl⟩,rfl⟩;have G6:Hid (Old w (w5.setCell ⟨kr+1,0,none⟩ (.int .i64 k))):=G5.out.own (p:=⟨kr+1,0,none⟩) (by have:=HKR.out;show w.heap.size<=kr+1;omega) _;have R6:Hid (Bk (w5.setCell ⟨kr+1,0,none⟩ (.int .i64 k)) kr #[.bool false,.slice none 0 0] 31):=(heap_setCell_other w5 ⟨kr+1,0,none⟩ kr _ (by show kr≠kr+1;omega)).trans R5.out;have A6:Hid (Bk (w5.setCell ⟨kr+1,0,none⟩ (.int .i64 k)) (kr+1) #[.int .i64 k] 180):=heap_setCell_same w5 (kr+1) 0 _ _ _ A5.out;generalize w5.setCell ⟨kr+1,0,none⟩ (.int .i64 (k:Int))=w7 at *;clear KS c5 f5 R5 A5 G5;go_wp2_with fail;exact ⟨⟨k+1,k,by omega,by go_num,HNP,G6,R6,A6⟩,by simp [intOf];omega⟩
   ·have hc0:¬0<Qb5 (f k) (f p):=fun h=>hgt (Qg3.1 h)
    have HNP:Hid (p<Nn/\(k+1=0->p=0)/\(0<k+1->f p=grN f (k+1))):=⟨HP.out.1,fun h=>by omega,fun _=>by
     unfold grN;obtain ⟨h1,h2,h3⟩:=HP.out;rcases Nat.eq_zero_or_pos k with h0 | h0
     ·have:=h2 h0;subst h0;subst this;unfold grN;omega
     ·have:=h3 h0;omega⟩
    generalize Qb5 (f k) (f p)=cm at *;have d5:decide (0<cm)=false:=decide_eq_false hc0;clear HP hc0 hgt;go_wp2_with fail;exact ⟨⟨k+1,p,by omega,by go_num,HNP,G5,R5,A5⟩,by simp [intOf];omega⟩
  ·have d1:decide ((k:Int)<(Nn:Int))=false:=decide_eq_false (by omega);obtain rfl:k=Nn:=by omega
   have pL:(p:Int)<(k:Int):=by have:=HP.out;omega
   obtain ⟨a2,c2,q2,q3,K2⟩:=HC.out p HP.out.1;have hbk2:=HB.out p HP.out.1;have HE:=Qao (HP.out.2.2 (by have:=HN.out;omega));have K4:=Qao (fun W=>Qhx (f p) W (by omega));have q2':=(HG.out.cell (p:=⟨b,p*2,none⟩) (by omega)).trans q2;have q3':=(HG.out.cell (p:=⟨b,p*2+1,none⟩) (by omega)).trans q3;generalize hz2:ctZ ps zss p=z2 at *;have HK2:=Qao K2;obtain ⟨n2,hn2⟩:∃n,ng z2=n:=⟨_,rfl⟩
   obtain ⟨l2,hl2⟩:∃n,(dg z2).length=n:=⟨_,rfl⟩
   rw [hn2] at q2' HK2;rw [hl2] at q3' HK2;have c3:=A2.out.c (i:=0) rfl;have KL:=Qao (Qxs (kr+1) p wr c3);clear q2 q3 K2 hz2 hn2 hl2 hbk2 c3 HP;go_wp2_with fail;refine KL.out.mono ?_
   rintro e w3' ⟨rfl,hw⟩;obtain rfl:wr=w3':=hw.symm;clear hw KL;go_wp2_with fail;refine (HK2.out _ HG.out).mono ?_
   rintro e w4 ⟨rfl,g4⟩;have G4:=Qao (Old.trans HG.out g4);have R4:=Qao (R2.out.old g4);clear g4 q2' q3' HG R2 A2 HK2;go_wp2_with fail;refine (K4.out _).mono ?_
   rintro e w5 ⟨v5,rfl,g5,o5⟩;have G5:=Qao (Old.trans G4.out g5);have R5:=Qao (R4.out.old g5);have HO5:=Qao (o5.low G4.out.size);obtain ⟨a5,c5,e5⟩:=(Own.row o5).sliceN;subst e5;obtain ⟨l5,hl5⟩:∃l,(dig (f p)).length=l:=⟨_,rfl⟩
   have HL5:=Qao hl5;rw [hl5] at HO5 ⊢;have z0:=R5.out.c (i:=0) rfl;have z1:=R5.out.c (i:=1) rfl;have f0:w5.frozen? ⟨kr,0,none⟩=false:=frozen_of_row _ _ _ _ _ R5.out
   have f1:w5.frozen? ⟨kr,1,none⟩=false:=frozen_of_row _ _ _ _ _ R5.out
   clear g5 o5 hl5 G4 R4 K4;go_wp2_with fail;have qq:=Qek R5.out (.bool false) (.slice a5 l5 c5);have q0:=qq.c (i:=0) rfl;have q1:=qq.c (i:=1) rfl;have hkr':=HKR.out;refine bodyPost_ret (v:=.agg #[.bool false,.slice a5 l5 c5]) (by simp [results,Tryz.results59,go_sem,q0,q1]) rfl ?_
   refine ⟨_,rfl,(G5.out.own (p:=⟨kr,0,none⟩) (by show w.heap.size<=kr;omega) _).own (p:=⟨kr,1,none⟩) (by show w.heap.size<=kr;omega) _,?_⟩;rw [<- HE.out];exact Qds (Qds HO5.out R5.out _) (Qk9 R5.out (.bool false)) _
theorem Qm3 {N:Nat} {ss:List Int} (h:wiB N 1 ss=true):ss.length=N/\∀i,i<ss.length->-1<=ss.getD i 0/\ss.getD i 0<=1:=by
 unfold wiB Qum at h;rw [Bool.and_eq_true,decide_eq_true_eq,decide_eq_true_eq] at h;exact ⟨by omega,fun i hi=>h.2 i hi (by omega)⟩
def WbN (w:World) (zs:List Nat) (ok:Bool) (e:Ending) (w':World):Prop:=∃v',e=.returned (.tuple #[.agg #[.bool false,v'],.bool ok])/\Old w w'/\Own w' w.heap.size v' (toI zs)
def noN (Nn:Nat) (T:Int) (ps:List Int) (U:List (List Int)):Nat:=grN (fun k=>(ctZ ps (nzL T ps U) k).natAbs) Nn
theorem Qm4 (N T E:Int) (ps:List Int) (xsss:List (List (List Int))) (ss:List Int) (v u u2:Value) (w:World) (lo hi:Nat) (hP:Qdm w) (hT:Qa9 w) (hv:Row w v ps) (hf:Fit v) (hu:Ows (TTT xsss) w lo hi [u]) (hu2:Row w u2 ss) (hl2:ss.length<=9223372036854775807) (hlp:ps.length<=9223372036854775807) (hl:xsss.length<=1048576) (hr:∀r∈xsss,r.length<=1048576/\∀q∈r,q.length<=1048576) (Z:List Nat) (ok:Bool) (hy:(prB N T E ps&&ciB N ps xsss&&wiB N 1 ss)=true->Z=dig (noN N.toNat T ps (Qd6 N.toNat ps xsss (smS ps ss)))/\ok=true) (hn:(prB N T E ps&&ciB N ps xsss&&wiB N 1 ss)=false->Z=[]/\ok=false) :
 Calls Tryz.prog 14 #[.agg #[.int .i64 N,.int .i64 T,.int .i64 E,v],u2,.agg #[u]] w (WbN w Z ok):=by
 have HY:Hid ((prB N T E ps&&ciB N ps xsss&&wiB N 1 ss)=true->Z=dig (noN N.toNat T ps (Qd6 N.toNat ps xsss (smS ps ss)))/\ok=true):=hy;have HNN:Hid ((prB N T E ps&&ciB N ps xsss&&wiB N 1 ss)=false->Z=[]/\ok=false):=hn;clear hy hn;obtain ⟨Rf,hRb⟩:=Qpk N ps;have hRf:=fun k hk=>(hRb k hk).1
 have HRB:Hid (∀Nn:Nat,N=Nn->spB N ps=true->RtS Nn ps Rf):=fun Nn e hs=>by
  subst e;exact Qxi hRb hs
 have HU2:Hid (Row w u2 ss):=hu2;have HTW:Hid (Qa9 w):=hT;have HV:Hid (Row w v ps/\Fit v):=⟨hv,hf⟩;obtain ⟨a2,c2',eu2⟩:=hu2.slice;have K1:=fun W (g:Old w W)=>Qhy N T E ps Rf v W (hP.old g) (hT.old g) (hv.old g) hf hlp hRf
 obtain ⟨a0,c0,ev⟩:=hv.slice;obtain ⟨a1,c1,eu⟩:=hu.rowT.slice;subst ev eu eu2;obtain ⟨au,cu,uf,cf,hpa⟩:=CiI.of ps hu;have HPA:=Qao hpa;have HR:Hid (∀r∈xsss,r.length<=1048576/\∀q∈r,q.length<=1048576):=hr;have HA:Hid (Old w (((w.alloc (.cells #[.int .i64 N,.int .i64 T,.int .i64 E,.slice a0 ps.length c0] 34)).alloc (.cells #[.slice a1 xsss.length c1] 37)).alloc (.cells #[.bool false,.slice none 0 0] 31))):=(((Old.refl w).alloc _).alloc _).alloc _;have BP:Hid (Bk (((w.alloc (.cells #[.int .i64 N,.int .i64 T,.int .i64 E,.slice a0 ps.length c0] 34)).alloc (.cells #[.slice a1 xsss.length c1] 37)).alloc (.cells #[.bool false,.slice none 0 0] 31)) w.heap.size #[.int .i64 N,.int .i64 T,.int .i64 E,.slice a0 ps.length c0] 34):=((Bk.new' w _ _ rfl).alloc _).alloc _;have BB:Hid (Bk (((w.alloc (.cells #[.int .i64 N,.int .i64 T,.int .i64 E,.slice a0 ps.length c0] 34)).alloc (.cells #[.slice a1 xsss.length c1] 37)).alloc (.cells #[.bool false,.slice none 0 0] 31)) (w.heap.size+1) #[.slice a1 xsss.length c1] 37):=(Bk.new' _ _ _ (by simp)).alloc _;have BW:Hid (Bk (((w.alloc (.cells #[.int .i64 N,.int .i64 T,.int .i64 E,.slice a0 ps.length c0] 34)).alloc (.cells #[.slice a1 xsss.length c1] 37)).alloc (.cells #[.bool false,.slice none 0 0] 31)) (w.heap.size+1+1) #[.bool false,.slice none 0 0] 31):=Bk.new' _ _ _ (by simp);clear hv hf hu hP hT hRf hr hpa hRb hu2;go_enter Tryz.func14,Tryz.ntmps14;go_wp2_with fail;refine (K1 _ HA.out).mono ?_
 rintro e w1 ⟨g1,h⟩;have HG1:Hid (Old w w1):=Old.trans HA.out g1;have P1:Hid (Bk w1 w.heap.size #[.int .i64 N,.int .i64 T,.int .i64 E,.slice a0 ps.length c0] 34):=BP.out.old g1;have B1:Hid (Bk w1 (w.heap.size+1) #[.slice a1 xsss.length c1] 37):=BB.out.old g1;have W1':=Qao (BW.out.old g1);clear g1 K1 BB BP HA BW;rcases h with ⟨hB,rfl⟩ | ⟨hB,g,a,l,c,hg,rfl,hrg,qs,eqs,hbs,hll,hown⟩
 ·have HB:Hid (Z=[]∧ok=false):=HNN.out (by rw [hB];rfl);have HG2:Hid (Old w (w1.alloc (.cells rk0 92))):=HG1.out.alloc _;have z0:=(B1.out.alloc (.cells rk0 92)).c (i:=0) rfl;have c2:=fun W (q:Old w W)=>Qvu 0 0 0 none 0 0 false none 0 0 a1 c1 W ps xsss au cu uf cf hl (HPA.out.old q)
  clear hB;go_wp2_with fail;refine (c2 _ HG2.out).mono ?_
  intro e w2 h;obtain ⟨g2,x,rfl⟩:=h.any;have HG3:Hid (Old w w2):=Old.trans HG2.out g2;have W3':=Qao ((W1'.out.alloc (.cells rk0 92)).old g2);clear g2 h c2;have z0:=W3'.out.c (i:=0) rfl;have z1:=W3'.out.c (i:=1) rfl;have f0:w2.frozen? ⟨w.heap.size+1+1,0,none⟩=false:=frozen_of_row _ _ _ _ _ W3'.out
  have f1:w2.frozen? ⟨w.heap.size+1+1,1,none⟩=false:=frozen_of_row _ _ _ _ _ W3'.out
  go_wp2_with fail;have qq:=Qek W3'.out (.bool false) (.slice none 0 0);have q0:=qq.c (i:=0) rfl;have q1:=qq.c (i:=1) rfl;refine bodyPost_ret (v:=.tuple #[.agg #[.bool false,.slice none 0 0],.bool false]) (by simp [results,Tryz.results14,go_sem,q0,q1]) rfl ?_
  rw [HB.out.1,HB.out.2];exact ⟨_,rfl,(HG3.out.own (p:=⟨w.heap.size+1+1,0,none⟩) (by simp;omega) _).own (p:=⟨w.heap.size+1+1,1,none⟩) (by simp;omega) _,Qdz _ _⟩
 ·have hsp:=Qtp hB;obtain ⟨hz4,hbb,_⟩:=Qdj hsp;obtain ⟨Nn,rfl⟩:∃Nn:Nat,N=(Nn:Int):=⟨N.toNat,by omega⟩
  have hNn:2<=Nn/\Nn<=16:=by omega
  have hps:=(Qc7 hbb).1;obtain ⟨B2,hB2⟩:∃B:World,w1.alloc (.cells #[.int .i64 (Nn:Int),.int .i64 T,.int .i64 E,.slice a0 ps.length c0,.slice (some ⟨g,0,none⟩) ps.length ps.length,.bool false,.slice a l c] 92)=B:=⟨_,rfl⟩
  have O2:Old w1 B2:=by rw [<- hB2];exact (Old.refl w1).alloc _
  have HG2:Hid (Old w B2):=Old.trans HG1.out O2;have P2:Hid (Bk B2 w.heap.size #[.int .i64 (Nn:Int),.int .i64 T,.int .i64 E,.slice a0 ps.length c0] 34):=P1.out.old O2;have C2:Hid (Bk B2 (w.heap.size+1) #[.slice a1 xsss.length c1] 37):=B1.out.old O2;have W2':=Qao (W1'.out.old O2);have X2:Hid (Bk B2 w1.heap.size #[.int .i64 (Nn:Int),.int .i64 T,.int .i64 E,.slice a0 ps.length c0,.slice (some ⟨g,0,none⟩) ps.length ps.length,.bool false,.slice a l c] 92):=by rw [<- hB2];exact Bk.new' w1 _ _ rfl
  have HRG2:Hid (Rgs B2 g Nn ps Rf ps.length):=hrg.old O2
  have HQ2:Hid (Rz (Qad qs:Nat) B2 (.agg #[.bool false,.slice a l c])):=by
   refine ⟨a,c,?_,?_⟩
   ·rw [hll,show dg ((Qad qs:Nat):Int)=dig (Qad qs) from rfl];simp [ng]
   ·rw [show dg ((Qad qs:Nat):Int)=dig (Qad qs) from rfl,<- hll];exact (Own.row hown).old O2
  have HQS:Hid (qs=pnN ps/\Bas qs):=⟨by
   unfold pnN;rw [eqs];exact (Qkv qs).symm,hbs⟩
  obtain ⟨kr,hkr⟩:∃kr,w1.heap.size=kr:=⟨_,rfl⟩
  have hks:w.heap.size+2<=kr:=by have:=B1.out.lt;omega
  rw [hkr] at X2;have HBB:Hid (prB Nn T E ps=true):=hB;have K2:=Qao (fun W (q:Old B2 W)=>Qv6 Nn T E a0 ps.length c0 g false a l c a1 c1 W ps Rf xsss au cu uf cf hl HR.out (HPA.out.old (Old.trans HG2.out q)) (HRG2.out.old q) hsp hNn hps);have x0:=X2.out.c (i:=0) rfl;have x1:=X2.out.c (i:=1) rfl;have x2:=X2.out.c (i:=2) rfl;have x3:=X2.out.c (i:=3) rfl;have x4:=X2.out.c (i:=4) rfl;have x5:=X2.out.c (i:=5) rfl;have x6:=X2.out.c (i:=6) rfl;have z0:=C2.out.c (i:=0) rfl;clear hB hrg hg hown O2 eqs hbs hll HG1 P1 B1 W1';go_wp2_with fail;refine (K2.out _ (Old.refl _)).mono ?_
  rintro e w3 ⟨g3,h⟩;have O3:=Qao g3;have HG3:Hid (Old w w3):=Old.trans HG2.out g3;have P3:=Qao (P2.out.old g3);have W3':=Qao (W2'.out.old g3);have X3:=Qao (X2.out.old g3);clear g3 K2 x0 x1 x2 x3 x4 x5 x6 z0 hB2 hkr P2 C2 X2 W2';rcases h with ⟨hC,rfl⟩ | ⟨hC,IF,rfl,hif⟩
  ·have HB:Hid (Z=[]∧ok=false):=HNN.out (by rw [HBB.out,hC];rfl);clear hC;have z0:=W3'.out.c (i:=0) rfl;have z1:=W3'.out.c (i:=1) rfl;have f0:w3.frozen? ⟨w.heap.size+1+1,0,none⟩=false:=frozen_of_row _ _ _ _ _ W3'.out
   have f1:w3.frozen? ⟨w.heap.size+1+1,1,none⟩=false:=frozen_of_row _ _ _ _ _ W3'.out
   go_wp2_with fail;have qq:=Qek W3'.out (.bool false) (.slice none 0 0);have q0:=qq.c (i:=0) rfl;have q1:=qq.c (i:=1) rfl;refine bodyPost_ret (v:=.tuple #[.agg #[.bool false,.slice none 0 0],.bool false]) (by simp [results,Tryz.results14,go_sem,q0,q1]) rfl ?_
   rw [HB.out.1,HB.out.2];exact ⟨_,rfl,(HG3.out.own (p:=⟨w.heap.size+1+1,0,none⟩) (by simp;omega) _).own (p:=⟨w.heap.size+1+1,1,none⟩) (by simp;omega) _,Qdz _ _⟩
  ·have HIF:=Qao hif;have HC:=Qao hC;have K3:=Qao (fun W (q:Old w W)=>Qlx Nn T E a0 ps.length c0 ss (.slice a2 ss.length c2') W (HU2.out.old q) hl2);have x0:=P3.out.c (i:=0) rfl;have x1:=P3.out.c (i:=1) rfl;have x2:=P3.out.c (i:=2) rfl;have x3:=P3.out.c (i:=3) rfl;clear hif hC
   cases hwi:wiB Nn 1 ss
   ·rw [hwi] at K3;have HB:Hid (Z=[]∧ok=false):=HNN.out (by rw [HBB.out,HC.out,hwi];rfl);clear hwi;go_wp2_with fail;refine (K3.out _ HG3.out).mono ?_
    rintro e w4 ⟨rfl,g4⟩;have HG4:Hid (Old w w4):=Old.trans HG3.out g4;have W4':=Qao (W3'.out.old g4);clear g4 K3 x0 x1 x2 x3;have z0:=W4'.out.c (i:=0) rfl;have z1:=W4'.out.c (i:=1) rfl;have f0:w4.frozen? ⟨w.heap.size+1+1,0,none⟩=false:=frozen_of_row _ _ _ _ _ W4'.out
    have f1:w4.frozen? ⟨w.heap.size+1+1,1,none⟩=false:=frozen_of_row _ _ _ _ _ W4'.out
    go_wp2_with fail;have qq:=Qek W4'.out (.bool false) (.slice none 0 0);have q0:=qq.c (i:=0) rfl;have q1:=qq.c (i:=1) rfl;refine bodyPost_ret (v:=.tuple #[.agg #[.bool false,.slice none 0 0],.bool false]) (by simp [results,Tryz.results14,go_sem,q0,q1]) rfl ?_
    rw [HB.out.1,HB.out.2];exact ⟨_,rfl,(HG4.out.own (p:=⟨w.heap.size+1+1,0,none⟩) (by simp;omega) _).own (p:=⟨w.heap.size+1+1,1,none⟩) (by simp;omega) _,Qdz _ _⟩
   ·rw [hwi] at K3;obtain ⟨eZ,eo⟩:=HY.out (by rw [HBB.out,HC.out,hwi];rfl);rw [show ((Nn:Int).toNat)=Nn by omega] at eZ;have HZ:=Qao eZ;subst eo;obtain ⟨hsl,hsv⟩:=Qm3 hwi;have HSL:Hid (ss.length=Nn):=hsl;have HSV:=Qao hsv;have hS4:Sz4 Nn:=by unfold Sz4;omega
    have HS4:=Qao hS4;have HPB:Hid (∀k,k<ps.length->2<=ps.getD k 0/\ps.getD k 0<=268435456):=fun k hk=>Qqm ((Qc7 hbb).2 k hk)
    have HPS:=Qao hps;have HNB:=Qao hNn;have HTT:=Qao (Q1k HBB.out);have HRT:Hid (RtS Nn ps Rf):=HRB.out Nn rfl hsp;have HUK:=Qao (Qoh (sss:=smS ps ss) HPB.out HC.out);have HNK:=Qao (Qt1 (T:=T) HPB.out HUK.out);have HGR:Hid (Gr Nn ps (nzL T ps (Qd6 Nn ps xsss (smS ps ss)))):=Quh hbb (by unfold nzL;rw [Qbl]) HNK.out;clear hwi eZ hsl hsv hS4 hps hNn hsp hz4 hbb HNN HY HRB;go_wp2_with fail;refine (K3.out _ HG3.out).mono ?_
    rintro e w4 ⟨rfl,g4⟩;have HG4:Hid (Old w w4):=Old.trans HG3.out g4;have O4:Hid (Old B2 w4):=Old.trans O3.out g4;have X4:=Qao (X3.out.old g4);have W4':=Qao (W3'.out.old g4);have HIF4:=Qao (HIF.out.old g4);have y4:=X4.out.c (i:=4) rfl
    have K5:Hid (Calls Tryz.prog 56 #[.slice (some ⟨g,0,none⟩) ps.length ps.length,.slice a2 ss.length c2'] w4 fun e w'=>∃v',e=.returned v'/\Old w4 w'/\RdX Nn ps Rf (smS ps ss) w' v'):=by
     refine (Qio Nn ps ss Rf g (.slice a2 ss.length c2') w4 (HRG2.out.old O4.out) (by have:=HPS.out;omega) (HU2.out.old HG4.out) (by have h1:=HSL.out;have h2:=HNB.out;omega) (fun i hi=>by have:=HSV.out i hi;omega) (fun k hk=>by have:=HPB.out k hk;omega)).mono fun e w' h=>?_
     obtain ⟨g',_,e1,e2,e3⟩:=h;exact ⟨_,e1,e2,Ows.rd HPS.out.1 e3⟩
    clear g4 K3 x0 x1 x2 x3 O3 P3 X3 HIF W3';go_wp2_with fail;refine K5.out.mono ?_
    rintro e w5 ⟨v5,rfl,g5,r5⟩;obtain ⟨a5,c5,e5⟩:=r5.slice;subst e5;have HG5:=Qao (Old.trans HG4.out g5);have X5:=Qao (X4.out.old g5);have W5':=Qao (W4'.out.old g5);have K6:=Qao (Qrf Nn ps Rf xsss (smS ps ss) IF (.slice a5 ps.length c5) w5 (HTW.out.old HG5.out) HS4.out HPS.out HPB.out HRT.out HC.out (Qmr HPB.out HSL.out) (HIF4.out.old g5) r5);clear g5 r5 y4 X4 W4' HIF4 K5;go_wp2_with fail;refine K6.out.mono ?_
    rintro e w6 ⟨v6,rfl,g6,o6⟩;have r6:=o6.rd HPS.out.1;obtain ⟨a6,c6,e6⟩:=r6.slice;subst e6;have HG6:=Qao (Old.trans HG5.out g6);have X6:=Qao (X5.out.old g6);have W6':=Qao (W5'.out.old g6);have K7:=Qao (Qrg Nn (Nn:Int) T E ps Rf (Qd6 Nn ps xsss (smS ps ss)) a0 ps.length c0 (some ⟨g,0,none⟩) ps.length ps.length false a l c kr (.slice a6 ps.length c6) w6 X6.out (by have:=HTT.out;omega) HNB.out HPS.out HPB.out HUK.out r6);clear g6 o6 r6 X5 W5' K6 HG5;go_wp2_with fail;refine K7.out.mono ?_
    rintro e w7 ⟨v7,rfl,g7,o7⟩;have r7:=o7.rd HPS.out.1;obtain ⟨a7,c7,e7⟩:=r7.slice;subst e7;have HG7:=Qao (Old.trans HG6.out g7);have X7:=Qao (X6.out.old g7);have W7':=Qao (W6'.out.old g7);have K8:=Qao (Qui Nn T E ps Rf _ a0 c0 (some ⟨g,0,none⟩) ps.length ps.length a l c (.slice a7 ps.length c7) w7 (HV.out.1.old HG7.out) HV.out.2 (by have:=HNB.out;omega) HPS.out HGR.out r7);have x0:=X7.out.c (i:=0) rfl;have x1:=X7.out.c (i:=1) rfl;have x2:=X7.out.c (i:=2) rfl;have x3:=X7.out.c (i:=3) rfl;have x4:=X7.out.c (i:=4) rfl;have x5:=X7.out.c (i:=5) rfl;have x6:=X7.out.c (i:=6) rfl;clear g7 o7 r7 X6 W6' K7 HG6;go_wp2_with fail;refine K8.out.mono ?_
    rintro e w8 ⟨v8,rfl,g8,o8⟩;obtain ⟨b8,c8,e8,_⟩:=o8.at (by have:=HNB.out;omega) HGR.out;subst e8;have HG8:=Qao (Old.trans HG7.out g8);have W8':=Qao (W7'.out.old g8);have K9:=Qao (Qro Nn ps (nzL T ps (Qd6 Nn ps xsss (smS ps ss))) _ _ w8 (by have:=HNB.out;omega) HGR.out o8);clear g8 o8 x0 x1 x2 x3 x4 x5 x6 X7 W7' K8 HG7;go_wp2_with fail;refine K9.out.mono ?_
    rintro e w9 ⟨v9,rfl,g9,o9⟩;have HG9:=Qao (Old.trans HG8.out g9);have R9:=Qao (W8'.out.old g9);have hz':dig (grN (fun k=>(ctZ ps (nzL T ps (Qd6 Nn ps xsss (smS ps ss))) k).natAbs) Nn)=Z:=HZ.out.symm;rw [hz'] at o9;have O9:=Qao (o9.low HG8.out.size);obtain ⟨a9,c9,e9⟩:=(Own.row o9).sliceN;subst e9;obtain ⟨l9,hl9⟩:∃l,Z.length=l:=⟨_,rfl⟩
    rw [hl9] at O9 ⊢;have z0:=R9.out.c (i:=0) rfl;have z1:=R9.out.c (i:=1) rfl;have f0:w9.frozen? ⟨w.heap.size+1+1,0,none⟩=false:=frozen_of_row _ _ _ _ _ R9.out
    have f1:w9.frozen? ⟨w.heap.size+1+1,1,none⟩=false:=frozen_of_row _ _ _ _ _ R9.out
    clear g9 o9 hz' hl9 W8' K9 HG8 HGR HNK HUK HRG2 HZ HQ2;go_wp2_with fail;have qq:=Qek R9.out (.bool false) (.slice a9 l9 c9);have q0:=qq.c (i:=0) rfl;have q1:=qq.c (i:=1) rfl;refine bodyPost_ret (v:=.tuple #[.agg #[.bool false,.slice a9 l9 c9],.bool true]) (by simp [results,Tryz.results14,go_sem,q0,q1]) rfl ?_
    refine ⟨_,rfl,(HG9.out.own (p:=⟨w.heap.size+1+1,0,none⟩) (by simp;omega) _).own (p:=⟨w.heap.size+1+1,1,none⟩) (by simp;omega) _,?_⟩;exact Qds (Qds O9.out R9.out _) (Qk9 R9.out (.bool false)) _
theorem Qy5.atN {Nn:Nat} {ps:List Int} {zss:List (List Int)} {W:World} {v:Value} (h0:0<Nn) (hG:Gr Nn ps zss) (h:Qy5 W v (whB Nn ps zss) (whX Nn ps zss)) :
 ∃b o cap,v=.slice (some ⟨b,o,none⟩) Nn cap/\b<W.heap.size/\∀k,k<Nn->∃a c,W.cell? ⟨b,o+k*2,none⟩=some (.bool (ng (ctZ ps zss k)))/\W.cell? ⟨b,o+k*2+1,none⟩=some (.slice a (dg (ctZ ps zss k)).length c)/\Row W (.slice a (dg (ctZ ps zss k)).length c) (toI (dg (ctZ ps zss k))):=by
 have hl:=Qk4 Nn ps zss;obtain ⟨_,⟨a,cap,e,e2⟩ | ⟨b,o,cap,us,e,hb,_,hc⟩⟩:=h
 ·rw [e2] at hl;simp at hl;omega
 ·rw [hl] at e hc;refine ⟨b,o,cap,e,hb,fun k hk=>?_⟩;obtain ⟨q0,q1,r⟩:=hc k hk;obtain ⟨f1,f2⟩:=Qk7 hG k hk;rw [Qk5 Nn ps zss k hk,← f1] at q0;rw [Qk6 Nn ps zss k hk,← f2] at r;obtain ⟨a,c,e3⟩:=r.slice;have hz:(toI (dg (ctZ ps zss k))).length=(dg (ctZ ps zss k)).length:=by simp [toI]
  rw [hz] at e3;rw [e3] at q1 r;exact ⟨a,c,q0,q1,r⟩
theorem Qoo {f:Nat->Nat} {n:Nat} (h:∀k,k<n->cnt (f k)<=7):cnt (grN f n)<=7:=by
 have hb:grN f n<=LB^7 - 1:=Qxt f _ n (fun k hk=>by
  have h1:(dg ((f k:Nat):Int)).length<=7:=h k hk;have:=Q3b h1;simp at this;omega)
 have hp:0<LB^7:=Nat.pow_pos (by rw [Q13];omega);exact Qb0 (by omega)
theorem Qop (Nn:Nat) (T E:Int) (ps:List Int) (zss:List (List Int)) (v u:Value) (w:World) (hv:Row w v ps) (hu:Qcc w u zss) (hN:1<=Nn/\Nn<=16) (hps:1<=ps.length/\ps.length<=6) (hG:Gr Nn ps zss) :
 Calls Tryz.prog 49 #[.agg #[.int .i64 (Nn:Int),.int .i64 T,.int .i64 E,v],u] w fun e w'=>∃v',e=.returned v'/\Old w w'/\Row w' v' (toI (dig (grN (fun k=>(ctZ ps zss k).natAbs) Nn))):=by
 have K1:=Qao (fun W (g:Old w W)=>Qk8 Nn ps zss v u W (hv.old g) (hu.old g) hN hps hG);have HAT:=Qao (fun W x (h:Qy5 W x (whB Nn ps zss) (whX Nn ps zss))=>h.atN (by omega) hG);have HB:Hid (∀k,k<Nn->cnt (ctZ ps zss k).natAbs<=7):=fun k hk=>Qm2 hG k hk
 have hNN:Nn<=16:=hN.2;have HDG:Hid (∀k,dg (ctZ ps zss k)=dig (ctZ ps zss k).natAbs):=fun k=>rfl
 obtain ⟨a0,c0,rfl⟩:=hv.slice;obtain ⟨ua,uc,rfl⟩:=hu.slice;have KS:=Qao (fun W=>Qbn (Nn:Int) T E a0 ps.length c0 W);obtain ⟨lu,hlu⟩:∃l,zss.length=l:=⟨_,rfl⟩
 rw [hlu] at K1 ⊢;clear hv hu hN hps hG hlu;obtain ⟨f,hf⟩:∃f:Nat->Nat,(fun k=>(ctZ ps zss k).natAbs)=f:=⟨_,rfl⟩
 have hf':∀k,(ctZ ps zss k).natAbs=f k:=fun k=>by rw [<- hf]
 rw [hf];simp only [hf'] at HB HDG;clear hf hf';obtain ⟨B1,hB1⟩:∃B:World,w.alloc (.cells #[.int .i64 (Nn:Int),.int .i64 T,.int .i64 E,.slice a0 ps.length c0] 34)=B:=⟨_,rfl⟩
 have O1:Hid (Old w B1):=by rw [<- hB1];exact (Old.refl w).alloc _
 have P1:Hid (Bk B1 w.heap.size #[.int .i64 (Nn:Int),.int .i64 T,.int .i64 E,.slice a0 ps.length c0] 34):=by rw [<- hB1];exact Bk.new' w _ _ rfl
 have x0:=P1.out.c (i:=0) rfl;have x1:=P1.out.c (i:=1) rfl;have x2:=P1.out.c (i:=2) rfl;have x3:=P1.out.c (i:=3) rfl;go_enter Tryz.func49,Tryz.ntmps49;go_wp2_with fail;refine (KS.out _).mono ?_
 rintro e w2 ⟨rfl,g2⟩;have G2:=Qao (Old.trans O1.out g2);clear g2 x0 x1 x2 x3 P1 O1 hB1 KS;go_wp2_with fail;refine (K1.out _ G2.out).mono ?_
 rintro e w3 ⟨v3,rfl,g3,r3⟩;obtain ⟨b,o,cap,e3,hb3,hc3⟩:=HAT.out _ _ r3;subst e3;have G3:=Qao (Old.trans G2.out g3);have HC:=Qao hc3;clear g3 r3 hc3 K1 HAT G2;go_wp2_with fail
 go_loopw [13,5,7] (fun i m _ W=>∃(k:Nat) (ma:Option Addr) (ml mc:Nat),k<=Nn/\i=.int .i64 k/\m=.slice ma ml mc/\Hid (Row W (.slice ma ml mc) (toI (dig (grN f k))))/\Hid (Old w3 W)) (fun i _ _ _=>Nn - (intOf i).toNat)
 case atStart=>exact ⟨0,none,0,0,by omega,rfl,rfl,.inl ⟨none,0,rfl,rfl⟩,Old.refl _⟩
 case round=>
  obtain ⟨k,ma,ml,mc,hk,rfl,rfl,HM,HG⟩:=hrel
  by_cases hlt:k<Nn
  ·have d1:decide ((k:Int)<(Nn:Int))=true:=decide_eq_true (by omega);have iL:(k:Int)<(Nn:Int):=by omega
   obtain ⟨a8,c8,q0,q1,r8⟩:=HC.out k hlt;have q0':=(HG.out.cell (p:=⟨b,o+k*2,none⟩) hb3).trans q0;have q1':=(HG.out.cell (p:=⟨b,o+k*2+1,none⟩) hb3).trans q1;have hbk:=HB.out k hlt;have r8':=r8.old HG.out;have hdk:=HDG.out k;generalize hz:ctZ ps zss k=z at *;rw [hdk] at q1' r8';obtain ⟨nb,hnb⟩:∃n,ng z=n:=⟨_,rfl⟩
   rw [hnb] at q0';obtain ⟨l8,hl8⟩:∃n,(dig (f k)).length=n:=⟨_,rfl⟩
   rw [hl8] at q1' r8';have R8':=Qao r8';have hgc:cnt (grN f k)<=7:=Qoo (fun j hj=>HB.out j (by omega));obtain ⟨B8,hB8⟩:∃B:World,wr.alloc (.cells #[.bool nb,.slice a8 l8 c8] 85)=B:=⟨_,rfl⟩
   have O8:Old wr B8:=by rw [<- hB8];exact (Old.refl wr).alloc _
   have Y8:Hid (Bk B8 wr.heap.size #[.bool nb,.slice a8 l8 c8] 85):=by rw [<- hB8];exact Bk.new' wr _ _ rfl
   have G8:=Qao (Old.trans HG.out O8);have K3:=Qao (Qnc (dig (f k)) (dig (grN f k)) (.slice a8 l8 c8) (.slice ma ml mc) B8 (R8'.out.old O8) (HM.out.old O8) (Qux ((f k:Nat):Int)).1 (Qux ((grN f k:Nat):Int)).1 (by show cnt (f k)<=_;omega) (by show cnt (grN f k)<=_;omega));rw [show val (dig (f k))=f k from Qah _,show val (dig (grN f k))=grN f k from Qah _] at K3;have M8:=Qao (HM.out.old O8);have R8:=Qao (R8'.out.old O8);obtain ⟨wb,hwb⟩:∃wb,wr.heap.size=wb:=⟨_,rfl⟩
   rw [hwb] at Y8;have y1:=Y8.out.c (i:=1) rfl;clear q0 q1 r8 r8' hdk hz hnb hl8 O8 HM HG hbk hgc R8';go_wp2_with fail;refine K3.out.mono ?_
   rintro e w5 ⟨rfl,g5⟩;have G5:=Qao (Old.trans G8.out g5);have M5:=Qao (M8.out.old g5);have R5:=Qao (R8.out.old g5);have Y5:=Qao (Y8.out.old g5);have y5:=Y5.out.c (i:=1) rfl;clear g5 y1 K3 M8 R8 Y8 G8 hB8 hwb q0' q1'
   by_cases hgt:grN f k<f k
   ·have hc0:=Qg3.2 hgt
    have HN5:Hid (Row w5 (.slice a8 l8 c8) (toI (dig (grN f (k+1))))):=by
     show Row _ _ _
     rw [show grN f (k+1)=f k by unfold grN;omega];exact R5.out
    generalize Qb5 (f k) (grN f k)=cm at *;have d5:decide (0<cm)=true:=decide_eq_true hc0;clear hc0 hgt M5 R5;go_wp2_with fail;exact ⟨⟨k+1,_,_,_,by omega,by go_num,rfl,HN5,G5⟩,by simp [intOf];omega⟩
   ·have hc0:¬0<Qb5 (f k) (grN f k):=fun h=>hgt (Qg3.1 h)
    have HN5:Hid (Row w5 (.slice ma ml mc) (toI (dig (grN f (k+1))))):=by
     show Row _ _ _
     rw [show grN f (k+1)=grN f k by rw [show grN f (k+1)=max (grN f k) (f k) from rfl];omega];exact M5.out
    generalize Qb5 (f k) (grN f k)=cm at *;have d5:decide (0<cm)=false:=decide_eq_false hc0;clear hc0 hgt M5 R5;go_wp2_with fail;exact ⟨⟨k+1,_,_,_,by omega,by go_num,rfl,HN5,G5⟩,by simp [intOf];omega⟩
  ·have d1:decide ((k:Int)<(Nn:Int))=false:=decide_eq_false (by omega);obtain rfl:k=Nn:=by omega
   go_wp2_with fail;go_ret;exact ⟨_,rfl,Old.trans G3.out HG.out,HM.out⟩
theorem Qm5 (N T E:Int) (ps:List Int) (xsss:List (List (List Int))) (ss:List Int) (v u u2:Value) (w:World) (lo hi:Nat) (hv:Row w v ps) (hf:Fit v) (hu:Ows (TTT xsss) w lo hi [u]) (hu2:Row w u2 ss) (hl2:ss.length<=9223372036854775807) (hlp:ps.length<=9223372036854775807) (hx:∀x∈ps,-9223372036854775808<=x/\x<=9223372036854775807) (hl:xsss.length<=1048576) (hr:∀r∈xsss,r.length<=1048576/\∀q∈r,q.length<=1048576) (Z:List Nat) (ok:Bool) (hy:(prB N T E ps&&ciB N ps xsss&&wiB N 1 ss)=true->Z=dig (noN N.toNat T ps (Qd6 N.toNat ps xsss (smS ps ss)))/\ok=true) (hn:(prB N T E ps&&ciB N ps xsss&&wiB N 1 ss)=false->Z=[]/\ok=false) :
 Calls Tryz.prog 10 #[.agg #[.int .i64 N,.int .i64 T,.int .i64 E,v],u2,.agg #[u]] w (WbN w Z ok):=by
 have HY:Hid ((prB N T E ps&&ciB N ps xsss&&wiB N 1 ss)=true->Z=dig (noN N.toNat T ps (Qd6 N.toNat ps xsss (smS ps ss)))/\ok=true):=hy;have HNN:Hid ((prB N T E ps&&ciB N ps xsss&&wiB N 1 ss)=false->Z=[]/\ok=false):=hn;clear hy hn;obtain ⟨Rf,hRb⟩:=Qpk N ps
 have HRB:Hid (∀Nn:Nat,N=Nn->spB N ps=true->RtS Nn ps Rf):=fun Nn e hs=>by
  subst e;exact Qxi hRb hs
 have HU:=Qao hu;have HU2:Hid (Row w u2 ss):=hu2;have HV:Hid (Row w v ps/\Fit v):=⟨hv,hf⟩;have HR:=Qao hr;have K1:=Qao (fun W (g:Old w W)=>Qho N T E ps ss v u2 W (hv.old g) hf (hu2.old g) hlp hl2 hx);have K2:=Qao (fun (hs:spB N ps=true) W (g:Old w W)=>Qmj N T E ps xsss v u W (hv.old g) (hu.rowT.old g) hl hr hs);obtain ⟨a0,c0,rfl⟩:=hv.slice;obtain ⟨a1,c1,rfl⟩:=hu.rowT.slice;obtain ⟨sa,sc,rfl⟩:=hu2.slice;obtain ⟨lx,hlx⟩:∃l,xsss.length=l:=⟨_,rfl⟩
 rw [hlx] at HU K2 ⊢;clear hv hf hu hu2 hRb hr hx hlx hl hlp;obtain ⟨B1,hB1⟩:∃B:World,((w.alloc (.cells #[.int .i64 N,.int .i64 T,.int .i64 E,.slice a0 ps.length c0] 34)).alloc (.cells #[.slice a1 lx c1] 37)).alloc (.cells #[.bool false,.slice none 0 0] 31)=B:=⟨_,rfl⟩
 have O1:Hid (Old w B1):=by rw [<- hB1];exact (((Old.refl w).alloc _).alloc _).alloc _
 have P1:Hid (Bk B1 w.heap.size #[.int .i64 N,.int .i64 T,.int .i64 E,.slice a0 ps.length c0] 34):=by rw [<- hB1];exact ((Bk.new' w _ _ rfl).alloc _).alloc _
 have C1:Hid (Bk B1 (w.heap.size+1) #[.slice a1 lx c1] 37):=by rw [<- hB1];exact (Bk.new' _ _ _ (by simp)).alloc _
 have R1:Hid (Bk B1 (w.heap.size+1+1) #[.bool false,.slice none 0 0] 31):=by rw [<- hB1];exact Bk.new' _ _ _ (by simp)
 obtain ⟨kp,hkp⟩:∃kp,w.heap.size=kp:=⟨_,rfl⟩
 have HKP:=Qao hkp;rw [hkp] at P1 C1 R1;have x0:=P1.out.c (i:=0) rfl;have x1:=P1.out.c (i:=1) rfl;have x2:=P1.out.c (i:=2) rfl;have x3:=P1.out.c (i:=3) rfl
 cases hB:prB N T E ps&&wiB N 1 ss
 ·rw [hB] at K1
  have HB:Hid (Z=[]/\ok=false):=HNN.out (by
   cases h1:prB N T E ps <;> rw [h1] at hB <;> simp_all)
  clear hB;go_enter Tryz.func10,Tryz.ntmps10;go_wp2_with fail;refine (K1.out _ O1.out).mono ?_
  rintro e w2 ⟨rfl,g2⟩;have G2:=Qao (Old.trans O1.out g2);have R2:=Qao (R1.out.old g2);clear g2 x0 x1 x2 x3 hB1 hkp;have z0:=R2.out.c (i:=0) rfl;have z1:=R2.out.c (i:=1) rfl;have f0:w2.frozen? ⟨kp+1+1,0,none⟩=false:=frozen_of_row _ _ _ _ _ R2.out
  have f1:w2.frozen? ⟨kp+1+1,1,none⟩=false:=frozen_of_row _ _ _ _ _ R2.out
  go_wp2_with fail;have qq:=Qek R2.out (.bool false) (.slice none 0 0);have q0:=qq.c (i:=0) rfl;have q1:=qq.c (i:=1) rfl;have hkp':=HKP.out;refine bodyPost_ret (v:=.tuple #[.agg #[.bool false,.slice none 0 0],.bool false]) (by simp [results,Tryz.results10,go_sem,q0,q1]) rfl ?_
  rw [HB.out.1,HB.out.2];exact ⟨_,rfl,(G2.out.own (p:=⟨kp+1+1,0,none⟩) (by show w.heap.size<=kp+1+1;omega) _).own (p:=⟨kp+1+1,1,none⟩) (by show w.heap.size<=kp+1+1;omega) _,Qdz _ _⟩
 rw [hB] at K1;rw [Bool.and_eq_true] at hB;obtain ⟨hpr,hwi⟩:=hB;have hsp:=Qtp hpr;have K2':=Qao (K2.out hsp);clear K2
 cases hC:ciB N ps xsss
 ·rw [hC] at K2';have HB:Hid (Z=[]∧ok=false):=HNN.out (by rw [hpr,hC];rfl);clear hC hpr hwi hsp;go_enter Tryz.func10,Tryz.ntmps10;go_wp2_with fail;refine (K1.out _ O1.out).mono ?_
  rintro e w2 ⟨rfl,g2⟩;have G2:=Qao (Old.trans O1.out g2);have P2:=Qao (P1.out.old g2);have C2:=Qao (C1.out.old g2);have R2:=Qao (R1.out.old g2);clear g2 x0 x1 x2 x3 hB1 hkp P1 C1;have x0:=P2.out.c (i:=0) rfl;have x1:=P2.out.c (i:=1) rfl;have x2:=P2.out.c (i:=2) rfl;have x3:=P2.out.c (i:=3) rfl;have y0:=C2.out.c (i:=0) rfl;go_wp2_with fail;refine (K2'.out _ G2.out).mono ?_
  rintro e w3 ⟨rfl,g3⟩;have G3:=Qao (Old.trans G2.out g3);have R3:=Qao (R2.out.old g3);clear g3 x0 x1 x2 x3 y0;have z0:=R3.out.c (i:=0) rfl;have z1:=R3.out.c (i:=1) rfl;have f0:w3.frozen? ⟨kp+1+1,0,none⟩=false:=frozen_of_row _ _ _ _ _ R3.out
  have f1:w3.frozen? ⟨kp+1+1,1,none⟩=false:=frozen_of_row _ _ _ _ _ R3.out
  go_wp2_with fail;have qq:=Qek R3.out (.bool false) (.slice none 0 0);have q0:=qq.c (i:=0) rfl;have q1:=qq.c (i:=1) rfl;have hkp':=HKP.out;refine bodyPost_ret (v:=.tuple #[.agg #[.bool false,.slice none 0 0],.bool false]) (by simp [results,Tryz.results10,go_sem,q0,q1]) rfl ?_
  rw [HB.out.1,HB.out.2];exact ⟨_,rfl,(G3.out.own (p:=⟨kp+1+1,0,none⟩) (by show w.heap.size<=kp+1+1;omega) _).own (p:=⟨kp+1+1,1,none⟩) (by show w.heap.size<=kp+1+1;omega) _,Qdz _ _⟩
 rw [hC] at K2';obtain ⟨eZ,eo⟩:=HY.out (by rw [hpr,hC,hwi];rfl);subst eo;obtain ⟨hz4,hbb,_⟩:=Qdj hsp;obtain ⟨Nn,rfl⟩:∃Nn:Nat,N=(Nn:Int):=⟨N.toNat,by omega⟩
 rw [show ((Nn:Int).toNat)=Nn by omega] at eZ;obtain ⟨hsl,hsv⟩:=Qm3 hwi;obtain ⟨qs,eqs,hbs⟩:=Qke hbb;have hqs:pnN ps=qs:=by unfold pnN;rw [eqs];exact Qkv qs
 have hpb:∀k,k<ps.length->2<=ps.getD k 0/\ps.getD k 0<=268435456:=fun k hk=>Qqm ((Qc7 hbb).2 k hk)
 have hps:=(Qc7 hbb).1;have hS4:Sz4 Nn:=by unfold Sz4;omega
 have HUK:=Qoh (sss:=smS ps ss) hpb hC;have HNK:=Qt1 (T:=T) hpb HUK;have HGR:Hid (Gr Nn ps (nzL T ps (Qd6 Nn ps xsss (smS ps ss)))):=Quh hbb (by unfold nzL;rw [Qbl]) HNK;have HTT:=Qao (Q1k hpr);have HNB:Hid (2<=Nn/\Nn<=16):=show 2<=Nn/\Nn<=16 by omega
 have HRT:=HRB.out Nn rfl hsp;have K4:=Qao (fun W (g:Old w W)=>Qmu Nn T E ps Rf xsss ss (.slice a0 ps.length c0) (.slice a1 lx c1) (.slice sa ss.length sc) W lo hi (HV.out.1.old g) (Ows.old (Qfl xsss) HU.out g) (HU2.out.old g) hS4 hps hpb HRT hC hsl (fun i hi=>by have:=hsv i hi;omega));have KS:=Qao (fun W=>Qbn (Nn:Int) T E a0 ps.length c0 W)
 have KC:Hid (∀W u u',Old w W->Qcc W u (Qd6 Nn ps xsss (smS ps ss))->Rz T W u'->Calls Tryz.prog 44 #[.agg #[.int .i64 (Nn:Int),.slice a0 ps.length c0],u,u'] W fun e w'=>∃v',e=.returned v'/\Old W w'/\OwS (nzL T ps (Qd6 Nn ps xsss (smS ps ss))) w' W.heap.size w'.heap.size v'):=fun W u u' g hu hz=>by
  obtain ⟨Tn,hTn⟩:∃Tn:Nat,T=Tn:=⟨T.toNat,by have:=HTT.out;omega⟩
  have hz2:=hz;obtain ⟨za,zc,rfl,_⟩:=hz;have h:=Qmk (fun p=>T%p) (ng T) za (dg T).length zc (Nn:Int) ps (Qd6 Nn ps xsss (smS ps ss)) (.slice a0 ps.length c0) u W (HV.out.1.old g) hu hps Qv7 (fun k hk=>?_) (fun k hk=>?_)
  ·rw [show Qbs (Qf7 fun p=>T%p) ps (Qd6 Nn ps xsss (smS ps ss)) (Qd6 Nn ps xsss (smS ps ss))=nzL T ps (Qd6 Nn ps xsss (smS ps ss)) by
    unfold nzL Qbs Qci Qf7;refine List.map_congr_left fun k hk=>List.map_congr_left fun i hi=>?_
    rw [Int.mul_emod,Int.emod_emod,<- Int.mul_emod]] at h
   exact h
  ·obtain ⟨h1,h2⟩:=HUK k hk;have hp:=hpb k hk;have:=HNB.out;exact ⟨by omega,hp,fun i hi=>by have:=h2 i (by omega);omega⟩
  ·have hp:=hpb k hk;have hTT2:=HTT.out;have e1:=Int.emod_nonneg T (show ps.getD k 0≠0 by omega);have e2:=Int.emod_lt_of_pos T (show 0<ps.getD k 0 by omega);refine ⟨⟨e1,by show T%ps.getD k 0<_;omega⟩,fun W2 g2=>?_⟩;obtain ⟨Pn,hPn⟩:∃Pn:Nat,ps.getD k 0=Pn:=⟨(ps.getD k 0).toNat,by omega⟩
   rw [hPn];exact Qwd T Pn _ W2 (hz2.old g2) (Nat.le_trans (Qs3 T (by omega) (by omega)) (by omega)) (by omega)
 have K5:=Qao (fun W u (g:Old w W) (h:Qcc W u (nzL T ps (Qd6 Nn ps xsss (smS ps ss))))=>Qop Nn T E ps (nzL T ps (Qd6 Nn ps xsss (smS ps ss))) (.slice a0 ps.length c0) u W (HV.out.1.old g) h (by have:=HNB.out;omega) hps HGR.out);have hZ':dig (grN (fun k=>(ctZ ps (nzL T ps (Qd6 Nn ps xsss (smS ps ss))) k).natAbs) Nn)=Z:=eZ.symm;rw [hZ'] at K5
 have hZ40:Z.length<=40:=by
  rw [eZ];have:cnt (noN Nn T ps (Qd6 Nn ps xsss (smS ps ss)))<=7:=Qoo (fun k hk=>Qm2 HGR.out k hk)
  show cnt _<=40
  omega
 have K6:=Qao (fun W u (h:Row W u (toI Z))=>Qzd false Z u W h hZ40);generalize nzL T ps (Qd6 Nn ps xsss (smS ps ss))=NZ at *;generalize Qd6 Nn ps xsss (smS ps ss)=U at *;clear hC hpr hwi hsp eZ hz4 hbb hsl hsv eqs hbs hqs hpb hps hS4 HRT HY HNN HRB HU HR hZ' hZ40 HUK HNK HGR;go_enter Tryz.func10,Tryz.ntmps10;go_wp2_with fail;refine (K1.out _ O1.out).mono ?_
 rintro e w2 ⟨rfl,g2⟩;have G2:=Qao (Old.trans O1.out g2);have P2:=Qao (P1.out.old g2);have C2:=Qao (C1.out.old g2);have R2:=Qao (R1.out.old g2);clear g2 x0 x1 x2 x3 hB1 hkp P1 C1 K1 O1 R1;have x0:=P2.out.c (i:=0) rfl;have x1:=P2.out.c (i:=1) rfl;have x2:=P2.out.c (i:=2) rfl;have x3:=P2.out.c (i:=3) rfl;have y0:=C2.out.c (i:=0) rfl;go_wp2_with fail;refine (K2'.out _ G2.out).mono ?_
 rintro e w3 ⟨rfl,g3⟩;have G3:=Qao (Old.trans G2.out g3);have P3:=Qao (P2.out.old g3);have C3:=Qao (C2.out.old g3);have R3:=Qao (R2.out.old g3);clear g3 x0 x1 x2 x3 y0 P2 C2 G2 K2' R2;go_wp2_with fail;refine Q1q w3 (Nn:Int) T E a0 ps.length c0 kp (kp+1) a1 lx c1 sa ss.length sc (fun W u=>Qcc W u U) (fun W u=>Rz T W u) (fun W u=>Qcc W u NZ) (fun W W' u h q=>h.old q) (fun W W' u h q=>h.old q) (fun W W' u h q=>h.old q) C3.out P3.out (fun W q=>KS.out W) (fun W q=>?_) (fun W q=>?_) (fun W q u u' hu hu'=>?_) _ _ ?_ ?_ ?_ ?_ ?_
 ·exact (K4.out W (Old.trans G3.out q)).mono fun e w' h=>by
   obtain ⟨u,e1,q1,o1⟩:=h;exact ⟨u,e1,q1,o1.rs⟩
 ·exact (Q3a T W (by have:=HTT.out;omega) (by have:=HTT.out;omega)).mono fun e w' h=>by
   obtain ⟨u',e1,e2,e3⟩:=h;exact ⟨u',e1,e2,e3.rz⟩
 ·exact (KC.out W u u' (Old.trans G3.out q) hu hu').mono fun e w' h=>by
   obtain ⟨u,e1,q1,o1⟩:=h;exact ⟨u,e1,q1,o1.rs⟩
 iterate 4 (·exact rfl)
 intro us w4 g4 h10;obtain ⟨na,nc,e10⟩:=h10.slice;have HN4:=Qao h10;rw [e10] at HN4;have G4:=Qao (Old.trans G3.out g4);have P4':=Qao (P3.out.old g4);have R4:=Qao (R3.out.old g4);simp only [Qaj,Act.put,Qef,List.range,List.range.loop,List.map_cons,List.map_nil,List.getD_cons_zero,List.getD_cons_succ,List.setIfInBounds_toArray,List.set_cons_succ,List.set_cons_zero];simp only [e10];obtain ⟨nl,hnl⟩:∃l,NZ.length=l:=⟨_,rfl⟩
 rw [hnl] at HN4 ⊢;clear g4 h10 e10 hnl P3 C3 R3 G3 K4 KS KC;have x0:=P4'.out.c (i:=0) rfl;have x1:=P4'.out.c (i:=1) rfl;have x2:=P4'.out.c (i:=2) rfl;have x3:=P4'.out.c (i:=3) rfl;go_wp2_with fail;refine (K5.out _ _ G4.out HN4.out).mono ?_
 rintro e w5 ⟨v5,rfl,g5,r5⟩;obtain ⟨ma,mc,e5⟩:=r5.sliceN;subst e5;have G5:=Qao (Old.trans G4.out g5);have R5:=Qao (R4.out.old g5);have M5:=Qao r5;obtain ⟨zl,hzl⟩:∃l,Z.length=l:=⟨_,rfl⟩
 rw [hzl] at M5 ⊢;clear g5 r5 x0 x1 x2 x3 P4' R4 K5 HN4 G4;go_wp2_with fail;refine (K6.out _ _ M5.out).mono ?_
 rintro e w6 ⟨v6,rfl,g6,o6⟩;have G6:=Qao (Old.trans G5.out g6);have R6:=Qao (R5.out.old g6);have O6:=Qao (o6.low G5.out.size);obtain ⟨va,vc,e6⟩:=(Own.row o6).sliceN;subst e6;rw [hzl] at O6 ⊢;have z0:=R6.out.c (i:=0) rfl;have z1:=R6.out.c (i:=1) rfl;have f0:w6.frozen? ⟨kp+1+1,0,none⟩=false:=frozen_of_row _ _ _ _ _ R6.out
 have f1:w6.frozen? ⟨kp+1+1,1,none⟩=false:=frozen_of_row _ _ _ _ _ R6.out
 clear g6 o6 hzl K6 M5 R5 G5;go_wp2_with fail;have qq:=Qek R6.out (.bool false) (.slice va zl vc);have q0:=qq.c (i:=0) rfl;have q1:=qq.c (i:=1) rfl;have hkp':=HKP.out;refine bodyPost_ret (v:=.tuple #[.agg #[.bool false,.slice va zl vc],.bool true]) (by simp [results,Tryz.results10,go_sem,q0,q1]) rfl ?_
 refine ⟨_,rfl,(G6.out.own (p:=⟨kp+1+1,0,none⟩) (by show w.heap.size<=kp+1+1;omega) _).own (p:=⟨kp+1+1,1,none⟩) (by show w.heap.size<=kp+1+1;omega) _,?_⟩;exact Qds (Qds O6.out R6.out _) (Qk9 R6.out (.bool false)) _
end Go.Proofs.YtejhpljichmmpaaGreatDoor
