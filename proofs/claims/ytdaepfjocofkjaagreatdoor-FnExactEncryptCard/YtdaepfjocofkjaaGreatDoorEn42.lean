/- Proved: what its theorems say. -/
import Derived.Test.YtdaepfjocofkjaaGreatDoorEn32
import Derived.Test.YtdaepfjocofkjaaGreatDoorEn41
import Derived.Test.YtdaepfjocofkjaaGreatDoorLawEncrypt
set_option linter.unusedVariables false
set_option linter.unusedSimpArgs false
set_option maxHeartbeats 8000000
set_option maxRecDepth 100000
namespace Go.Proofs.YtdaepfjocofkjaaGreatDoor
open Go.ChangeShapes Go.WideShapes Go.ChangeAt Go.RowKit
open M1
open M2
def CiE (Z:List (List (List Int))) (k:Int) (ok:Bool) (w:World) (e:Ending) (w':World):Prop:=∃r0,e=.returned (.tuple #[.agg r0,.int .i64 k,.bool ok])/\Old w w'/\XC Z w' w.heap.size w'.heap.size r0
theorem Qnq (N T E at_ : Int) (ps:List Int) (xss yss:List (List Int)) (ss ws:List Int) (v u2 u3:Value) (aA aB:Option Addr) (cA cB:Nat) (ux uy:Nat->Option Addr) (cx cy:Nat->Nat) (w:World) (hP:Qer w) (hT:Qbh w) (hv:Row w v ps) (hf:Fit v) (hlx:xss.length<=1048576) (hrx:∀r∈xss,r.length<=1048576) (hx:0<xss.length->Qd4 w (.slice aA xss.length cA) ps xss ux cx) (hly:yss.length<=1048576) (hry:∀r∈yss,r.length<=1048576) (hy:0<yss.length->Qd4 w (.slice aB yss.length cB) ps yss uy cy) (hu2:Row w u2 ss) (hl2:ss.length<=9223372036854775807) (hu3:Row w u3 ws) (hf3:Q0u u3) (hl3:ws.length<=9223372036854775807) (hlp:ps.length<=9223372036854775807) (Z:List (List (List Int))) (KK:Int) (ok:Bool) (hyy:(prB N T E ps&&(rwB N ps xss&&rwB N ps yss)&&enB ws at_ N E&&Qbe T N ss)=true->Z=[Qb4 Qd3 ps (ppL N.toNat ps (smS ps (aL (cE ws at_ N E))) yss (smS ps (aL (cT ws at_ N)))) (lfL (dmF (Qap (ps.map Int.toNat)) T.toNat) ps ss),ppL N.toNat ps (smS ps (aL (cF ws at_ N E))) xss (smS ps (aL (cT ws at_ N)))]/\KK=aK (cF ws at_ N E)/\ok=true) (hnn:(prB N T E ps&&(rwB N ps xss&&rwB N ps yss)&&enB ws at_ N E&&Qbe T N ss)=false->Z=[]/\KK=0/\ok=false) :
 Calls Tryz.prog 10 #[.agg #[.int .i64 N,.int .i64 T,.int .i64 E,v],.agg #[.slice aA xss.length cA,.slice aB yss.length cB],u2,u3,.int .i64 at_] w (CiE Z KK ok w):=by
 have HY:=Qaa hyy;have HNN:=Qaa hnn;clear hyy hnn;obtain ⟨Rf,hRb⟩:=Qp1 N ps;have hRf:=fun k hk=>(hRb k hk).1
 have HRB:Hid (∀Nn:Nat,N=Nn->spB N ps=true->RtS Nn ps Rf):=fun Nn e hs=>by
  subst e;exact Qx3 hRb hs
 have HU2:=Qaa hu2;have HTW:=Qaa hT;have HX:=Qaa hx;have HYR:=Qaa hy;have HRX:=Qaa hrx;have HRY:=Qaa hry;have HL2:=Qaa hl2;have K1:=Qaa (fun W (g:Old w W)=>Qif N T E ps Rf v W (hP.old g) (hT.old g) (hv.old g) hf hlp hRf);obtain ⟨a0,c0,ev⟩:=hv.slice;obtain ⟨a2,c2',eu2⟩:=hu2.slice;obtain ⟨a3,c3',eu3⟩:=hu3.slice;subst ev eu2 eu3;have KD:=Qaa (fun W (q:Old w W)=>Qjp N T E a0 ps.length c0 ws a3 c3' at_ W (hu3.old q) hf3 hl3);have HEN:Hid (enB ws at_ N E=true->SmN N.toNat (aL (cT ws at_ N))/\SmN N.toNat (aL (cE ws at_ N E))/\SmN N.toNat (aL (cF ws at_ N E))):=Q02;generalize enB ws at_ N E=eb at *
 generalize aL (cT ws at_ N)=zu at *;generalize aL (cE ws at_ N E)=ze at *;generalize aL (cF ws at_ N E)=zf at *;generalize aK (cF ws at_ N E)=k3 at *;obtain ⟨W1,hW1⟩:∃B:World,(((w.alloc (.cells #[.int .i64 N,.int .i64 T,.int .i64 E,.slice a0 ps.length c0] 35)).alloc (.cells #[.slice aA xss.length cA,.slice aB yss.length cB] 37)).alloc (.cells #[.slice none 0 0] 32))=B:=⟨_,rfl⟩
 have HA:Hid (Old w W1):=by rw [<- hW1];exact (((Old.refl w).alloc _).alloc _).alloc _
 have BP:Hid (Bk W1 w.heap.size #[.int .i64 N,.int .i64 T,.int .i64 E,.slice a0 ps.length c0] 35):=by rw [<- hW1];exact ((Bk.new' w _ _ rfl).alloc _).alloc _
 have BB:Hid (Bk W1 (w.heap.size+1) #[.slice aA xss.length cA,.slice aB yss.length cB] 37):=by rw [<- hW1];exact (Bk.new' _ _ _ (by simp)).alloc _
 have BR:Hid (Bk W1 (w.heap.size+1+1) #[.slice none 0 0] 32):=by rw [<- hW1];exact Bk.new' _ _ _ (by simp)
 obtain ⟨kp,hkp⟩:∃k,w.heap.size=k:=⟨_,rfl⟩
 have HKP:=Qaa hkp;rw [hkp] at BP BB BR;clear hv hf hP hT hRf hRb hu2 hu3 hx hy hrx hry hf3 hl2 hl3 hlp;have p0:=BP.out.c (i:=0) rfl;have p1:=BP.out.c (i:=1) rfl;have p2:=BP.out.c (i:=2) rfl;have p3:=BP.out.c (i:=3) rfl;go_enter Tryz.func10,Tryz.ntmps10;go_wp2_with fail;refine (K1.out _ HA.out).mono ?_
 rintro e w1 ⟨g1,h⟩;have HG1:=Qaa (Old.trans HA.out g1);have P1:=Qaa (BP.out.old g1);have B1:=Qaa (BB.out.old g1);have R1:=Qaa (BR.out.old g1);clear g1 K1 BB BP BR HA hW1 hkp p0 p1 p2 p3;rcases h with ⟨hB,rfl⟩ | ⟨hB,g,a,l,c,hg,rfl,hrg,P,hPz,hbs,hll,hoq⟩
 ·have HB:=Qaa (HNN.out (by rw [hB];rfl));have O2:Old w1 (w1.alloc (.cells rk0 69)):=(Old.refl w1).alloc _;have BX2:Hid (Bk (w1.alloc (.cells rk0 69)) w1.heap.size rk0 69):=Bk.new' w1 _ _ rfl;have HG2:=Qaa (Old.trans HG1.out O2);have P2:=Qaa (P1.out.old O2);have B2:=Qaa (B1.out.old O2);have R2:=Qaa (R1.out.old O2);have z0:=B2.out.c (i:=0) rfl;have z1:=B2.out.c (i:=1) rfl;have x4:=BX2.out.c (i:=4) rfl;have K2:=Qaa (Qls aA aB xss.length cA yss.length cB (w1.alloc (.cells rk0 69)));clear hB O2 B1 R1 HG1;go_wp2_with fail;refine K2.out.mono ?_
  rintro e w3 ⟨g3,p,l,c,p',l',c',b3,rfl⟩;clear K2;obtain ⟨W4,hW4⟩:∃B:World,w3.alloc (.cells #[.slice p l c,.slice p' l' c'] 74)=B:=⟨_,rfl⟩
  have A4:Old w3 W4:=by rw [<- hW4];exact (Old.refl w3).alloc _
  have T4:Hid (Bk W4 w3.heap.size #[.slice p l c,.slice p' l' c'] 74):=by rw [<- hW4];exact Bk.new' w3 _ _ rfl
  have O4:=Qaa (Old.trans g3 A4);have HG4:=Qaa (Old.trans HG2.out O4.out);have P4:=Qaa (P2.out.old O4.out);have R4:=Qaa (R2.out.old O4.out);obtain ⟨kt,hkt⟩:∃k,w3.heap.size=k:=⟨_,rfl⟩
  rw [hkt] at T4;clear g3 A4 P2 R2 B2 BX2 z0 z1 x4;have p0:=P4.out.c (i:=0) rfl;have p1:=P4.out.c (i:=1) rfl;have p2:=P4.out.c (i:=2) rfl;have p3:=P4.out.c (i:=3) rfl;go_wp2_with fail;refine (KD.out _ HG4.out).mono ?_
  rintro e w5 ⟨g5,y1,d1,y2,d2,y3,d3,rfl,rr1,rr2,rr3⟩;obtain ⟨W6,hW6⟩:∃B:World,w5.alloc (.cells #[.slice y1 zu.length d1,.slice y2 ze.length d2,.slice y3 zf.length d3] 78)=B:=⟨_,rfl⟩
  have A6:Old w5 W6:=by rw [<- hW6];exact (Old.refl w5).alloc _
  have T6:Hid (Bk W6 w5.heap.size #[.slice y1 zu.length d1,.slice y2 ze.length d2,.slice y3 zf.length d3] 78):=by rw [<- hW6];exact Bk.new' w5 _ _ rfl
  have O6:=Qaa (Old.trans g5 A6);have HG6:=Qaa (Old.trans HG4.out O6.out);have R6:=Qaa (R4.out.old O6.out);obtain ⟨kc,hkc⟩:∃k,w5.heap.size=k:=⟨_,rfl⟩
  rw [hkc] at T6;clear g5 A6 rr1 rr2 rr3 P4 R4 KD p0 p1 p2 p3 hW4 hkt;have f0:W6.frozen? ⟨kp+1+1,0,none⟩=false:=frozen_of_row _ _ _ _ _ R6.out
  have y0:=R6.out.c (i:=0) rfl;go_wp2_with fail;have q0:=(Qew R6.out (.slice none 0 0)).c (i:=0) rfl;refine bodyPost_ret (v:=.tuple #[.agg #[.slice none 0 0],.int .i64 0,.bool false]) (by simp [results,Tryz.results10,go_sem,q0]) rfl ?_
  rw [HB.out.1,HB.out.2.1,HB.out.2.2];exact ⟨_,rfl,HG6.out.own (p:=⟨kp+1+1,0,none⟩) (by have:=HKP.out;show w.heap.size<=kp+1+1;omega) _,XC.nil2 (Nat.le_refl _)⟩
 ·have hsp:=Qtm hB;obtain ⟨hz4,hbb,_⟩:=Qc3 hsp;obtain ⟨Nn,rfl⟩:∃Nn:Nat,N=(Nn:Int):=⟨N.toNat,by omega⟩
  have hNn:2<=Nn/\Nn<=16:=by omega
  have hps:=(Qcs hbb).1;have hq7:=hbs.cnt
  have hrq:Row w1 (.slice a l c) (toI (M2.dig (Qap (ps.map Int.toNat)))):=by
   rw [show ps.map Int.toNat=P by rw [hPz];exact Qik P];exact Own.row hoq
  have hqc:M2.cnt (Qap (ps.map Int.toNat))<=7:=by
   rw [show ps.map Int.toNat=P by rw [hPz];exact Qik P];exact hq7
  have HBB:=Qaa hB;have HS4:Hid (Sz4 Nn):=by unfold Hid Sz4;omega
  have HPB:=Qaa (fun k hk=>Qq5 ((Qcs hbb).2 k hk));have HRT:=Qaa (HRB.out Nn rfl hsp);have HN16:=Qaa hNn;have HPS:=Qaa hps;have hTT:=Qaa (Q0b hB);obtain ⟨W2,hW2⟩:∃B:World,w1.alloc (.cells #[.int .i64 (Nn:Int),.int .i64 T,.int .i64 E,.slice a0 ps.length c0,.slice (some ⟨g,0,none⟩) ps.length ps.length,.bool false,.slice a l c] 69)=B:=⟨_,rfl⟩
  have O2:Old w1 W2:=by rw [<- hW2];exact (Old.refl w1).alloc _
  have BX2:Hid (Bk W2 w1.heap.size #[.int .i64 (Nn:Int),.int .i64 T,.int .i64 E,.slice a0 ps.length c0,.slice (some ⟨g,0,none⟩) ps.length ps.length,.bool false,.slice a l c] 69):=by rw [<- hW2];exact Bk.new' w1 _ _ rfl
  have HG2:=Qaa (Old.trans HG1.out O2);have HRG2:=Qaa (hrg.old O2);have HRQ2:=Qaa (hrq.old O2);have HQC:=Qaa hqc;have P2:=Qaa (P1.out.old O2);have B2:=Qaa (B1.out.old O2);have R2:=Qaa (R1.out.old O2);obtain ⟨kr,hkr⟩:∃k,w1.heap.size=k:=⟨_,rfl⟩
  rw [hkr] at BX2;have z0:=B2.out.c (i:=0) rfl;have z1:=B2.out.c (i:=1) rfl;have x4:=BX2.out.c (i:=4) rfl;have K2:=Qaa (Qnp Nn ps Rf xss yss ux uy cx cy g aA aB cA cB W2 hNn hps HRG2.out hsp hlx HRX.out (fun h=>(HX.out h).old HG2.out) hly HRY.out (fun h=>(HYR.out h).old HG2.out));clear hB O2 B1 R1 HG1 hrg hg hsp hz4 hbb hNn hps HRB hPz hbs hll hoq hq7 hrq hqc HX HYR HRX HRY;go_wp2_with fail;refine K2.out.mono ?_
  rintro e w3 ⟨g3,h⟩;clear K2 hW2 hkr;rcases h with ⟨hC,p,l',c',p',l2,c2,rfl⟩ | ⟨hC,ga,gb,rfl,hra,hrb⟩
  ·have HB:=Qaa (HNN.out (by rw [HBB.out,hC];rfl));clear hC;obtain ⟨W4,hW4⟩:∃B:World,w3.alloc (.cells #[.slice p l' c',.slice p' l2 c2] 74)=B:=⟨_,rfl⟩
   have A4:Old w3 W4:=by rw [<- hW4];exact (Old.refl w3).alloc _
   have T4:Hid (Bk W4 w3.heap.size #[.slice p l' c',.slice p' l2 c2] 74):=by rw [<- hW4];exact Bk.new' w3 _ _ rfl
   have O4:=Qaa (Old.trans g3 A4);have HG4:=Qaa (Old.trans HG2.out O4.out);have P4:=Qaa (P2.out.old O4.out);have R4:=Qaa (R2.out.old O4.out);obtain ⟨kt,hkt⟩:∃k,w3.heap.size=k:=⟨_,rfl⟩
   rw [hkt] at T4;clear g3 A4 P2 R2 B2 BX2 z0 z1 x4;have p0:=P4.out.c (i:=0) rfl;have p1:=P4.out.c (i:=1) rfl;have p2:=P4.out.c (i:=2) rfl;have p3:=P4.out.c (i:=3) rfl;go_wp2_with fail;refine (KD.out _ HG4.out).mono ?_
   rintro e w5 ⟨g5,y1,d1,y2,d2,y3,d3,rfl,rr1,rr2,rr3⟩;obtain ⟨W6,hW6⟩:∃B:World,w5.alloc (.cells #[.slice y1 zu.length d1,.slice y2 ze.length d2,.slice y3 zf.length d3] 78)=B:=⟨_,rfl⟩
   have A6:Old w5 W6:=by rw [<- hW6];exact (Old.refl w5).alloc _
   have T6:Hid (Bk W6 w5.heap.size #[.slice y1 zu.length d1,.slice y2 ze.length d2,.slice y3 zf.length d3] 78):=by rw [<- hW6];exact Bk.new' w5 _ _ rfl
   have O6:=Qaa (Old.trans g5 A6);have HG6:=Qaa (Old.trans HG4.out O6.out);have R6:=Qaa (R4.out.old O6.out);obtain ⟨kc,hkc⟩:∃k,w5.heap.size=k:=⟨_,rfl⟩
   rw [hkc] at T6;clear g5 A6 rr1 rr2 rr3 P4 R4 KD p0 p1 p2 p3 hW4 hkt;have f0:W6.frozen? ⟨kp+1+1,0,none⟩=false:=frozen_of_row _ _ _ _ _ R6.out
   have y0:=R6.out.c (i:=0) rfl;go_wp2_with fail;have q0:=(Qew R6.out (.slice none 0 0)).c (i:=0) rfl;refine bodyPost_ret (v:=.tuple #[.agg #[.slice none 0 0],.int .i64 0,.bool false]) (by simp [results,Tryz.results10,go_sem,q0]) rfl ?_
   rw [HB.out.1,HB.out.2.1,HB.out.2.2];exact ⟨_,rfl,HG6.out.own (p:=⟨kp+1+1,0,none⟩) (by have:=HKP.out;show w.heap.size<=kp+1+1;omega) _,XC.nil2 (Nat.le_refl _)⟩
  ·have HC:=Qaa hC;have RA:=Qaa hra;have RB:=Qaa hrb;clear hC hra hrb;obtain ⟨W4,hW4⟩:∃B:World,w3.alloc (.cells #[.slice ga ps.length ps.length,.slice gb ps.length ps.length] 74)=B:=⟨_,rfl⟩
   have A4:Old w3 W4:=by rw [<- hW4];exact (Old.refl w3).alloc _
   have T4:Hid (Bk W4 w3.heap.size #[.slice ga ps.length ps.length,.slice gb ps.length ps.length] 74):=by rw [<- hW4];exact Bk.new' w3 _ _ rfl
   have O4:=Qaa (Old.trans g3 A4);have HG4:=Qaa (Old.trans HG2.out O4.out);have P4:=Qaa (P2.out.old O4.out);have R4:=Qaa (R2.out.old O4.out);have BX4:=Qaa (BX2.out.old O4.out);have A4h:=Qaa A4;obtain ⟨kt,hkt⟩:∃k,w3.heap.size=k:=⟨_,rfl⟩
   rw [hkt] at T4;clear g3 A4 P2 R2 B2 BX2 z0 z1 x4;have p0:=P4.out.c (i:=0) rfl;have p1:=P4.out.c (i:=1) rfl;have p2:=P4.out.c (i:=2) rfl;have p3:=P4.out.c (i:=3) rfl;go_wp2_with fail;refine (KD.out _ HG4.out).mono ?_
   rintro e w5 ⟨g5,y1,d1,y2,d2,y3,d3,rfl,rr1,rr2,rr3⟩;obtain ⟨W6,hW6⟩:∃B:World,w5.alloc (.cells #[.slice y1 zu.length d1,.slice y2 ze.length d2,.slice y3 zf.length d3] 78)=B:=⟨_,rfl⟩
   have A6:Old w5 W6:=by rw [<- hW6];exact (Old.refl w5).alloc _
   have T6:Hid (Bk W6 w5.heap.size #[.slice y1 zu.length d1,.slice y2 ze.length d2,.slice y3 zf.length d3] 78):=by rw [<- hW6];exact Bk.new' w5 _ _ rfl
   have O6:=Qaa (Old.trans g5 A6);have HG6:=Qaa (Old.trans HG4.out O6.out);have R6:=Qaa (R4.out.old O6.out);have RR1:=Qaa (rr1.old A6);have RR2:=Qaa (rr2.old A6);have RR3:=Qaa (rr3.old A6);obtain ⟨kc,hkc⟩:∃k,w5.heap.size=k:=⟨_,rfl⟩
   rw [hkc] at T6;clear g5 A6 rr1 rr2 rr3 P4 R4 KD p0 p1 p2 p3 hW4 hkt;have RA6:=Qaa (RA.out.old (Old.trans A4h.out O6.out));have RB6:=Qaa (RB.out.old (Old.trans A4h.out O6.out));have T46:=Qaa (T4.out.old O6.out);have BX6:=Qaa (BX4.out.old O6.out);have HRG6:=Qaa (HRG2.out.old (Old.trans O4.out O6.out));have HRQ6:=Qaa (HRQ2.out.old (Old.trans O4.out O6.out));clear RA RB T4 BX4 HRG2 HRQ2 O4 O6 A4h HG4 HG2
   cases heb:eb
   ·have HB:=Qaa (HNN.out (by rw [HBB.out,HC.out,heb];rfl));clear heb;have f0:W6.frozen? ⟨kp+1+1,0,none⟩=false:=frozen_of_row _ _ _ _ _ R6.out
    have y0:=R6.out.c (i:=0) rfl;go_wp2_with fail;have q0:=(Qew R6.out (.slice none 0 0)).c (i:=0) rfl;refine bodyPost_ret (v:=.tuple #[.agg #[.slice none 0 0],.int .i64 0,.bool false]) (by simp [results,Tryz.results10,go_sem,q0]) rfl ?_
    rw [HB.out.1,HB.out.2.1,HB.out.2.2];exact ⟨_,rfl,HG6.out.own (p:=⟨kp+1+1,0,none⟩) (by have:=HKP.out;show w.heap.size<=kp+1+1;omega) _,XC.nil2 (Nat.le_refl _)⟩
   ·obtain ⟨smu,sme,smf⟩:=HEN.out heb;have KI:=Qaa (fun W (q:Old w W)=>Qod (Nn:Int) T E (.slice a0 ps.length c0) (.slice (some ⟨g,0,none⟩) ps.length ps.length) (.bool false) (.slice a l c) rfl rfl rfl rfl ss _ W (HU2.out.old q) HL2.out (by have:=hTT.out;omega) ⟨_,_,_,_,_,_,_,_,_,_,rfl,rfl,rfl,rfl⟩);have x0:=BX6.out.c (i:=0) rfl;have x1:=BX6.out.c (i:=1) rfl;have x2:=BX6.out.c (i:=2) rfl;have x3:=BX6.out.c (i:=3) rfl;have x4:=BX6.out.c (i:=4) rfl;have x5:=BX6.out.c (i:=5) rfl;have x6:=BX6.out.c (i:=6) rfl
    cases hpl:Qbe T (Nn:Int) ss
    ·have HB:=Qaa (HNN.out (by rw [hpl,Bool.and_false]));rw [hpl] at KI;clear heb hpl smu sme smf;go_wp2_with fail;refine (KI.out _ HG6.out).mono ?_
     rintro e w7 ⟨rfl,g7⟩;have HG7:=Qaa (Old.trans HG6.out g7);have R7:=Qaa (R6.out.old g7);clear g7 x0 x1 x2 x3 x4 x5 x6 hW6 hkc;have f0:w7.frozen? ⟨kp+1+1,0,none⟩=false:=frozen_of_row _ _ _ _ _ R7.out
     have y0:=R7.out.c (i:=0) rfl;go_wp2_with fail;have q0:=(Qew R7.out (.slice none 0 0)).c (i:=0) rfl;refine bodyPost_ret (v:=.tuple #[.agg #[.slice none 0 0],.int .i64 0,.bool false]) (by simp [results,Tryz.results10,go_sem,q0]) rfl ?_
     rw [HB.out.1,HB.out.2.1,HB.out.2.2];exact ⟨_,rfl,HG7.out.own (p:=⟨kp+1+1,0,none⟩) (by have:=HKP.out;show w.heap.size<=kp+1+1;omega) _,XC.nil2 (Nat.le_refl _)⟩
    ·rw [hpl] at KI;obtain ⟨eZ,ek,eok⟩:=HY.out (by rw [HBB.out,HC.out,heb,hpl];rfl);obtain ⟨hsl,hsv⟩:=Qen hpl;have HSL:=Qaa (show ss.length=Nn by omega);have HSV:=Qaa hsv;obtain ⟨Tn,rfl⟩:∃Tn:Nat,T=(Tn:Int):=⟨T.toNat,by have:=hTT.out;omega⟩
     obtain ⟨b1,b2⟩:=(Bool.and_eq_true _ _).mp HC.out;have OX:=Qaa (Qqp b1);have OY:=Qaa (Qqp b2);have en:((Nn:Nat):Int).toNat=Nn:=rfl;have et:((Tn:Nat):Int).toNat=Tn:=rfl;rw [en] at smu sme smf;have HU:=Qaa smu;have HE:=Qaa sme;have HF:=Qaa smf;have OU:=Qaa (Qcq HPB.out HU.out.1);have OE:=Qaa (Qcq HPB.out HE.out.1);have OF:=Qaa (Qcq HPB.out HF.out.1);have OP:Hid (OkX Nn ps (ppL Nn ps (smS ps ze) yss (smS ps zu))):=Qil HPB.out OE.out;have OL:Hid (OkX Nn ps (lfL (dmF (Qap (ps.map Int.toNat)) Tn) ps ss)):=Qx2 _ HSL.out HPB.out;obtain ⟨Z0,hZ0⟩:∃z,Qb4 Qd3 ps (ppL Nn ps (smS ps ze) yss (smS ps zu)) (lfL (dmF (Qap (ps.map Int.toNat)) Tn) ps ss)=z:=⟨_,rfl⟩
     obtain ⟨Z1,hZ1⟩:∃z,ppL Nn ps (smS ps zf) xss (smS ps zu)=z:=⟨_,rfl⟩
     have l0:Z0.length=ps.length:=by rw [<- hZ0];exact Qb5 _ _ _ _
     have l1:Z1.length=ps.length:=by rw [<- hZ1];exact Qb5 _ _ _ _
     rw [en,et,hZ0,hZ1] at eZ;obtain ⟨ZL,hZL⟩:∃z,[Z0,Z1]=z:=⟨_,rfl⟩
     have HZLn:Hid (ZL.length=2):=by show _ = _;rw [<- hZL];rfl
     have HZ:Hid (∀j,j<ZL.length->(ZL.getD j []).length=ps.length):=fun j hj=>by
      rw [<- hZL] at hj ⊢;rcases (show j=0∨j=1 by simp at hj;omega) with rfl | rfl
      ·exact l0
      ·exact l1
     have HEND:Hid (∀w' r0,Old w w'->XC ZL w' w.heap.size w'.heap.size r0->CiE Z KK ok w (.returned (.tuple #[.agg r0,.int .i64 k3,.bool true])) w'):=fun w' r0 h1 h2=>by
      rw [eZ,ek,eok,hZL];exact ⟨r0,rfl,h1,h2⟩
     have HZLe:=Qaa hZL;have HZ0:=Qaa hZ0;have HZ1:=Qaa hZ1;clear heb hpl smu sme smf hsl hsv b1 b2 en et hZ0 hZ1 l0 l1 hZL eZ ek eok HY HNN HBB HC HEN;go_wp2_with fail;refine (KI.out _ HG6.out).mono ?_
     rintro e w7 ⟨rfl,g7⟩;have HG7:=Qaa (Old.trans HG6.out g7);have R7:=Qaa (R6.out.old g7);have BX7:=Qaa (BX6.out.old g7);have T7:=Qaa (T6.out.old g7);have T47:=Qaa (T46.out.old g7);have HRG7:=Qaa (HRG6.out.old g7);have HRQ7:=Qaa (HRQ6.out.old g7);have RA7:=Qaa (RA6.out.old g7);have RB7:=Qaa (RB6.out.old g7);have U7:=Qaa (RR1.out.old g7);have E7:=Qaa (RR2.out.old g7);have F7:=Qaa (RR3.out.old g7);clear hW6 hkc g7 x0 x1 x2 x3 x4 x5 x6 KI R6 BX6 T6 T46 HRG6 HRQ6 RA6 RB6 RR1 RR2 RR3 HG6;have KS:=Qaa (fun W (q:Old w7 W) (zs:List Int) (az:Option Addr) (cz:Nat) (hr:Row w7 (.slice az zs.length cz) zs) (hl:SmN Nn zs)=>Qev Nn ps zs Rf g (.slice az zs.length cz) W (HRG7.out.old q) (by have:=HPS.out;omega) (hr.old q) (by have h2:=HN16.out;have:=hl.1;omega) (fun i hi=>by have:=hl.2 i hi;omega) (fun k hk=>by have:=HPB.out k hk;omega))
     have HAS6:Hid (∀W',Old w7 W'->(W'.cell? ⟨kr,4,none⟩=some (.slice (some ⟨g,0,none⟩) ps.length ps.length)/\W'.cell? ⟨kc,0,none⟩=some (.slice y1 zu.length d1)/\W'.cell? ⟨kc,1,none⟩=some (.slice y2 ze.length d2)/\W'.cell? ⟨kc,2,none⟩=some (.slice y3 zf.length d3))):=fun W' q=>by
      have b:=BX7.out.old q;have c:=T7.out.old q;exact ⟨b.c (i:=4) rfl,c.c (i:=0) rfl,c.c (i:=1) rfl,c.c (i:=2) rfl⟩
     obtain ⟨v0,v1,v2,v3⟩:=HAS6.out _ (Old.refl w7);go_wp2_with fail
     go_region_held3 (fun W'=>W'.cell? ⟨kr,4,none⟩=some (.slice (some ⟨g,0,none⟩) ps.length ps.length)/\W'.cell? ⟨kc,0,none⟩=some (.slice y1 zu.length d1)/\W'.cell? ⟨kc,1,none⟩=some (.slice y2 ze.length d2)/\W'.cell? ⟨kc,2,none⟩=some (.slice y3 zf.length d3)) (first | with_reducible exact HAS6.out _ GC.out | with_reducible exact HAS6.out _ GB.out | with_reducible exact HAS6.out _ GA.out | with_reducible exact HAS6.out _ (Below.drew (Old.refl w7)) | with_reducible exact HAS6.out _ (Old.refl w7) | fail) (first
      | (go_at_call 38;refine (KS.out _ GB.out zf y3 d3 F7.out HF.out).mono ?_;rintro e wc ⟨bwc,_,rfl,gwc,owc⟩;have GC:=Qaa (Old.trans GB.out gwc);have VC:Hid (RdX Nn ps Rf (smS ps zf) wc (.slice (some ⟨bwc,0,none⟩) ps.length ps.length)):=Ows.rd HPS.out.1 owc;have XGC:=Qaa gwc;clear gwc owc)
      | (go_at_call 38;refine (KS.out _ GA.out ze y2 d2 E7.out HE.out).mono ?_;rintro e wb ⟨bwb,_,rfl,gwb,owb⟩;have GB:=Qaa (Old.trans GA.out gwb);have VB:Hid (RdX Nn ps Rf (smS ps ze) wb (.slice (some ⟨bwb,0,none⟩) ps.length ps.length)):=Ows.rd HPS.out.1 owb;have XGB:=Qaa gwb;clear gwb owb)
      | (go_at_call 38;refine (KS.out _ (Below.drew (Old.refl w7)) zu y1 d1 U7.out HU.out).mono ?_;rintro e wa ⟨bwa,_,rfl,gwa,owa⟩;have GA:=Qaa (Old.trans (Below.drew (Old.refl w7)) gwa);have VA:Hid (RdX Nn ps Rf (smS ps zu) wa (.slice (some ⟨bwa,0,none⟩) ps.length ps.length)):=Ows.rd HPS.out.1 owa;clear gwa owa)
      | fail)
     clear v0 v1 v2 v3 HAS6;have V15:=Qaa ((VA.out.old XGB.out).old XGC.out);have V16:=Qaa (VB.out.old XGC.out);have V17:=Qaa VC.out;have q8:=GC.out;clear VA VB VC GA GB GC XGB XGC;generalize (some ⟨bwa,0,none⟩:Option Addr)=s1 at *;generalize (some ⟨bwb,0,none⟩:Option Addr)=s2 at *;generalize (some ⟨bwc,0,none⟩:Option Addr)=s3 at *;have HG8:=Qaa (Old.trans HG7.out q8);have R8:=Qaa (R7.out.old q8);have BX8:=Qaa (BX7.out.old q8);have T48:=Qaa (T47.out.old q8);have HRG8:=Qaa (HRG7.out.old q8);have HRQ8:=Qaa (HRQ7.out.old q8);have RA8:=Qaa (RA7.out.old q8);have RB8:=Qaa (RB7.out.old q8);clear q8 KS R7 BX7 T7 T47 HRG7 HRQ7 RA7 RB7 U7 E7 F7 HG7
     have HAS7:Hid (∀W',Old wc W'->(W'.cell? ⟨kt,1,none⟩=some (.slice gb ps.length ps.length)/\W'.cell? ⟨kr,0,none⟩=some (.int .i64 (Nn:Int))/\W'.cell? ⟨kr,1,none⟩=some (.int .i64 (Tn:Int))/\W'.cell? ⟨kr,2,none⟩=some (.int .i64 E)/\W'.cell? ⟨kr,3,none⟩=some (.slice a0 ps.length c0)/\W'.cell? ⟨kr,4,none⟩=some (.slice (some ⟨g,0,none⟩) ps.length ps.length)/\W'.cell? ⟨kr,5,none⟩=some (.bool false)/\W'.cell? ⟨kr,6,none⟩=some (.slice a l c))):=fun W' q=>by
      have b:=BX8.out.old q;exact ⟨(T48.out.old q).c (i:=1) rfl,b.c (i:=0) rfl,b.c (i:=1) rfl,b.c (i:=2) rfl,b.c (i:=3) rfl,b.c (i:=4) rfl,b.c (i:=5) rfl,b.c (i:=6) rfl⟩
     have KP:=Qaa (fun W' (q:Old wc W')=>Qf4 Nn ps Rf (smS ps ze) yss (smS ps zu) _ _ _ W' ((HTW.out.old HG8.out).old q) HS4.out HPS.out HPB.out HRT.out OE.out OY.out OU.out (V16.out.old q) (RB8.out.old q) (V15.out.old q));have KL:=Qaa (fun W' (q:Old wc W')=>Qpc Nn Tn E ps ss (Qap (ps.map Int.toNat)) Rf a0 ps.length c0 g a l c _ W' HPS.out HN16.out (by have:=hTT.out;omega) HSL.out HPB.out (HRG8.out.old q) ((HU2.out.old HG8.out).old q) (fun i hi=>by have:=HSV.out i hi;have:=hTT.out;omega) (by have:=HQC.out;omega) (HRQ8.out.old q));have KJ:=Qaa (fun W' (u u':Value) (hu:RdX Nn ps Rf (ppL Nn ps (smS ps ze) yss (smS ps zu)) W' u) (hu':RdX Nn ps Rf (lfL (dmF (Qap (ps.map Int.toNat)) Tn) ps ss) W' u')=>Qqq Nn ps Rf _ _ u u' W' HN16.out HPS.out HPB.out OP.out OL.out hu hu');rw [HZ0.out] at KJ;obtain ⟨v0,v1,v2,v3,v4,v5,v6,v7⟩:=HAS7.out _ (Old.refl wc);go_wp2_with fail
     go_region_held3 (fun W'=>W'.cell? ⟨kt,1,none⟩=some (.slice gb ps.length ps.length)/\W'.cell? ⟨kr,0,none⟩=some (.int .i64 (Nn:Int))/\W'.cell? ⟨kr,1,none⟩=some (.int .i64 (Tn:Int))/\W'.cell? ⟨kr,2,none⟩=some (.int .i64 E)/\W'.cell? ⟨kr,3,none⟩=some (.slice a0 ps.length c0)/\W'.cell? ⟨kr,4,none⟩=some (.slice (some ⟨g,0,none⟩) ps.length ps.length)/\W'.cell? ⟨kr,5,none⟩=some (.bool false)/\W'.cell? ⟨kr,6,none⟩=some (.slice a l c)) (first | with_reducible exact HAS7.out _ GF.out | with_reducible exact HAS7.out _ GE.out | with_reducible exact HAS7.out _ GD.out | with_reducible exact HAS7.out _ (Below.drew (Old.refl wc)) | with_reducible exact HAS7.out _ (Old.refl wc) | fail) (first
      | (go_at_call 39;refine (KJ.out _ _ _ (VP.out.old XE.out) VL.out).mono ?_;rintro e wf ⟨vf,rfl,gf,of⟩;have GF:=Qaa (Old.trans GE.out gf);have VF:=Qaa of;clear gf of)
      | (go_at_call 41;refine (KL.out _ GD.out).mono ?_;rintro e we ⟨be,_,rfl,ge,oe⟩;have GE:=Qaa (Old.trans GD.out ge);have XE:=Qaa ge;have VL:Hid (RdX Nn ps Rf (lfL (dmF (Qap (ps.map Int.toNat)) Tn) ps ss) we (.slice (some ⟨be,0,none⟩) ps.length ps.length)):=Ows.rd HPS.out.1 oe;clear ge oe)
      | (go_at_call 40;refine (KP.out _ (Below.drew (Old.refl wc))).mono ?_;rintro e wd ⟨vd,rfl,gd,od⟩;have VP:=Qaa (od.rd HPS.out.1);obtain ⟨ad,cd,rfl⟩:=VP.out.slice;have GD:=Qaa (Old.trans (Below.drew (Old.refl wc)) gd);clear gd od)
      | fail)
     clear v0 v1 v2 v3 v4 v5 v6 v7 HAS7 KP KL KJ;obtain ⟨s4,t4,e9⟩:=RdX.slice (Ows.rd HPS.out.1 VF.out);subst e9;have OW0:=Qaa (Ows.low VF.out GE.out.size (Nat.le_refl _) (Nat.le_refl _));have HM1:=Qaa GF.out.size;have HM2:=Qaa (Nat.le_refl wf.heap.size);have q9:=GF.out;clear VF VP VL GD GE GF XE;have HG9:=Qaa (Old.trans HG8.out q9);have R9:=Qaa (R8.out.old q9);have T49:=Qaa (T48.out.old q9);have K9:=Qaa (Qf4 Nn ps Rf (smS ps zf) xss (smS ps zu) _ _ _ wf (HTW.out.old HG9.out) HS4.out HPS.out HPB.out HRT.out OF.out OX.out OU.out (V17.out.old q9) (RA8.out.old q9) (V15.out.old q9));rw [HZ1.out] at K9;have HWS:Hid (kp+1+1<wc.heap.size/\w.heap.size<=wc.heap.size):=⟨R8.out.lt,HG8.out.size⟩;clear q9 BX8 T48 HRG8 HRQ8 RA8 RB8 V15 V16 V17 R8 HG8 HU HE HF OX OY OU OE OF OP OL HZ0 HZ1 HRT HPB HS4 HTW HU2 HL2 HSL HSV HQC hTT;have z0:=T49.out.c (i:=0) rfl;go_wp2_with fail;refine K9.out.mono ?_
     rintro e w10 ⟨v10,rfl,g10,hi10,o10⟩;obtain ⟨s5,t5,e10⟩:=RdX.slice (Ows.rd HPS.out.1 o10);subst e10;have o10':=Ows.low o10 (lo':=wf.heap.size) HM2.out (Nat.le_max_left hi10 w10.heap.size) (Nat.max_le.2 ⟨o10.1,Nat.le_refl _⟩);have LL:=Qw9 (Ows.old (Qe2 _ _ _ (Qcv _ _ _ _ _)) OW0.out g10) o10' HM1.out (Nat.le_trans HM2.out (Nat.le_trans g10.size (Nat.le_max_right _ _)));rw [HZLe.out] at LL;obtain ⟨W11,hW11⟩:∃B:World,w10.alloc (.cells #[.slice s4 ps.length t4,.slice s5 ps.length t5] 72)=B:=⟨_,rfl⟩
     have O11:Old w10 W11:=by rw [<- hW11];exact (Old.refl w10).alloc _
     rw [hW11] at LL;have cc:=Qmq Nn false ps Rf ZL wc.heap.size (.slice (some ⟨w10.heap.size,0,none⟩) 2 2) W11 (by have:=HPS.out;omega) (by rw [HZLn.out];omega) HZ.out (by rw [HZLn.out];exact LL) (Nat.le_trans HM1.out (Nat.le_trans HM2.out (Nat.le_trans g10.size O11.size)));have HCC:=Qaa cc;have HG11:=Qaa (Old.trans HG9.out (Old.trans g10 O11));have R11:=Qaa (R9.out.old (Old.trans g10 O11));obtain ⟨kq,hkq⟩:∃k,w10.heap.size=k:=⟨_,rfl⟩
     rw [hkq] at HCC;clear g10 o10 o10' LL O11 cc K9 z0 OW0 HM1 HM2 HG9 R9 T49 HZLe;go_wp2_with fail;refine HCC.out.mono ?_
     rintro e w12 ⟨r0,rfl,g12,x12⟩;obtain ⟨a5,c5,rfl⟩:=Qkr _ _ _ _ x12;have HG12:=Qaa (Old.trans HG11.out g12);have R12:=Qaa (R11.out.old g12);have HX12:=Qaa x12;have y0:=R12.out.c (i:=0) rfl;have f0:w12.frozen? ⟨kp+1+1,0,none⟩=false:=frozen_of_row _ _ _ _ _ R12.out
     clear g12 x12 HCC R11 HG11 hW11 hkq;go_wp2_with fail;have q0:=(Qew R12.out (.slice a5 ZL.length c5)).c (i:=0) rfl;refine bodyPost_ret (v:=.tuple #[.agg #[.slice a5 ZL.length c5],.int .i64 k3,.bool true]) (by simp [results,Tryz.results10,go_sem,q0]) rfl (HEND.out _ _ (HG12.out.own (p:=⟨kp+1+1,0,none⟩) (by have:=HKP.out;show w.heap.size<=kp+1+1;omega) _) ?_);obtain ⟨a6,c6,e6,o6⟩:=HX12.out;simp at e6;obtain ⟨rfl,rfl⟩:=e6;refine ⟨a5,c5,rfl,?_⟩;have h2:=o6.putT (k:=kp+1+1) (j:=0) (x:=.slice a5 ZL.length c5) (.inl HWS.out.1);exact h2.low (lo':=w.heap.size) HWS.out.2 (by simp) (Nat.le_refl _)
theorem Q3z {N T E:Int} {xs:List Int} (h:prB N T E xs=true):inQ E 1 16=true:=by
 unfold prB at h;simp only [Bool.and_eq_true] at h;exact h.2.2.2.1
theorem Qnr (N T E at_ : Int) (ps:List Int) (xss yss:List (List Int)) (ss ws:List Int) (v u2 u3:Value) (aA aB:Option Addr) (cA cB:Nat) (w:World) (hv:Row w v ps) (hf:Fit v) (hx:Qci w (.slice aA xss.length cA) xss) (hy:Qci w (.slice aB yss.length cB) yss) (hlx:xss.length<=1048576) (hrx:∀r∈xss,r.length<=1048576) (hly:yss.length<=1048576) (hry:∀r∈yss,r.length<=1048576) (hu2:Row w u2 ss) (hl2:ss.length<=9223372036854775807) (hu3:Row w u3 ws) (hl3:ws.length<=9223372036854775807) (hlp:ps.length<=9223372036854775807) (hxp:∀x∈ps,-9223372036854775808<=x/\x<=9223372036854775807) (Z:List (List (List Int))) (KK:Int) (ok:Bool) (hyy:(prB N T E ps&&(rwB N ps xss&&rwB N ps yss)&&enB ws at_ N E&&Qbe T N ss)=true->Z=[Qb4 Qd3 ps (ppL N.toNat ps (smS ps (aL (cE ws at_ N E))) yss (smS ps (aL (cT ws at_ N)))) (lfL (dmF (Qap (ps.map Int.toNat)) T.toNat) ps ss),ppL N.toNat ps (smS ps (aL (cF ws at_ N E))) xss (smS ps (aL (cT ws at_ N)))]/\KK=aK (cF ws at_ N E)/\ok=true) (hnn:(prB N T E ps&&(rwB N ps xss&&rwB N ps yss)&&enB ws at_ N E&&Qbe T N ss)=false->Z=[]/\KK=0/\ok=false) :
 Calls Tryz.prog 6 #[.agg #[.int .i64 N,.int .i64 T,.int .i64 E,v],.agg #[.slice aA xss.length cA,.slice aB yss.length cB],u2,u3,.int .i64 at_] w (CiE Z KK ok w):=by
 have HY:=Qaa hyy;have HNN:=Qaa hnn;clear hyy hnn;obtain ⟨Rf,hRb⟩:=Qp1 N ps
 have HRB:Hid (∀Nn:Nat,N=Nn->spB N ps=true->RtS Nn ps Rf):=fun Nn e hs=>by
  subst e;exact Qx3 hRb hs
 have HU2:=Qaa hu2;have HU3:=Qaa hu3;have HV:Hid (Row w v ps/\Fit v):=⟨hv,hf⟩;have HX:=Qaa hx;have HYR:=Qaa hy;have K1:=Qaa (fun W (g:Old w W)=>Qjm N T E ps ss v u2 W (hv.old g) hf (hu2.old g) hlp hl2 hxp);have K3:=Qaa (fun W (g:Old w W)=>Qrs ws u3 at_ W (hu3.old g) hl3);obtain ⟨a0,c0,rfl⟩:=hv.slice;obtain ⟨ma,mc,rfl⟩:=hu2.slice;obtain ⟨wa,wc,rfl⟩:=hu3.slice;have K2:=Qaa (fun (hs:spB N ps=true) W (g:Old w W)=>Qim N T E ps xss yss a0 c0 aA aB cA cB W (hv.old g) (hx.old g) (hy.old g) hlx hrx hly hry hs);clear hv hf hu2 hu3 hRb hrx hry hx hy hlx hly hlp hxp hl2 hl3;obtain ⟨B1,hB1⟩:∃B:World,((w.alloc (.cells #[.int .i64 N,.int .i64 T,.int .i64 E,.slice a0 ps.length c0] 35)).alloc (.cells #[.slice aA xss.length cA,.slice aB yss.length cB] 37)).alloc (.cells #[.slice none 0 0] 32)=B:=⟨_,rfl⟩
 have O1:Hid (Old w B1):=by rw [<- hB1];exact (((Old.refl w).alloc _).alloc _).alloc _
 have P1:Hid (Bk B1 w.heap.size #[.int .i64 N,.int .i64 T,.int .i64 E,.slice a0 ps.length c0] 35):=by rw [<- hB1];exact ((Bk.new' w _ _ rfl).alloc _).alloc _
 have C1:Hid (Bk B1 (w.heap.size+1) #[.slice aA xss.length cA,.slice aB yss.length cB] 37):=by rw [<- hB1];exact (Bk.new' _ _ _ (by simp)).alloc _
 have R1:Hid (Bk B1 (w.heap.size+1+1) #[.slice none 0 0] 32):=by rw [<- hB1];exact Bk.new' _ _ _ (by simp)
 obtain ⟨kp,hkp⟩:∃kp,w.heap.size=kp:=⟨_,rfl⟩
 have HKP:=Qaa hkp;rw [hkp] at P1 C1 R1;obtain ⟨bG,hbG⟩:∃b,(prB N T E ps&&Qbe T N ss)=b:=⟨_,rfl⟩
 rw [hbG] at K1;have x0:=P1.out.c (i:=0) rfl;have x1:=P1.out.c (i:=1) rfl;have x2:=P1.out.c (i:=2) rfl;have x3:=P1.out.c (i:=3) rfl;go_enter Tryz.func6,Tryz.ntmps6;go_wp2_with fail;refine (K1.out _ O1.out).mono ?_
 rintro e w2 ⟨rfl,g2⟩;have G2:=Qaa (Old.trans O1.out g2);have P2:=Qaa (P1.out.old g2);have C2:=Qaa (C1.out.old g2);have R2:=Qaa (R1.out.old g2);clear g2 x0 x1 x2 x3 hB1 hkp P1 C1 R1 O1 K1
 cases bG
 ·have HB:=Qaa (HNN.out (by
   cases h1:prB N T E ps <;> rw [h1] at hbG <;> simp_all))
  clear hbG;have z0:=R2.out.c (i:=0) rfl;have f0:w2.frozen? ⟨kp+1+1,0,none⟩=false:=frozen_of_row _ _ _ _ _ R2.out
  go_wp2_with fail;have q0:=(Qew R2.out (.slice none 0 0)).c (i:=0) rfl;refine bodyPost_ret (v:=.tuple #[.agg #[.slice none 0 0],.int .i64 0,.bool false]) (by simp [results,Tryz.results6,go_sem,q0]) rfl ?_
  rw [HB.out.1,HB.out.2.1,HB.out.2.2];exact ⟨_,rfl,G2.out.own (p:=⟨kp+1+1,0,none⟩) (by have:=HKP.out;show w.heap.size<=kp+1+1;omega) _,XC.nil2 (Nat.le_refl _)⟩
 rw [Bool.and_eq_true] at hbG;obtain ⟨hpr,hpl⟩:=hbG;have hsp:=Qtm hpr;have K2':=Qaa (K2.out hsp);clear K2;obtain ⟨bP,hbP⟩:∃b,(rwB N ps xss&&rwB N ps yss)=b:=⟨_,rfl⟩
 rw [hbP] at K2';have x0:=P2.out.c (i:=0) rfl;have x1:=P2.out.c (i:=1) rfl;have x2:=P2.out.c (i:=2) rfl;have x3:=P2.out.c (i:=3) rfl;have y0:=C2.out.c (i:=0) rfl;have y1:=C2.out.c (i:=1) rfl;go_wp2_with fail;refine (K2'.out _ G2.out).mono ?_
 rintro e w3 ⟨rfl,g3⟩;have G3:=Qaa (Old.trans G2.out g3);have P3:=Qaa (P2.out.old g3);have C3:=Qaa (C2.out.old g3);have R3:=Qaa (R2.out.old g3);clear g3 x0 x1 x2 x3 y0 y1 P2 C2 R2 G2 K2'
 cases bP
 ·have HB:=Qaa (HNN.out (by rw [hpr,hbP];rfl));clear hbP hpr hpl hsp;have z0:=R3.out.c (i:=0) rfl;have f0:w3.frozen? ⟨kp+1+1,0,none⟩=false:=frozen_of_row _ _ _ _ _ R3.out
  go_wp2_with fail;have q0:=(Qew R3.out (.slice none 0 0)).c (i:=0) rfl;refine bodyPost_ret (v:=.tuple #[.agg #[.slice none 0 0],.int .i64 0,.bool false]) (by simp [results,Tryz.results6,go_sem,q0]) rfl ?_
  rw [HB.out.1,HB.out.2.1,HB.out.2.2];exact ⟨_,rfl,G3.out.own (p:=⟨kp+1+1,0,none⟩) (by have:=HKP.out;show w.heap.size<=kp+1+1;omega) _,XC.nil2 (Nat.le_refl _)⟩
 obtain ⟨bA,hbA⟩:∃b,atB ws at_ = b:=⟨_,rfl⟩
 rw [hbA] at K3;go_wp2_with fail;refine (K3.out _ G3.out).mono ?_
 rintro e w3' ⟨rfl,hw3⟩;obtain rfl:w3=w3':=hw3.symm;clear hw3 K3
 cases bA
 ·have HB:=Qaa (HNN.out (by rw [Qw5 hbA,Bool.and_false,Bool.false_and]));clear hbP hpr hpl hsp hbA;have z0:=R3.out.c (i:=0) rfl;have f0:w3.frozen? ⟨kp+1+1,0,none⟩=false:=frozen_of_row _ _ _ _ _ R3.out
  go_wp2_with fail;have q0:=(Qew R3.out (.slice none 0 0)).c (i:=0) rfl;refine bodyPost_ret (v:=.tuple #[.agg #[.slice none 0 0],.int .i64 0,.bool false]) (by simp [results,Tryz.results6,go_sem,q0]) rfl ?_
  rw [HB.out.1,HB.out.2.1,HB.out.2.2];exact ⟨_,rfl,G3.out.own (p:=⟨kp+1+1,0,none⟩) (by have:=HKP.out;show w.heap.size<=kp+1+1;omega) _,XC.nil2 (Nat.le_refl _)⟩
 obtain ⟨hz4,hbb,_⟩:=Qc3 hsp;obtain ⟨Nn,rfl⟩:∃Nn:Nat,N=(Nn:Int):=⟨N.toNat,by omega⟩
 have hNB:2<=Nn/\Nn<=16:=by omega
 have hTT:=Q0b hpr;have hEE:=Q3z hpr;obtain ⟨Tn,rfl⟩:∃Tn:Nat,T=(Tn:Int):=⟨T.toNat,by omega⟩
 have hE2:1<=E/\E<=16:=by simpa [inQ] using hEE
 obtain ⟨En,rfl⟩:∃En:Nat,E=(En:Int):=⟨E.toNat,by omega⟩
 obtain ⟨hq1,hq2,hq3⟩:=Qut hbA;obtain ⟨An,rfl⟩:∃An:Nat,at_ = (An:Int):=⟨at_.toNat,by omega⟩
 obtain ⟨lk0,lk1⟩:=Qru (N:=(Nn:Int)) (E:=(En:Int)) hbA (by omega) hEE;have en:((Nn:Nat):Int).toNat=Nn:=rfl;have et:((Tn:Nat):Int).toNat=Tn:=rfl;have ee:((En:Nat):Int).toNat=En:=rfl;have ea:((An:Nat):Int).toNat=An:=rfl;rw [en,ee,ea] at lk0 lk1;obtain ⟨A1,hA1⟩:∃z,drP (tD ws) An Nn=z:=⟨_,rfl⟩
 obtain ⟨A2,hA2⟩:∃z,nxt (nD ws En) Nn A1=z:=⟨_,rfl⟩
 obtain ⟨A3,hA3⟩:∃z,nxt (nD ws En) Nn A2=z:=⟨_,rfl⟩
 rw [hA1,hA2,hA3] at lk0 lk1;have LK0:=Qaa lk0;have LK1:=Qaa lk1;have KQ:=Qaa (fun W (g:Old w W)=>Qnl ws wa wc An W (HU3.out.old g) (by omega))
 have KT:Hid (∀W q,Sp W q (.slice wa ws.length wc) ws An true->Calls Tryz.prog 26 #[.pointer (some ⟨q,0,none⟩),.int .i64 (Nn:Int)] W (SA A1 ws W q (.slice wa ws.length wc))):=fun W q h=>by
  rw [<- hA1];exact Qnk ws q Nn An _ W hq1 hq2 (by omega) h
 have KN2:Hid (∀W q,SS W q (.slice wa ws.length wc) ws A1->Calls Tryz.prog 27 #[.pointer (some ⟨q,0,none⟩),.int .i64 (En:Int),.int .i64 (Nn:Int)] W (SA A2 ws W q (.slice wa ws.length wc))):=fun W q h=>by
  rw [<- hA2];exact Qnj A1 ws q Nn En _ W hq1 hq2 (by omega) (by omega) h
 have KN3:Hid (∀W q,SS W q (.slice wa ws.length wc) ws A2->Calls Tryz.prog 27 #[.pointer (some ⟨q,0,none⟩),.int .i64 (En:Int),.int .i64 (Nn:Int)] W (SA A3 ws W q (.slice wa ws.length wc))):=fun W q h=>by
  rw [<- hA3];exact Qnj A2 ws q Nn En _ W hq1 hq2 (by omega) (by omega) h
 have HPR:=Qaa hpr;have HPL:=Qaa hpl;have HBP:=Qaa hbP;have HTT:=Qaa hTT;have HNB:=Qaa hNB;have HBB:=Qaa hbb;have HSP:=Qaa hsp;clear hpr hpl hbP hsp hz4 hbb hNB hTT hEE hE2 hq1 hq2 hq3 lk0 lk1 hbA hA1 hA2 hA3 en et ee ea;go_wp2_with fail;refine (KQ.out _ G3.out).mono ?_
 rintro e w4 ⟨q,hq,rfl,g4,s4⟩;have HQ:=Qaa hq;have O4:=Qaa g4;have S4:=Qaa s4;have P4':=Qaa (P3.out.old g4);clear g4 s4 hq KQ;have x0:=P4'.out.c (i:=0) rfl;go_wp2_with fail;refine (KT.out _ _ S4.out).mono ?_
 rintro e w5 ⟨c5,m1,n1,d1,rfl,s5,o5⟩;have O5:=Qaa (O4.out.chg c5 (Nat.le_of_eq HQ.out.symm));have S5:=Qaa s5;have Q5:=Qaa S4.out.lt;have D5:=Qaa o5;have P5:=Qaa (P3.out.old O5.out);clear c5 s5 o5 x0 P4' S4 KT O4;have x0:=P5.out.c (i:=0) rfl;have x2:=P5.out.c (i:=2) rfl;go_wp2_with fail;refine (KN2.out _ _ S5.out).mono ?_
 rintro e w6 ⟨c6,m2,n2,d2,rfl,s6,o6⟩;have O6:=Qaa (O5.out.chg c6 (Nat.le_of_eq HQ.out.symm));have S6:=Qaa s6
 have Q6:Hid (q<w5.heap.size):=by
  cases A1 with
  | none=>
    obtain ⟨k,h⟩:=S5.out;exact h.lt
  | some p=>exact Sp.lt (show Sp w5 q _ ws p.2 true from S5.out)
 have D56:Hid (∀l k,A1=some (l,k)->n1=l.length/\Own w6 w4.heap.size (.slice m1 n1 d1) l):=fun l k e=>by
  obtain ⟨h1,h2⟩:=D5.out l k e;exact ⟨h1,h2.chg c6 (fun p hp=>Or.inr (by have:=(h2.lt p hp).1;have:=Q5.out;omega))⟩
 have D6:=Qaa o6;have P6:=Qaa (P3.out.old O6.out);clear c6 s6 o6 x0 x2 P5 S5 KN2 O5 D5;have x0:=P6.out.c (i:=0) rfl;have x2:=P6.out.c (i:=2) rfl;go_wp2_with fail;refine (KN3.out _ _ S6.out).mono ?_
 rintro e w7 ⟨c7,m3,n3,d3,rfl,s7,o7⟩;have O7:=Qaa (O6.out.chg c7 (Nat.le_of_eq HQ.out.symm));have S7:=Qaa s7
 have D57:Hid (∀l k,A1=some (l,k)->n1=l.length/\Own w7 w4.heap.size (.slice m1 n1 d1) l):=fun l k e=>by
  obtain ⟨h1,h2⟩:=D56.out l k e;exact ⟨h1,h2.chg c7 (fun p hp=>Or.inr (by have:=(h2.lt p hp).1;have:=Q5.out;omega))⟩
 have D67:Hid (∀l k,A2=some (l,k)->n2=l.length/\Own w7 w5.heap.size (.slice m2 n2 d2) l):=fun l k e=>by
  obtain ⟨h1,h2⟩:=D6.out l k e;exact ⟨h1,h2.chg c7 (fun p hp=>Or.inr (by have:=(h2.lt p hp).1;have:=Q6.out;omega))⟩
 have D7:=Qaa o7;have P7:=Qaa (P3.out.old O7.out);have C7:=Qaa (C3.out.old O7.out);have R7:=Qaa (R3.out.old O7.out);have G7:=Qaa (Old.trans G3.out O7.out)
 have HQR:Hid (kp+1+1<q):=by
  have h1:=R3.out.lt;have h2:=HQ.out
  show kp+1+1<q
  omega
 clear c7 s7 o7 x0 x2 P6 S6 KN3 O6 D56 D6 P3 C3 R3 G3 O7 HQ
 cases A3 with
 | none=>
   have HB:=Qaa (HNN.out (by rw [LK0.out rfl,Bool.and_false,Bool.false_and]));obtain ⟨k7,s7⟩:=S7.out;have c2:=s7.c2;clear s7 S7;have z0:=R7.out.c (i:=0) rfl;have f0:w7.frozen? ⟨kp+1+1,0,none⟩=false:=frozen_of_row _ _ _ _ _ R7.out
   go_wp2_with fail;have q0:=(Qew R7.out (.slice none 0 0)).c (i:=0) rfl;refine bodyPost_ret (v:=.tuple #[.agg #[.slice none 0 0],.int .i64 0,.bool false]) (by simp [results,Tryz.results6,go_sem,q0]) rfl ?_
   rw [HB.out.1,HB.out.2.1,HB.out.2.2];exact ⟨_,rfl,G7.out.own (p:=⟨kp+1+1,0,none⟩) (by have:=HKP.out;show w.heap.size<=kp+1+1;omega) _,XC.nil2 (Nat.le_refl _)⟩
 | some p3=>
 obtain ⟨l3,k3⟩:=p3;obtain ⟨l1,k1,l2,k2,e1,e2,een,eu,eE,eF,eK⟩:=LK1.out l3 k3 rfl;obtain ⟨rfl,ow1⟩:=D57.out l1 k1 e1;obtain ⟨rfl,ow2⟩:=D67.out l2 k2 e2;obtain ⟨rfl,ow3⟩:=D7.out l3 k3 rfl;have U7:=Qaa (Own.row ow1);have E7:=Qaa (Own.row ow2);have F7:=Qaa (Own.row ow3);obtain ⟨smu,sme,smf⟩:=Q02 een;rw [eu] at smu;rw [eE] at sme;rw [eF] at smf;obtain ⟨eZ,ek,eok⟩:=HY.out (by rw [HPR.out,HBP.out,een,HPL.out];rfl);rw [eu,eE,eF] at eZ;rw [eK] at ek;have S7':Hid (Sp w7 q (.slice wa ws.length wc) ws k3 true):=S7.out;have hNn:=HNB.out;have hps:=(Qcs HBB.out).1;have hpb:=fun k hk=>Qq5 ((Qcs HBB.out).2 k hk)
 have hS4:Sz4 Nn:=by
  obtain ⟨hz4,_,_⟩:=Qc3 HSP.out;unfold Sz4;omega
 have hrt:=HRB.out Nn rfl HSP.out;obtain ⟨b1,b2⟩:=(Bool.and_eq_true _ _).mp HBP.out;obtain ⟨hsl,hsv⟩:=Qen HPL.out;have hsl':ss.length=Nn:=by omega
 have OX:=Qqp b1;have OY:=Qqp b2;have lx:=(Qem b1).1;have ly:=(Qem b2).1;have en:((Nn:Nat):Int).toNat=Nn:=rfl;have et:((Tn:Nat):Int).toNat=Tn:=rfl;rw [en] at smu sme smf;rw [en,et] at eZ;have OU:=Qcq hpb smu.1;have OE:=Qcq hpb sme.1;have OF:=Qcq hpb smf.1;have OM0:OkX Nn ps (Qi2 Nn ps yss (smS ps l1)):=Qo2 hrt;have OM1:OkX Nn ps (Qi2 Nn ps xss (smS ps l1)):=Qo2 hrt;have OP:OkX Nn ps (ppL Nn ps (smS ps l2) yss (smS ps l1)):=Qil hpb OE;have OL:OkX Nn ps (lfL (dmF (Qap (ps.map Int.toNat)) Tn) ps ss):=Qx2 _ hsl' hpb;have hc0:Qb4 Qd3 ps (Qi2 Nn ps yss (smS ps l1)) (smS ps l2)=ppL Nn ps (smS ps l2) yss (smS ps l1):=Qnm OM0 OE;have hc1:Qb4 Qd3 ps (Qi2 Nn ps xss (smS ps l1)) (smS ps l3)=ppL Nn ps (smS ps l3) xss (smS ps l1):=Qnm OM1 OF;obtain ⟨P,hPz,hbas⟩:=Qqa HBB.out;have hPn:ps.map Int.toNat=P:=by rw [hPz];exact Qik P
 have KSp:=Qaa (fun W=>Qbu (Nn:Int) Tn En a0 ps.length c0 W)
 have KSm:Hid (∀W (zs:List Int) u,Old w W->Row W u zs->SmN Nn zs->Calls Tryz.prog 29 #[.agg #[.int .i64 (Nn:Int),.int .i64 (Tn:Int),.int .i64 (En:Int),.slice a0 ps.length c0],u] W fun e w'=>∃v',e=.returned v'/\Old W w'/\Qci w' v' (smS ps zs)):=fun W zs u g hr hs=>(Qgz (Nn:Int) Tn En ps zs (.slice a0 ps.length c0) u W (HV.out.1.old g) hr hps (by have:=hs.1;omega) hpb hs.2).mono fun e w' h=>by
  obtain ⟨v',h1,h2,h3⟩:=h;exact ⟨v',h1,h2,h3.rowS⟩
 have KM0:=Qaa (fun W u (g:Old w W) (h:Qci W u (smS ps l1))=>Qt7 Nn ps Rf yss (smS ps l1) (.slice a0 ps.length c0) (.slice aB yss.length cB) u W (HV.out.1.old g) (HYR.out.old g) h hS4 hps hrt ly (Qfb _ _) OY OU);have KM1:=Qaa (fun W u (g:Old w W) (h:Qci W u (smS ps l1))=>Qt7 Nn ps Rf xss (smS ps l1) (.slice a0 ps.length c0) (.slice aA xss.length cA) u W (HV.out.1.old g) (HX.out.old g) h hS4 hps hrt lx (Qfb _ _) OX OU);have KA0:=Qaa (fun W u u' (g:Old w W) (h:Qci W u (Qi2 Nn ps yss (smS ps l1))) (h':Qci W u' (smS ps l2))=>Qo3 Nn ps _ _ (.slice a0 ps.length c0) u u' W (HV.out.1.old g) h h' hNn.2 hps hpb (Qlb _ _ _ _) (Qfb _ _) OM0 OE);rw [hc0] at KA0;have KA1:=Qaa (fun W u u' (g:Old w W) (h:Qci W u (Qi2 Nn ps xss (smS ps l1))) (h':Qci W u' (smS ps l3))=>Qo3 Nn ps _ _ (.slice a0 ps.length c0) u u' W (HV.out.1.old g) h h' hNn.2 hps hpb (Qlb _ _ _ _) (Qfb _ _) OM1 OF);rw [hc1] at KA1;have KA2:=Qaa (fun W u u' (g:Old w W) (h:Qci W u (ppL Nn ps (smS ps l2) yss (smS ps l1))) (h':Qci W u' (lfL (dmF (Qap (ps.map Int.toNat)) Tn) ps ss))=>Qo3 Nn ps _ _ (.slice a0 ps.length c0) u u' W (HV.out.1.old g) h h' hNn.2 hps hpb (by unfold ppL;rw [Qb5]) (Qb5 _ _ _ _) OP OL)
 have KL:Hid (∀W,Old w W->Calls Tryz.prog 32 #[.agg #[.int .i64 (Nn:Int),.int .i64 (Tn:Int),.int .i64 (En:Int),.slice a0 ps.length c0],.slice ma ss.length mc] W fun e w'=>∃v',e=.returned v'/\Old W w'/\Qci w' v' (lfL (dmF (Qap (ps.map Int.toNat)) Tn) ps ss)):=fun W g=>by
  have h3:=Qno (Nn:Int) (En:Int) Tn P ss (.slice a0 ps.length c0) (.slice ma ss.length mc) W (by rw [<- hPz];exact HV.out.1.old g) (HU2.out.old g) hbas (by have:=HTT.out;omega) (by omega) hsv;rw [<- hPz] at h3;rw [hPn];refine h3.mono fun e w' h=>?_
  obtain ⟨v',e1,e2,e3⟩:=h;exact ⟨v',e1,e2,e3.rowS⟩
 obtain ⟨Z0,hZ0⟩:∃z,Qb4 Qd3 ps (ppL Nn ps (smS ps l2) yss (smS ps l1)) (lfL (dmF (Qap (ps.map Int.toNat)) Tn) ps ss)=z:=⟨_,rfl⟩
 obtain ⟨Z1,hZ1⟩:∃z,ppL Nn ps (smS ps l3) xss (smS ps l1)=z:=⟨_,rfl⟩
 rw [hZ0,hZ1] at eZ;rw [hZ0] at KA2;rw [hZ1] at KA1
 have HEND:Hid (∀w' r0,Old w w'->XC [Z0,Z1] w' w.heap.size w'.heap.size r0->CiE Z KK ok w (.returned (.tuple #[.agg r0,.int .i64 (k3:Int),.bool true])) w'):=fun w' r0 h1 h2=>by
  rw [eZ,ek,eok];exact ⟨r0,rfl,h1,h2⟩
 have SU:=Qaa smu;have SE:=Qaa sme;have SF:=Qaa smf;clear e1 e2 een eu eE eF eK ow1 ow2 ow3 smu sme smf eZ ek eok hNn hps hpb hS4 hrt b1 b2 hsl hsv hsl' OX OY lx ly en et OU OE OF OM0 OM1 OP OL hc0 hc1 hPz hbas hPn hZ0 hZ1 HY HNN LK0 LK1 D57 D67 D7 S7 HRB HPR HPL HBP HTT HBB HSP HX HYR HNB HV HU3;generalize lfL (dmF (Qap (ps.map Int.toNat)) Tn) ps ss=LL at *;generalize ppL Nn ps (smS ps l2) yss (smS ps l1)=PP at *;generalize Qi2 Nn ps yss (smS ps l1)=M0 at *;generalize Qi2 Nn ps xss (smS ps l1)=M1 at *;have c2:=S7'.out.c2;have x0:=P7.out.c (i:=0) rfl;have x1:=P7.out.c (i:=1) rfl;have x2:=P7.out.c (i:=2) rfl;have x3:=P7.out.c (i:=3) rfl;go_wp2_with fail;refine (KSp.out _).mono ?_
 rintro e w8 ⟨rfl,g8⟩;obtain ⟨B8,hB8⟩:∃B:World,w8.alloc (.cells #[.int .i64 (Nn:Int),.slice a0 ps.length c0] 60)=B:=⟨_,rfl⟩
 have O8:Hid (Old w7 B8):=by rw [<- hB8];exact g8.alloc _
 have S8:Hid (Bk B8 w8.heap.size #[.int .i64 (Nn:Int),.slice a0 ps.length c0] 60):=by rw [<- hB8];exact Bk.new' w8 _ _ rfl
 have G8:=Qaa (Old.trans G7.out O8.out);have P8:=Qaa (P7.out.old O8.out);have C8:=Qaa (C7.out.old O8.out);obtain ⟨ks,hks⟩:∃k,w8.heap.size=k:=⟨_,rfl⟩
 rw [hks] at S8;clear g8 x0 x1 x2 x3 P7 C7 G7 KSp c2;have x0:=P8.out.c (i:=0) rfl;have x1:=P8.out.c (i:=1) rfl;have x2:=P8.out.c (i:=2) rfl;have x3:=P8.out.c (i:=3) rfl;go_wp2_with fail;refine (KSm.out _ l1 (.slice m1 l1.length d1) G8.out (U7.out.old O8.out) SU.out).mono ?_
 rintro e w9 ⟨v9,rfl,g9,r9⟩;obtain ⟨ra,rc,e9⟩:=r9.slice;subst e9;obtain ⟨rl,hrl⟩:∃l,(smS ps l1).length=l:=⟨_,rfl⟩
 have R9:=Qaa r9;rw [hrl] at R9;rw [hrl];have O9:=Qaa (Old.trans O8.out g9);have G9:=Qaa (Old.trans G8.out g9);have P9:=Qaa (P8.out.old g9);have C9:=Qaa (C8.out.old g9);have S9:=Qaa (S8.out.old g9);have HLOW:=Qaa (Nat.lt_of_lt_of_le S7'.out.lt O9.out.size);clear g9 r9 x0 x1 x2 x3 P8 C8 S8 G8 O8 hB8 hks U7 hrl
 have HAS11:Hid (∀W',Old w9 W'->(W'.cell? ⟨ks,0,none⟩=some (.int .i64 (Nn:Int))/\W'.cell? ⟨ks,1,none⟩=some (.slice a0 ps.length c0)/\W'.cell? ⟨kp+1,1,none⟩=some (.slice aB yss.length cB)/\W'.cell? ⟨kp,0,none⟩=some (.int .i64 (Nn:Int))/\W'.cell? ⟨kp,1,none⟩=some (.int .i64 (Tn:Int))/\W'.cell? ⟨kp,2,none⟩=some (.int .i64 (En:Int))/\W'.cell? ⟨kp,3,none⟩=some (.slice a0 ps.length c0))):=fun W' q=>by
  have b:=S9.out.old q;have d:=P9.out.old q;exact ⟨b.c (i:=0) rfl,b.c (i:=1) rfl,(C9.out.old q).c (i:=1) rfl,d.c (i:=0) rfl,d.c (i:=1) rfl,d.c (i:=2) rfl,d.c (i:=3) rfl⟩
 obtain ⟨v0,v1,v2,v3,v4,v5,v6⟩:=HAS11.out _ (Old.refl w9);go_wp2_with fail
 go_region_held3 (fun W'=>W'.cell? ⟨ks,0,none⟩=some (.int .i64 (Nn:Int))/\W'.cell? ⟨ks,1,none⟩=some (.slice a0 ps.length c0)/\W'.cell? ⟨kp+1,1,none⟩=some (.slice aB yss.length cB)/\W'.cell? ⟨kp,0,none⟩=some (.int .i64 (Nn:Int))/\W'.cell? ⟨kp,1,none⟩=some (.int .i64 (Tn:Int))/\W'.cell? ⟨kp,2,none⟩=some (.int .i64 (En:Int))/\W'.cell? ⟨kp,3,none⟩=some (.slice a0 ps.length c0)) (first | with_reducible exact HAS11.out _ GwE.out | with_reducible exact HAS11.out _ GwD.out | with_reducible exact HAS11.out _ GwC.out | with_reducible exact HAS11.out _ GwB.out | with_reducible exact HAS11.out _ GwA.out | with_reducible exact HAS11.out _ (Below.drew (Old.refl w9)) | with_reducible exact HAS11.out _ (Old.refl w9) | fail) (first
  | (go_at_call 30;refine (KA2.out _ _ _ (Old.trans G9.out GwD.out) (HwC.out.old XwD.out) HwD.out).mono ?_;rintro e wE ⟨uE,rfl,gwE,owE⟩;have GwE:=Qaa (Old.trans GwD.out gwE);have HwE:=Qaa owE;clear gwE owE)
  | (go_at_call 32;refine (KL.out _ (Old.trans G9.out GwC.out)).mono ?_;rintro e wD ⟨uD,rfl,gwD,owD⟩;have GwD:=Qaa (Old.trans GwC.out gwD);have XwD:=Qaa gwD;have HwD:=Qaa owD;clear gwD owD)
  | (go_at_call 30;refine (KA0.out _ _ _ (Old.trans G9.out GwB.out) (HwA.out.old XwB.out) HwB.out).mono ?_;rintro e wC ⟨uC,rfl,gwC,owC⟩;have GwC:=Qaa (Old.trans GwB.out gwC);have HwC:=Qaa owC.rowS;clear gwC owC)
  | (go_at_call 29;refine (KSm.out _ l2 _ (Old.trans G9.out GwA.out) ((E7.out.old O9.out).old GwA.out) SE.out).mono ?_;rintro e wB ⟨uB,rfl,gwB,owB⟩;have GwB:=Qaa (Old.trans GwA.out gwB);have XwB:=Qaa gwB;have HwB:=Qaa owB;clear gwB owB)
  | (go_at_call 31;refine (KM0.out _ _ (Old.trans G9.out (Below.drew (Old.refl w9))) (R9.out.old (Below.drew (Old.refl w9)))).mono ?_;rintro e wA ⟨uA,rfl,gwA,owA⟩;have GwA:=Qaa (Old.trans (Below.drew (Old.refl w9)) gwA);have HwA:=Qaa owA.rowS;clear gwA owA)
  | fail)
 clear v0 v1 v2 v3 v4 v5 v6 HAS11;obtain ⟨za,zc,e10⟩:=HwE.out.rowS.slice;subst e10;have OW0:=Qaa (Ows.low HwE.out.ows GwD.out.size (Nat.le_refl _) (Nat.le_refl _));have HM1:=Qaa GwE.out.size;have q10:=GwE.out;clear HwA HwB HwC HwD HwE XwB XwD GwA GwB GwC GwD GwE;have O10:=Qaa (Old.trans O9.out q10);have G10:=Qaa (Old.trans G9.out q10);have P10:=Qaa (P9.out.old q10);have C10:=Qaa (C9.out.old q10);have S10:=Qaa (S9.out.old q10);have R10:=Qaa (R9.out.old q10);obtain ⟨zl,hzl⟩:∃l,Z0.length=l:=⟨_,rfl⟩
 rw [hzl] at OW0;rw [hzl];clear q10 hzl P9 C9 S9 G9 O9 R9 KM0 KA0 KA2 KL E7
 have HAS12:Hid (∀W',Old wE W'->(W'.cell? ⟨ks,0,none⟩=some (.int .i64 (Nn:Int))/\W'.cell? ⟨ks,1,none⟩=some (.slice a0 ps.length c0)/\W'.cell? ⟨kp+1,0,none⟩=some (.slice aA xss.length cA)/\W'.cell? ⟨kp,0,none⟩=some (.int .i64 (Nn:Int))/\W'.cell? ⟨kp,1,none⟩=some (.int .i64 (Tn:Int))/\W'.cell? ⟨kp,2,none⟩=some (.int .i64 (En:Int))/\W'.cell? ⟨kp,3,none⟩=some (.slice a0 ps.length c0))):=fun W' q=>by
  have b:=S10.out.old q;have d:=P10.out.old q;exact ⟨b.c (i:=0) rfl,b.c (i:=1) rfl,(C10.out.old q).c (i:=0) rfl,d.c (i:=0) rfl,d.c (i:=1) rfl,d.c (i:=2) rfl,d.c (i:=3) rfl⟩
 obtain ⟨v0,v1,v2,v3,v4,v5,v6⟩:=HAS12.out _ (Old.refl wE);go_wp2_with fail
 go_region_held3 (fun W'=>W'.cell? ⟨ks,0,none⟩=some (.int .i64 (Nn:Int))/\W'.cell? ⟨ks,1,none⟩=some (.slice a0 ps.length c0)/\W'.cell? ⟨kp+1,0,none⟩=some (.slice aA xss.length cA)/\W'.cell? ⟨kp,0,none⟩=some (.int .i64 (Nn:Int))/\W'.cell? ⟨kp,1,none⟩=some (.int .i64 (Tn:Int))/\W'.cell? ⟨kp,2,none⟩=some (.int .i64 (En:Int))/\W'.cell? ⟨kp,3,none⟩=some (.slice a0 ps.length c0)) (first | with_reducible exact HAS12.out _ GwR.out | with_reducible exact HAS12.out _ GwQ.out | with_reducible exact HAS12.out _ GwP.out | with_reducible exact HAS12.out _ (Below.drew (Old.refl wE)) | with_reducible exact HAS12.out _ (Old.refl wE) | fail) (first
  | (go_at_call 30;refine (KA1.out _ _ _ (Old.trans G10.out GwQ.out) (HwP.out.old XwQ.out) HwQ.out).mono ?_;rintro e wR ⟨uR,rfl,gwR,owR⟩;have GwR:=Qaa (Old.trans GwQ.out gwR);have HwR:=Qaa owR;clear gwR owR)
  | (go_at_call 29;refine (KSm.out _ l3 _ (Old.trans G10.out GwP.out) ((F7.out.old O10.out).old GwP.out) SF.out).mono ?_;rintro e wQ ⟨uQ,rfl,gwQ,owQ⟩;have GwQ:=Qaa (Old.trans GwP.out gwQ);have XwQ:=Qaa gwQ;have HwQ:=Qaa owQ;clear gwQ owQ)
  | (go_at_call 31;refine (KM1.out _ _ (Old.trans G10.out (Below.drew (Old.refl wE))) (R10.out.old (Below.drew (Old.refl wE)))).mono ?_;rintro e wP ⟨uP,rfl,gwP,owP⟩;have GwP:=Qaa (Old.trans (Below.drew (Old.refl wE)) gwP);have HwP:=Qaa owP.rowS;clear gwP owP)
  | fail)
 clear v0 v1 v2 v3 v4 v5 v6 HAS12;obtain ⟨ya,yc,e12⟩:=HwR.out.rowS.slice;subst e12;have OW1:=Qaa (Ows.low HwR.out.ows GwQ.out.size (Nat.le_refl _) (Nat.le_refl _));have q12:=GwR.out;have HN1:=Qaa GwR.out.size;clear HwP HwQ HwR XwQ GwP GwQ GwR;have OW0':=Qaa (Ows.old (Qcd _) OW0.out q12);have G12:=Qaa (Old.trans G10.out q12);have O12:=Qaa (Old.trans O10.out q12);obtain ⟨yl,hyl⟩:∃l,Z1.length=l:=⟨_,rfl⟩
 rw [hyl] at OW1;rw [hyl];have R12:=Qaa (R7.out.old O12.out);have kq:=(O12.out.cell (p:=⟨q,1,none⟩) S7'.out.lt).trans S7'.out.c1;have hq12:=Nat.lt_of_lt_of_le S7'.out.lt O12.out.size;have KQ:=Qaa kq;have HQ12:=Qaa hq12
 have hlo:Hid (kp+1+1<w9.heap.size/\w.heap.size<=w9.heap.size/\w.heap.size<=kp+1+1):=by
  have h1:=HQR.out;have h2:=HLOW.out;have h3:=HKP.out
  show kp+1+1<w9.heap.size/\w.heap.size<=w9.heap.size/\w.heap.size<=kp+1+1
  omega
 have hL:=Qaa (fun W (q:Old wR W)=>Q2w (Ows.old (Qcd _) OW0'.out q) (Ows.low (Ows.old (Qcd _) OW1.out q) (Nat.le_refl _) (Nat.le_refl _) q.size) HM1.out HN1.out);clear q12 hyl kq hq12 P10 C10 S10 G10 O10 R10 KM1 KA1 KSm F7 OW0 OW1;go_wp2_with fail;refine Q2m wR q (kp+1+1) (k3:Int) za ya zl zc yl yc (fun W u=>Ows (TTT [Z0,Z1]) W w9.heap.size W.heap.size [u]) (fun W W' u h q=>Ows.low (Ows.old (Qdb _) h q) (Nat.le_refl _) q.size (Nat.le_refl _)) (fun W u g q h=>?hS) HQ12.out (by have:=HQR.out;omega) KQ.out R12.out (fun W q=>hL.out W q) _ _ ?_ ?_ ?_ ?_ ?_ ?_
 case hS=>
  have h2:=h.putT (k:=kp+1+1) (j:=0) (x:=.slice (some ⟨g,0,none⟩) 2 2) (.inl hlo.out.1);exact h2.low (Nat.le_refl _) (by simp) (Nat.le_refl _)
 iterate 5 (·exact rfl)
 intro us3 W13 gz q13 X13 e100;have G13:=Qaa (Old.trans G12.out q13);have R13:=Qaa (R12.out.old q13);have HX13:=Qaa X13;simp only [Qah,Act.put,Qg1,List.range,List.range.loop,List.map_cons,List.map_nil,List.getD_cons_zero,List.getD_cons_succ,List.setIfInBounds_toArray,List.set_cons_succ,List.set_cons_zero];simp only [e100];clear q13 X13 e100 hL;go_wp2_with fail;have q0:=(Qew R13.out (.slice (some ⟨gz,0,none⟩) 2 2)).c (i:=0) rfl;refine bodyPost_ret (v:=.tuple #[.agg #[.slice (some ⟨gz,0,none⟩) 2 2],.int .i64 (k3:Int),.bool true]) (by simp [results,Tryz.results6,go_sem,q0]) rfl (HEND.out _ _ (G13.out.own (p:=⟨kp+1+1,0,none⟩) hlo.out.2.2 _) ?_);refine ⟨some ⟨gz,0,none⟩,2,rfl,?_⟩;have h2:=HX13.out.putT (k:=kp+1+1) (j:=0) (x:=.slice (some ⟨gz,0,none⟩) 2 2) (.inl hlo.out.1);exact h2.low (lo':=w.heap.size) hlo.out.2.1 (by simp) (Nat.le_refl _)
theorem Qyf {Nn:Nat} {ps:List Int} {z:List (List Int)} (hN:Nn<=16) (hps:ps.length<=6) (hl:z.length=ps.length) (h:OkX Nn ps z):z.length<=6/\∀q∈z,q.length<=16:=⟨by omega,fun q hq=>by
 obtain ⟨k,hk,rfl⟩:=List.getElem_of_mem hq;have h1:=(h k (by omega)).1;rw [show z.getD k []=z[k] by simp [List.getD,hk]] at h1;omega⟩
theorem Q09 {v:Value} (h:Fit v):Q0u v:=by
 cases v <;> first | exact h | trivial
theorem Qpd (N T E at_ : Int) (xs ss ws:List Int) (xss yss:List (List Int)) (v t u u' z:Value) (w:World) (hv:Row w v xs) (hl:xs.length<=9223372036854775807) (hx:∀x∈xs,-9223372036854775808<=x/\x<=9223372036854775807) (hu:Qci w u xss) (hu':Qci w u' yss) (hsx:xss.length<=9223372036854775807) (hsr:∀r∈xss,r.length<=9223372036854775807) (hsy:yss.length<=9223372036854775807) (hsr':∀r∈yss,r.length<=9223372036854775807) (ht:Row w t ss) (hts:ss.length<=9223372036854775807) (hz:Row w z ws) (hzs:ws.length<=9223372036854775807) (hP:Qer w) (hT:Qbh w) :
 Calls Tryz.prog 3 #[.agg #[.int .i64 N,.int .i64 T,.int .i64 E,v],.agg #[u,u'],t,z,.int .i64 at_] w fun e w'=>e=.returned (.bool true)/\Old w w':=by
 obtain ⟨a0,c0,rfl⟩:=hv.slice;obtain ⟨a1,c1,eu⟩:=hu.slice;obtain ⟨a3,c3,eu'⟩:=hu'.slice;obtain ⟨a2,c2,et⟩:=ht.slice;obtain ⟨a4,c4,ez⟩:=hz.slice;subst eu eu' et ez
 have bnd:∀{A:Prop},¬(1048576:Int)<(ss.length:Int)->¬(1048576:Int)<(ws.length:Int)->¬Qdk 1048576 xs.length<0->¬Qet (Qdk 1048576 xs.length) xss yss<0->(xs.length<=1048576->xss.length<=1048576->(∀r∈xss,r.length<=1048576)->yss.length<=1048576->(∀r∈yss,r.length<=1048576)->Qa4 xss xss.length<=1048576->Qa4 yss yss.length<=1048576->ss.length<=1048576->ws.length<=1048576->A)->A:=fun h2 h3 h0 h1 k=>by
  obtain ⟨q1,q2,q3⟩:=Qfm h0 (by omega);obtain ⟨p1,p2,p3,p4⟩:=Qsu q3 h1;obtain ⟨r1,r2,r3,r4⟩:=Qh2 q3 p1;obtain ⟨s1,s2,s3,s4⟩:=Qh2 p2 p4;have o1:=Qh5 q3 p1;have o2:=Qh5 p2 p4;exact k (by omega) (by omega) (fun r hr=>by have:=r4 r hr;omega) (by omega) (fun r hr=>by have:=s4 r hr;omega) (by omega) (by omega) (by omega) (by omega)
 obtain ⟨Z,KK,ok,hy,hn,z1,z2⟩:∃(Z:List (List (List Int))) (KK:Int) (ok:Bool),((prB N T E xs&&(rwB N xs xss&&rwB N xs yss)&&enB ws at_ N E&&Qbe T N ss)=true->Z=[Qb4 Qd3 xs (ppL N.toNat xs (smS xs (aL (cE ws at_ N E))) yss (smS xs (aL (cT ws at_ N)))) (lfL (dmF (Qap (xs.map Int.toNat)) T.toNat) xs ss),ppL N.toNat xs (smS xs (aL (cF ws at_ N E))) xss (smS xs (aL (cT ws at_ N)))]/\KK=aK (cF ws at_ N E)/\ok=true)/\((prB N T E xs&&(rwB N xs xss&&rwB N xs yss)&&enB ws at_ N E&&Qbe T N ss)=false->Z=[]/\KK=0/\ok=false)/\Z.length<=3/\∀r∈Z,r.length<=6/\∀q∈r,q.length<=16:=by
  cases h:(prB N T E xs&&(rwB N xs xss&&rwB N xs yss)&&enB ws at_ N E&&Qbe T N ss)
  ·exact ⟨[],0,false,(fun h=>by cases h),(fun _=>⟨rfl,rfl,rfl⟩),by simp,fun r hr=>by cases hr⟩
  ·rw [Bool.and_eq_true,Bool.and_eq_true,Bool.and_eq_true,Bool.and_eq_true] at h;obtain ⟨⟨⟨h1,h2,h3⟩,h4⟩,h5⟩:=h;obtain ⟨hz4,hbb,_⟩:=Qc3 (Qtm h1);obtain ⟨smu,sme,smf⟩:=Q02 h4;obtain ⟨Nn,rfl⟩:∃Nn:Nat,N=(Nn:Int):=⟨N.toNat,by omega⟩
   have hps:=(Qcs hbb).1;have hpb:=fun k hk=>Qq5 ((Qcs hbb).2 k hk)
   refine ⟨[Qb4 Qd3 xs (ppL (Nn:Int).toNat xs (smS xs (aL (cE ws at_ (Nn:Int) E))) yss (smS xs (aL (cT ws at_ (Nn:Int))))) (lfL (dmF (Qap (xs.map Int.toNat)) T.toNat) xs ss),ppL (Nn:Int).toNat xs (smS xs (aL (cF ws at_ (Nn:Int) E))) xss (smS xs (aL (cT ws at_ (Nn:Int))))],aK (cF ws at_ (Nn:Int) E),true,(fun _=>⟨rfl,rfl,rfl⟩),(fun h=>by cases h),by simp,fun r hr=>?_⟩;have en:((Nn:Nat):Int).toNat=Nn:=rfl;rw [en] at sme smf;rw [en] at hr;have OP:=Qil (yss:=Qi2 Nn xs yss (smS xs (aL (cT ws at_ (Nn:Int))))) hpb (Qcq hpb sme.1);have OZ:=Qil (yss:=lfL (dmF (Qap (xs.map Int.toNat)) T.toNat) xs ss) hpb OP;have OQ:=Qil (yss:=Qi2 Nn xs xss (smS xs (aL (cT ws at_ (Nn:Int))))) hpb (Qcq hpb smf.1);rcases List.mem_cons.1 hr with rfl | hr
   ·exact Qyf (by omega) hps.2 (Qb5 _ _ _ _) OZ
   ·rcases List.mem_cons.1 hr with rfl | hr
    ·exact Qyf (by omega) hps.2 (by unfold ppL;exact Qb5 _ _ _ _) OQ
    ·cases hr
 have ho:Qcj Z Z.length<=288:=by
  have:=Qsx Z 6 16 z2;omega
 have z3:∀r∈Z,r.length<=1048576/\∀q∈r,q.length<=1048576:=fun r hr=>by
  have:=z2 r hr;exact ⟨by omega,fun q hq=>by have:=this.2 q hq;omega⟩
 refine Ql5 w N T E xs.length a0 c0 xss.length yss.length a1 c1 a3 c3 ss.length a2 c2 ws.length a4 c4 at_ Z.length KK ok (Qdk 1048576 xs.length) (Qet (Qdk 1048576 xs.length) xss yss)
  (fun _ _ W g=>Q3h N T E a0 xs.length c0 1048576 W hl (by omega) (by omega))
  (fun _ _ h0 W g=>by
   obtain ⟨q1,q2,q3⟩:=Qfm h0 (by omega);exact Q12 xss yss _ _ _ W (hu.old g) (hu'.old g) hsx hsr hsy hsr' q3 (by omega))
  (XP N T E xs) (Q1x N T E xs) Qvw (fun h2 h3 h0 h1 W g=>bnd h2 h3 h0 h1 fun h3 _ _ _ _ _ _ _ _=>Q3i N T E xs _ W (hv.old g) h3) (fun h2 h3 h0 h1 W lo hi g lo' hi' g' k k'=>bnd h2 h3 h0 h1 fun h3 _ _ _ _ _ _ _ _=>Q3j N T E xs W lo hi g lo' hi' g' k k' (by omega))
  (1+xs.length) (by omega) (fun h2 h3 h0 h1 W lo hi g k=>bnd h2 h3 h0 h1 fun h3 _ _ _ _ _ _ _ _=>Qzi N T E xs 1 W lo hi g k h3 (by omega) (by omega))
  (XPr xss yss) (Qzo xss yss) Qst (fun h2 h3 h0 h1 W g=>bnd h2 h3 h0 h1 fun _ e1 e2 e3 e4 _ _ _ _=>Q13 xss yss _ _ W (hu.old g) (hu'.old g) e1 e2 e3 e4) (fun h2 h3 h0 h1 W lo hi g lo' hi' g' k k'=>bnd h2 h3 h0 h1 fun _ e1 e2 e3 e4 _ _ _ _=>Q14 xss yss W lo hi g lo' hi' g' k k' e1 e2 e3 e4)
  (1+xs.length+Qa4 xss xss.length+Qa4 yss yss.length) (by omega) (fun h2 h3 h0 h1 W lo hi g k=>bnd h2 h3 h0 h1 fun q1 e1 e2 e3 e4 e5 e6 q7 q8=>(Qv1 xss yss (1+xs.length) W lo hi g k e1 e2 e3 e4 (by omega) (by omega)).mono (fun e w' h=>⟨h.1,h.2.1⟩))
  (XI ss) (Qxq ss) Qp2 (fun h2 h3 h0 h1 W g=>bnd h2 h3 h0 h1 fun _ _ _ _ _ _ _ h5 _=>Q1y ss _ W (ht.old g) h5) (fun h2 h3 h0 h1 W lo hi g lo' hi' g' k k'=>bnd h2 h3 h0 h1 fun _ _ _ _ _ _ _ h5 _=>Q1z ss W lo hi g lo' hi' g' k k' (by omega))
  (1+xs.length+Qa4 xss xss.length+Qa4 yss yss.length+ss.length) (by omega) (fun h2 h3 h0 h1 W lo hi g k=>bnd h2 h3 h0 h1 fun q1 _ _ _ _ q6 q7 h6 _=>Qso ss (1+xs.length+Qa4 xss xss.length+Qa4 yss yss.length) W lo hi g k h6 (by omega) (by omega))
  (XI ws) (Qxq ws) Qp2 (fun h2 h3 h0 h1 W g=>bnd h2 h3 h0 h1 fun _ _ _ _ _ _ _ _ h5=>Q1y ws _ W (hz.old g) h5) (fun h2 h3 h0 h1 W lo hi g lo' hi' g' k k'=>bnd h2 h3 h0 h1 fun _ _ _ _ _ _ _ _ h5=>Q1z ws W lo hi g lo' hi' g' k k' (by omega))
  (1+xs.length+Qa4 xss xss.length+Qa4 yss yss.length+ss.length+ws.length) (by omega) (fun h2 h3 h0 h1 W lo hi g k=>bnd h2 h3 h0 h1 fun q1 _ _ _ _ q6 q7 q8 h6=>Qso ws (1+xs.length+Qa4 xss xss.length+Qa4 yss yss.length+ss.length) W lo hi g k h6 (by omega) (by omega))
  (XC Z) (Qxs _) Qkr (XC Z) (Qxs _) Qkr (XCm 1 Z) (Qzp _ _) Qsw
  (fun h2 h3 h0 h1 W lo hi g lo1 hi1 g1 lo2 hi2 g2 lo3 hi3 g3 k k1 k2 k3 q=>bnd h2 h3 h0 h1 fun _ h3 h4 h5 h6 _ _ _ _=>?_) (fun h2 h3 h0 h1 W lo hi g lo1 hi1 g1 lo2 hi2 g2 lo3 hi3 g3 k k1 k2 k3 q=>bnd h2 h3 h0 h1 fun _ h3 h4 h5 h6 _ _ _ _=>?_)
  (fun h2 h3 h0 h1 W lo hi p lo' hi' p' k k'=>Q3k Z W lo hi p lo' hi' p' k k' (by omega) z3)
  (1+Qcj Z Z.length) (by omega) (fun h2 h3 h0 h1 W lo hi p k=>Qzq Z 1 W lo hi p k (by omega) z3 (by omega) (by omega))
  (fun h2 h3 h0 h1 W lo hi p k=>Qzr Z 1 W lo hi p k (by omega) z3 (by omega) (by omega))
 ·obtain ⟨a,c,rfl,o,f⟩:=k;obtain ⟨a'',c'',rfl,o'',f''⟩:=k2;obtain ⟨a',c',d',e',rfl,o',p'⟩:=k1.rows;obtain ⟨aq,cq,rfl,oq,fq⟩:=k3;exact Qnr N T E at_ xs xss yss ss ws _ _ _ _ _ _ _ W o.row f o' p' h3 h4 h5 h6 o''.row hts oq.row hzs hl hx Z KK ok hy hn
 ·obtain ⟨a,c,rfl,o,f⟩:=k;obtain ⟨a'',c'',rfl,o'',f''⟩:=k2;obtain ⟨aX,cX,aY,cY,BB,rfl,hb1,hb2,oX,oY⟩:=k1;obtain ⟨aq,cq,rfl,oq,fq⟩:=k3;obtain ⟨ux,cx,hX⟩:=oX.ats xs;obtain ⟨uy,cy,hY⟩:=oY.ats xs;exact Qnq N T E at_ xs xss yss ss ws _ _ _ _ _ _ _ ux uy cx cy W (hP.old q) (hT.old q) o.row f h3 h4 hX h5 h6 hY o''.row hts oq.row (Q09 fq) hzs hl Z KK ok hy hn
end Go.Proofs.YtdaepfjocofkjaaGreatDoor
