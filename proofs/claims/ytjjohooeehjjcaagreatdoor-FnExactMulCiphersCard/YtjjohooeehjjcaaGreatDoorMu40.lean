/- Proved: what its theorems say. -/
import Derived.Test.YtjjohooeehjjcaaGreatDoorMu41
import Derived.Test.YtjjohooeehjjcaaGreatDoorLawMulCiphers
set_option linter.unusedVariables false
set_option linter.unusedSimpArgs false
set_option maxHeartbeats 4000000
set_option maxRecDepth 100000
namespace Go.Proofs.YtjjohooeehjjcaaGreatDoor
open Go.ChangeShapes Go.WideShapes Go.ChangeAt Go.RowKit
open M1
theorem RdX.put {N:Int} {ps:List Int} {Rf:Nat->Int} {xss:List (List Int)} {W:World} {v:Value} (h0:0<ps.length) (h:RdX N ps Rf xss W v) {k:Nat} (noI:∀o (x:Int),W.cell? ⟨k,o,none⟩≠some (.int .i64 x)) (i:Nat) (z:Value):RdX N ps Rf xss (W.setCell ⟨k,i,none⟩ z) v:=by
 obtain ⟨us,⟨b,cap,e,hbl,hc⟩,hus⟩:=h
 have hbk:b≠k:=fun e=>by
  subst e;exact noI _ _ (hc 0 h0).1
 have oth:∀b' o,b'≠k->(W.setCell ⟨k,i,none⟩ z).cell? ⟨b',o,none⟩=W.cell? ⟨b',o,none⟩:=fun b' o hne=>World.cell?_of_block (heap_setCell_other W ⟨k,i,none⟩ b' _ hne)
 refine ⟨us,⟨b,cap,e,by simpa using hbl,fun q hq=>?_⟩,fun q hq=>⟨?_,(hus q hq).2⟩⟩
 ·obtain ⟨h1,h2,h3,h4,h5⟩:=hc q hq;refine ⟨?_,?_,?_,?_,?_⟩ <;> rw [oth _ _ hbk] <;> assumption
 ·rcases (hus q hq).1 with hr | ⟨b',o',cap',e',hb',h0',hc'⟩
  ·exact .inl hr
  ·have hne:b'≠k:=fun e=>by
    subst e;exact noI _ _ (hc' 0 h0')
   exact .inr ⟨b',o',cap',e',by simpa using hb',h0',fun j hj=>by rw [oth _ _ hne];exact hc' j hj⟩
theorem Q0m {W:World} {k:Nat} {a0 a1:Option Addr} {l0 c0 l1 c1:Nat} {t:TypeId} (h:Bk W k #[.slice a0 l0 c0,.slice a1 l1 c1] t):∀o (x:Int),W.cell? ⟨k,o,none⟩≠some (.int .i64 x):=fun o x hx=>by
 rw [cell_of_row _ _ _ _ _ _ h] at hx;rcases o with _ | _ | o
 ·simp at hx
 ·simp at hx
 ·simp at hx
def R2A (L:Nat) (two:Bool) (F:World->Option Addr->Option Addr->Prop) (w:World) (e:Ending) (w':World):Prop:=
 Old w w'/\((two=false/\∃p0 l0 c0 p1 l1 c1,e=.returned (.tuple #[.agg #[.slice p0 l0 c0,.slice p1 l1 c1],.bool false]))∨(two=true/\∃g0 g1,e=.returned (.tuple #[.agg #[.slice g0 L L,.slice g1 L L],.bool true])/\F w' g0 g1))
theorem Q0g (W:World):Sem.run Tryz.prog (Instr.typeAssert .nilIface 101 67 true) W=.ok (.tuple #[.agg #[.slice none 0 0,.slice none 0 0],.bool false]) W:=by kernel_rfl
theorem Qjj (N T E:Int) (a3:Option Addr) (l3 c3:Nat) (a4:Option Addr) (l4 c4:Nat) (b5:Bool) (a6:Option Addr) (l6 c6:Nat) (au:Option Addr) (lu cu:Nat) (L:Nat) (two:Bool) (F:World→Option Addr→Option Addr→Prop) (w:World)
  (KR:∀W,Old w W->Calls Tryz.prog 56 #[.agg #[.int .i64 N,.int .i64 T,.int .i64 E,.slice a3 l3 c3,.slice a4 l4 c4,.bool b5,.slice a6 l6 c6],.agg #[.slice au lu cu]] W fun e w'=>Old W w'/\((two=false/\∃b,e=.returned (.tuple #[.nilIface,.bool b]))∨(two=false/\∃g0 g1 g2 b,e=.returned (.tuple #[if3 L g0 g1 g2,.bool b]))∨(two=true/\∃g0 g1 b,e=.returned (.tuple #[if2 L g0 g1,.bool b])/\F w' g0 g1)))
  (hF:∀W W' g0 g1,F W g0 g1->Old W W'->F W' g0 g1) (hP:∀W k a0 l0 c0 a1 l1 c1 i z g0 g1,F W g0 g1->Bk W k #[.slice a0 l0 c0,.slice a1 l1 c1] 67->F (W.setCell ⟨k,i,none⟩ z) g0 g1) :
  Calls Tryz.prog 27 #[.agg #[.int .i64 N,.int .i64 T,.int .i64 E,.slice a3 l3 c3,.slice a4 l4 c4,.bool b5,.slice a6 l6 c6],.agg #[.slice au lu cu]] w (R2A L two F w):=by
 have HR:=Qaa KR;have HF:=Qaa hF;have HP:=Qaa hP;clear KR hF hP;obtain ⟨W1,hW1⟩:∃B:World,((w.alloc (.cells #[.int .i64 N,.int .i64 T,.int .i64 E,.slice a3 l3 c3,.slice a4 l4 c4,.bool b5,.slice a6 l6 c6] 62)).alloc (.cells #[.slice au lu cu] 30)).alloc (.cells #[.slice none 0 0,.slice none 0 0] 67)=B:=⟨_,rfl⟩
 have O1:Hid (Old w W1):=by rw [<- hW1];exact (((Old.refl w).alloc _).alloc _).alloc _
 have P1:Hid (Bk W1 w.heap.size #[.int .i64 N,.int .i64 T,.int .i64 E,.slice a3 l3 c3,.slice a4 l4 c4,.bool b5,.slice a6 l6 c6] 62):=by rw [<- hW1];exact ((Bk.new' w _ _ rfl).alloc _).alloc _
 have C1:Hid (Bk W1 (w.heap.size+1) #[.slice au lu cu] 30):=by rw [<- hW1];exact (Bk.new' _ _ _ (by simp)).alloc _
 have R1:Hid (Bk W1 (w.heap.size+1+1) #[.slice none 0 0,.slice none 0 0] 67):=by rw [<- hW1];exact Bk.new' _ _ _ (by simp)
 obtain ⟨kp,hkp⟩:∃k,w.heap.size=k:=⟨_,rfl⟩
 have HKP:=Qaa hkp;rw [hkp] at P1 C1 R1;have x0:=P1.out.c (i:=0) rfl;have x1:=P1.out.c (i:=1) rfl;have x2:=P1.out.c (i:=2) rfl;have x3:=P1.out.c (i:=3) rfl;have x4:=P1.out.c (i:=4) rfl;have x5:=P1.out.c (i:=5) rfl;have x6:=P1.out.c (i:=6) rfl;have y0:=C1.out.c (i:=0) rfl;have t1:=Q0g;have t2:=Q0b L;have t3:=Q0c L;go_enter Tryz.func27,Tryz.ntmps27;go_wp2_with fail;refine (HR.out _ O1.out).mono ?_
 rintro e w2 ⟨g2,h⟩;have G2:=Qaa (Old.trans O1.out g2);have R2:=Qaa (R1.out.old g2);clear g2 x0 x1 x2 x3 x4 x5 x6 y0 P1 C1 R1 O1 hW1 hkp HR;rcases h with ⟨h3,b,rfl⟩ | ⟨h3,g0,g1,g2,b,rfl⟩ | ⟨h3,g0,g1,b,rfl,hf⟩
 ·clear t2 t3;have R3:Bk (w2.alloc (.cells #[.slice none 0 0,.slice none 0 0] 67)) (kp+1+1) #[.slice none 0 0,.slice none 0 0] 67:=R2.out.alloc _;have z0:=R3.c (i:=0) rfl;have z1:=R3.c (i:=1) rfl;have f0:=frozen_of_row _ _ 0 _ _ R3;have f1:=frozen_of_row _ _ 1 _ _ R3;have Q0:Bk ((w2.alloc (.cells #[.slice none 0 0,.slice none 0 0] 67)).setCell ⟨kp+1+1,0,none⟩ (.slice none 0 0)) (kp+1+1) #[.slice none 0 0,.slice none 0 0] 67:=heap_setCell_same _ (kp+1+1) 0 _ _ _ R3;have Q1:Bk (((w2.alloc (.cells #[.slice none 0 0,.slice none 0 0] 67)).setCell ⟨kp+1+1,0,none⟩ (.slice none 0 0)).setCell ⟨kp+1+1,1,none⟩ (.slice none 0 0)) (kp+1+1) #[.slice none 0 0,.slice none 0 0] 67:=heap_setCell_same _ (kp+1+1) 1 _ _ _ Q0;have hkp':=HKP.out;have HQ1:=Qaa Q1;clear Q1;go_wp2_with fail;have q0:=HQ1.out.c (i:=0) rfl;have q1:=HQ1.out.c (i:=1) rfl;refine bodyPost_ret (v:=.tuple #[.agg #[.slice none 0 0,.slice none 0 0],.bool false]) (by simp [results,Tryz.results27,go_sem,q0,q1]) rfl ?_
  refine ⟨((G2.out.alloc _).own (p:=⟨kp+1+1,0,none⟩) (by show w.heap.size<=kp+1+1;omega) _).own (p:=⟨kp+1+1,1,none⟩) (by show w.heap.size<=kp+1+1;omega) _,.inl ⟨h3,_,_,_,_,_,_,rfl⟩⟩
 ·clear t1 t2;have t4:=t3 g0 g1 g2;clear t3;have R3:Bk (w2.alloc (.cells #[.slice none 0 0,.slice none 0 0] 67)) (kp+1+1) #[.slice none 0 0,.slice none 0 0] 67:=R2.out.alloc _;have z0:=R3.c (i:=0) rfl;have z1:=R3.c (i:=1) rfl;have f0:=frozen_of_row _ _ 0 _ _ R3;have f1:=frozen_of_row _ _ 1 _ _ R3;have Q0:Bk ((w2.alloc (.cells #[.slice none 0 0,.slice none 0 0] 67)).setCell ⟨kp+1+1,0,none⟩ (.slice none 0 0)) (kp+1+1) #[.slice none 0 0,.slice none 0 0] 67:=heap_setCell_same _ (kp+1+1) 0 _ _ _ R3;have Q1:Bk (((w2.alloc (.cells #[.slice none 0 0,.slice none 0 0] 67)).setCell ⟨kp+1+1,0,none⟩ (.slice none 0 0)).setCell ⟨kp+1+1,1,none⟩ (.slice none 0 0)) (kp+1+1) #[.slice none 0 0,.slice none 0 0] 67:=heap_setCell_same _ (kp+1+1) 1 _ _ _ Q0;have hkp':=HKP.out;have HQ1:=Qaa Q1;clear Q1;unfold if3 at *;go_wp2_with fail;have q0:=HQ1.out.c (i:=0) rfl;have q1:=HQ1.out.c (i:=1) rfl;refine bodyPost_ret (v:=.tuple #[.agg #[.slice none 0 0,.slice none 0 0],.bool false]) (by simp [results,Tryz.results27,go_sem,q0,q1]) rfl ?_
  refine ⟨((G2.out.alloc _).own (p:=⟨kp+1+1,0,none⟩) (by show w.heap.size<=kp+1+1;omega) _).own (p:=⟨kp+1+1,1,none⟩) (by show w.heap.size<=kp+1+1;omega) _,.inl ⟨h3,_,_,_,_,_,_,rfl⟩⟩
 ·clear t1 t3;have t4:=t2 g0 g1;clear t2;have HFF:=Qaa hf;clear hf;have R3:Bk (w2.alloc (.cells #[.slice g0 L L,.slice g1 L L] 67)) (kp+1+1) #[.slice none 0 0,.slice none 0 0] 67:=R2.out.alloc _;have z0:=R3.c (i:=0) rfl;have z1:=R3.c (i:=1) rfl;have f0:=frozen_of_row _ _ 0 _ _ R3;have f1:=frozen_of_row _ _ 1 _ _ R3;have Q0:Bk ((w2.alloc (.cells #[.slice g0 L L,.slice g1 L L] 67)).setCell ⟨kp+1+1,0,none⟩ (.slice g0 L L)) (kp+1+1) #[.slice g0 L L,.slice none 0 0] 67:=heap_setCell_same _ (kp+1+1) 0 _ _ _ R3;have Q1:Bk (((w2.alloc (.cells #[.slice g0 L L,.slice g1 L L] 67)).setCell ⟨kp+1+1,0,none⟩ (.slice g0 L L)).setCell ⟨kp+1+1,1,none⟩ (.slice g1 L L)) (kp+1+1) #[.slice g0 L L,.slice g1 L L] 67:=heap_setCell_same _ (kp+1+1) 1 _ _ _ Q0;have hkp':=HKP.out;have HQ1:=Qaa Q1;clear Q1;unfold if2 at *;go_wp2_with fail;have q0:=HQ1.out.c (i:=0) rfl;have q1:=HQ1.out.c (i:=1) rfl;refine bodyPost_ret (v:=.tuple #[.agg #[.slice g0 L L,.slice g1 L L],.bool true]) (by simp [results,Tryz.results27,go_sem,q0,q1]) rfl ?_
  refine ⟨((G2.out.alloc _).own (p:=⟨kp+1+1,0,none⟩) (by show w.heap.size<=kp+1+1;omega) _).own (p:=⟨kp+1+1,1,none⟩) (by show w.heap.size<=kp+1+1;omega) _,.inr ⟨h3,g0,g1,rfl,HP.out _ _ _ _ _ _ _ _ _ _ _ _ (HP.out _ _ _ _ _ _ _ _ _ _ _ _ (HF.out _ _ _ _ HFF.out ((Old.refl w2).alloc _)) R3) Q0⟩⟩
end Go.Proofs.YtjjohooeehjjcaaGreatDoor
namespace Go.Proofs.YtjjohooeehjjcaaGreatDoor
open Go.ChangeShapes Go.WideShapes Go.ChangeAt Go.RowKit
open M1
open M2
theorem Qta (xsss:List (List (List Int))) (a1:Option Addr) (cap1:Nat) (ps:List Int) (au:Nat→Option Addr) (cu:Nat→Nat) (uf:Nat→Nat→Option Addr) (cf:Nat→Nat→Nat) (w:World) (hm:xsss.length≤1048576) (hpa:CiI xsss ps w a1 au cu uf cf) :
  Calls Tryz.prog 27 #[.agg rk0,.agg #[.slice a1 xsss.length cap1]] w fun e w'=>Old w w'/\∃p0 l0 c0 p1 l1 c1 b,e=.returned (.tuple #[.agg #[.slice p0 l0 c0,.slice p1 l1 c1],.bool b]):=by
 refine (Qjj 0 0 0 none 0 0 none 0 0 false none 0 0 a1 xsss.length cap1 0 (rdB xsss.length (fun j=>decide ((xsss.getD j []).length=0))&&decide (xsss.length=2)) (fun _ _ _=>True) w (fun W q=>?_) (fun _ _ _ _ _ _=>trivial) (fun _ _ _ _ _ _ _ _ _ _ _ _ _ _=>trivial)).mono fun e w' h=>?_
 ·refine (Qug 0 0 0 none 0 0 false none 0 0 a1 cap1 W ps xsss au cu uf cf hm (hpa.old q)).mono fun e w' h=>?_
  obtain ⟨g,h⟩:=h;refine ⟨g,?_⟩;rcases h with ⟨hB,e1⟩ | ⟨hB,h2,g0,g1,e1,_⟩ | ⟨hB,h3,g0,g1,g2,e1,_⟩
  ·exact .inl ⟨by rw [hB];rfl,_,e1⟩
  ·exact .inr (.inr ⟨by rw [hB,decide_eq_true h2];rfl,_,_,_,e1,trivial⟩)
  ·exact .inr (.inl ⟨by rw [hB,decide_eq_false (by omega)];rfl,_,_,_,_,e1⟩)
 ·obtain ⟨g,h⟩:=h;refine ⟨g,?_⟩;rcases h with ⟨_,p0,l0,c0,p1,l1,c1,e1⟩ | ⟨_,g0,g1,e1,_⟩
  ·exact ⟨_,_,_,_,_,_,_,e1⟩
  ·exact ⟨_,_,_,_,_,_,_,e1⟩
def R2M (Nn:Nat) (ps:List Int) (Rf:Nat->Int) (xsss:List (List (List Int))) (W:World) (g0 g1:Option Addr):Prop:=RdX Nn ps Rf (xsss.getD 0 []) W (.slice g0 ps.length ps.length)/\RdX Nn ps Rf (xsss.getD 1 []) W (.slice g1 ps.length ps.length)
theorem R2M.old {Nn:Nat} {ps:List Int} {Rf:Nat->Int} {xsss:List (List (List Int))} {W W':World} {g0 g1:Option Addr} (h:R2M Nn ps Rf xsss W g0 g1) (q:Old W W'):R2M Nn ps Rf xsss W' g0 g1:=⟨h.1.old q,h.2.old q⟩
theorem Qtb (Nn:Nat) (T E:Int) (a3:Option Addr) (l3 c3:Nat) (gr:Nat) (a6:Option Addr) (l6 c6:Nat) (a1:Option Addr) (cap1:Nat) (w:World) (ps:List Int) (Rf:Nat→Int) (xsss:List (List (List Int))) (au:Nat→Option Addr) (cu:Nat→Nat) (uf:Nat→Nat→Option Addr) (cf:Nat→Nat→Nat)
  (hm:xsss.length<=1048576) (hr:∀r∈xsss,r.length<=1048576/\∀q∈r,q.length<=1048576) (hpa:CiI xsss ps w a1 au cu uf cf) (hrg:Rgs w gr Nn ps Rf ps.length) (hsp:spB Nn ps=true) (hN:2<=Nn/\Nn<=16) (hps:1<=ps.length/\ps.length<=6) :
  Calls Tryz.prog 27 #[.agg #[.int .i64 Nn,.int .i64 T,.int .i64 E,.slice a3 l3 c3,.slice (some ⟨gr,0,none⟩) ps.length ps.length,.bool false,.slice a6 l6 c6],.agg #[.slice a1 xsss.length cap1]] w fun e w'=>Old w w'/\∃p0 l0 d0 p1 l1 d1,e=.returned (.tuple #[.agg #[.slice p0 l0 d0,.slice p1 l1 d1],.bool (ciB Nn ps xsss&&decide (xsss.length=2))])/\((ciB Nn ps xsss&&decide (xsss.length=2))=true->l0=ps.length/\d0=ps.length/\l1=ps.length/\d1=ps.length/\R2M Nn ps Rf xsss w' p0 p1):=by
 refine (Qjj Nn T E a3 l3 c3 _ _ _ false a6 l6 c6 a1 xsss.length cap1 ps.length (ciB Nn ps xsss&&decide (xsss.length=2)) (R2M Nn ps Rf xsss) w (fun W q=>?_) (fun W W' g0 g1 h q=>h.old q) (fun W k a0 l0 c0 a1 l1 c1 i z g0 g1 h hb=>⟨h.1.put hps.1 (Q0m hb) _ _,h.2.put hps.1 (Q0m hb) _ _⟩)).mono fun e w' h=>?_
 ·refine (Quo Nn T E a3 l3 c3 gr false a6 l6 c6 a1 cap1 W ps Rf xsss au cu uf cf hm hr (hpa.old q) (hrg.old q) hsp hN hps).mono fun e w' h=>?_
  obtain ⟨g,h⟩:=h;refine ⟨g,?_⟩;rcases h with ⟨hC,e1⟩ | ⟨hC,IF,e1,⟨h2,g0,g1,e2,r0,r1⟩ | ⟨h3,g0,g1,g2,e2,_⟩⟩
  ·exact .inl ⟨by rw [hC];rfl,_,e1⟩
  ·exact .inr (.inr ⟨by rw [hC,decide_eq_true h2];rfl,_,_,_,by rw [e1,e2],r0,r1⟩)
  ·exact .inr (.inl ⟨by rw [hC,decide_eq_false (by omega)];rfl,_,_,_,_,by rw [e1,e2]⟩)
 ·obtain ⟨g,h⟩:=h;refine ⟨g,?_⟩;rcases h with ⟨h2,p0,l0,c0,p1,l1,c1,e1⟩ | ⟨h2,g0,g1,e1,r⟩
  ·exact ⟨_,_,_,_,_,_,by rw [h2];exact e1,fun h=>by rw [h2] at h;cases h⟩
  ·exact ⟨_,_,_,_,_,_,by rw [h2];exact e1,fun _=>⟨rfl,rfl,rfl,rfl,r⟩⟩
def mcZ (Nn:Nat) (T:Int) (ps:List Int) (xsss ysss:List (List (List Int))):List (List (List Int)):=
 [rwZ (scF (pzF (ctZ ps (xsss.getD 0 [])) (ctZ ps (ysss.getD 0 [])) Nn) T (Qae (pnN ps))) Nn ps,rwZ (scF (fun k=>pzF (ctZ ps (xsss.getD 0 [])) (ctZ ps (ysss.getD 1 [])) Nn k+pzF (ctZ ps (xsss.getD 1 [])) (ctZ ps (ysss.getD 0 [])) Nn k) T (Qae (pnN ps))) Nn ps,rwZ (scF (pzF (ctZ ps (xsss.getD 1 [])) (ctZ ps (ysss.getD 1 [])) Nn) T (Qae (pnN ps))) Nn ps]
theorem Qya (Nn:Nat) (T:Int) (ps:List Int) (xsss ysss:List (List (List Int))) (j:Nat) (hj:j<3):((mcZ Nn T ps xsss ysss).getD j []).length=ps.length:=by
 rcases (show j=0∨j=1∨j=2 by omega) with rfl | rfl | rfl <;> exact Qs9 _ _ _
theorem Qhw (N T E:Int) (ps:List Int) (xsss ysss:List (List (List Int))) (v u u2:Value) (w:World) (lo hi lo2 hi2:Nat) (hP:Qeu w) (hT:Qbq w) (hv:Row w v ps) (hf:Fit v) (hu:Ows (TTT xsss) w lo hi [u]) (ht:Ows (TTT ysss) w lo2 hi2 [u2]) (hlp:ps.length≤9223372036854775807) (hl:xsss.length≤1048576) (hr:∀r∈xsss,r.length≤1048576∧∀q∈r,q.length≤1048576) (hl2:ysss.length≤1048576) (hr2:∀r∈ysss,r.length≤1048576∧∀q∈r,q.length≤1048576) (Z:List (List (List Int))) (ok:Bool) (hy:(prB N T E ps&&(ciB N ps xsss&&decide (xsss.length=2))&&(ciB N ps ysss&&decide (ysss.length=2)))=true→Z=mcZ N.toNat T ps xsss ysss∧ok=true) (hn:(prB N T E ps&&(ciB N ps xsss&&decide (xsss.length=2))&&(ciB N ps ysss&&decide (ysss.length=2)))=false→Z=[]∧ok=false) :
  Calls Tryz.prog 9 #[.agg #[.int .i64 N,.int .i64 T,.int .i64 E,v],.agg #[u],.agg #[u2]] w (CiA Z ok w):=by
 have HY:Hid ((prB N T E ps&&(ciB N ps xsss&&decide (xsss.length=2))&&(ciB N ps ysss&&decide (ysss.length=2)))=true->Z=mcZ N.toNat T ps xsss ysss/\ok=true):=hy;have HNN:Hid ((prB N T E ps&&(ciB N ps xsss&&decide (xsss.length=2))&&(ciB N ps ysss&&decide (ysss.length=2)))=false->Z=[]/\ok=false):=hn;clear hy hn;obtain ⟨Rf,hRf⟩:=Qmm N ps;have K1:=fun W (g:Old w W)=>Qhj N T E ps Rf v W (hP.old g) (hT.old g) (hv.old g) hf hlp hRf
 have HV:Hid (Row w v ps/\Fit v):=⟨hv,hf⟩;obtain ⟨a0,c0,ev⟩:=hv.slice;obtain ⟨a1,c1,eu⟩:=hu.rowT.slice;obtain ⟨a2,c2,et⟩:=ht.rowT.slice;subst ev eu et;obtain ⟨au,cu,uf,cf,hpa⟩:=CiI.of ps hu;obtain ⟨au2,cu2,uf2,cf2,hpa2⟩:=CiI.of ps ht;have HPA:=Qaa hpa;have HPA2:=Qaa hpa2;have HR:=Qaa hr;have HR2:=Qaa hr2;have HLL:=Qaa hl;have HL2:=Qaa hl2;obtain ⟨W1,hW1⟩:∃B:World,((((w.alloc (.cells #[.int .i64 N,.int .i64 T,.int .i64 E,.slice a0 ps.length c0] 33)).alloc (.cells #[.slice a1 xsss.length c1] 30)).alloc (.cells #[.slice a2 ysss.length c2] 30)).alloc (.cells #[.slice none 0 0] 30))=B:=⟨_,rfl⟩
 have HA:Hid (Old w W1):=by rw [<- hW1];exact ((((Old.refl w).alloc _).alloc _).alloc _).alloc _
 have BP:Hid (Bk W1 w.heap.size #[.int .i64 N,.int .i64 T,.int .i64 E,.slice a0 ps.length c0] 33):=by rw [<- hW1];exact (((Bk.new' w _ _ rfl).alloc _).alloc _).alloc _
 have BA:Hid (Bk W1 (w.heap.size+1) #[.slice a1 xsss.length c1] 30):=by rw [<- hW1];exact ((Bk.new' _ _ _ (by simp)).alloc _).alloc _
 have BB:Hid (Bk W1 (w.heap.size+1+1) #[.slice a2 ysss.length c2] 30):=by rw [<- hW1];exact (Bk.new' _ _ _ (by simp)).alloc _
 have BR:Hid (Bk W1 (w.heap.size+1+1+1) #[.slice none 0 0] 30):=by rw [<- hW1];exact Bk.new' _ _ _ (by simp)
 obtain ⟨kp,hkp⟩:∃k,w.heap.size=k:=⟨_,rfl⟩
 have HKP:=Qaa hkp;rw [hkp] at BP BA BB BR;clear hv hf hu ht hP hT hRf hr hr2 hpa hpa2 hl hl2 hlp;have p0:=BP.out.c (i:=0) rfl;have p1:=BP.out.c (i:=1) rfl;have p2:=BP.out.c (i:=2) rfl;have p3:=BP.out.c (i:=3) rfl;go_enter Tryz.func9,Tryz.ntmps9;go_wp2_with fail;refine (K1 _ HA.out).mono ?_
 rintro e w1 ⟨g1,h⟩;have HG1:=Qaa (Old.trans HA.out g1);have A1:=Qaa (BA.out.old g1);have B1:=Qaa (BB.out.old g1);have R1:=Qaa (BR.out.old g1);clear g1 K1 BA BB BP BR HA hW1 hkp p0 p1 p2 p3
 have FIN:∀w5,Hid (Z=[]/\ok=false)->Hid (Old w w5)->CiA Z ok w (.returned (.tuple #[.agg #[.slice none 0 0],.bool false])) (w5.setCell ⟨kp+1+1+1,0,none⟩ (.slice none 0 0)):=fun w5 hb g=>by
  rw [hb.out.1,hb.out.2];exact ⟨_,rfl,g.out.own (p:=⟨kp+1+1+1,0,none⟩) (by have:=HKP.out;show w.heap.size<=kp+1+1+1;omega) _,XC.nil2 (Nat.le_refl _)⟩
 have FINH:=Qaa FIN;clear FIN;rcases h with ⟨hB,rfl⟩ | ⟨hB,g,a,l,c,hg,rfl,hrg,qs,eqs,hbs,hll,hown⟩
 ·have HB:Hid (Z=[]∧ok=false):=HNN.out (by rw [hB];rfl);have O2:Old w1 (w1.alloc (.cells rk0 62)):=(Old.refl w1).alloc _;have BX2:Hid (Bk (w1.alloc (.cells rk0 62)) w1.heap.size rk0 62):=Bk.new' w1 _ _ rfl;have HG2:=Qaa (Old.trans HG1.out O2);have A2:=Qaa (A1.out.old O2);have B2:=Qaa (B1.out.old O2);have R2:=Qaa (R1.out.old O2);have z0:=A2.out.c (i:=0) rfl;have K2:=Qaa (Qta xsss a1 c1 ps au cu uf cf (w1.alloc (.cells rk0 62)) HLL.out (HPA.out.old HG2.out));clear hB O2 A1 B1 R1 HG1;go_wp2_with fail;refine K2.out.mono ?_
  rintro e w3 ⟨g3,p0,l0,d0,p1,l1,d1,b3,rfl⟩;obtain ⟨W4,hW4⟩:∃B:World,w3.alloc (.cells #[.slice p0 l0 d0,.slice p1 l1 d1] 67)=B:=⟨_,rfl⟩
  have O4:Old (w1.alloc (.cells rk0 62)) W4:=by rw [<- hW4];exact g3.alloc _
  have HG4:=Qaa (Old.trans HG2.out O4);have BX4:=Qaa (BX2.out.old O4);have B4:=Qaa (B2.out.old O4);have R4:=Qaa (R2.out.old O4);obtain ⟨kr,hkr⟩:∃k,w1.heap.size=k:=⟨_,rfl⟩
  rw [hkr] at BX4;have K4:=Qaa (Qta ysss a2 c2 ps au2 cu2 uf2 cf2 W4 HL2.out (HPA2.out.old HG4.out));clear g3 O4 BX2 R2 B2 A2 z0 K2 HG2;have z0:=B4.out.c (i:=0) rfl;have x0:=BX4.out.c (i:=0) rfl;have x1:=BX4.out.c (i:=1) rfl;have x2:=BX4.out.c (i:=2) rfl;have x3:=BX4.out.c (i:=3) rfl;have x4:=BX4.out.c (i:=4) rfl;have x5:=BX4.out.c (i:=5) rfl;have x6:=BX4.out.c (i:=6) rfl;go_wp2_with fail;refine K4.out.mono ?_
  rintro e w5 ⟨g5,s0,n0,f0,s1,n1,f1,b5,rfl⟩;have G6:Hid (Old w (w5.alloc (.cells #[.slice s0 n0 f0,.slice s1 n1 f1] 67))):=(Old.trans HG4.out g5).alloc _;have R6:Hid (Bk (w5.alloc (.cells #[.slice s0 n0 f0,.slice s1 n1 f1] 67)) (kp+1+1+1) #[.slice none 0 0] 30):=(R4.out.old g5).alloc _;clear g5 K4 BX4 R4 B4 hW4 HG4 hkr x0 x1 x2 x3 x4 x5 x6 z0;obtain ⟨W6,hW6⟩:∃B:World,(w5.alloc (.cells #[.slice s0 n0 f0,.slice s1 n1 f1] 67))=B:=⟨_,rfl⟩
  rw [hW6] at G6 R6;have f0:W6.frozen? ⟨kp+1+1+1,0,none⟩=false:=frozen_of_row _ _ _ _ _ R6.out
  have y0:=R6.out.c (i:=0) rfl;go_wp2_with fail;have q0:=(Qgi R6.out (.slice none 0 0)).c (i:=0) rfl;exact bodyPost_ret (v:=.tuple #[.agg #[.slice none 0 0],.bool false]) (by simp [results,Tryz.results9,go_sem,q0]) rfl (FINH.out _ HB G6)
 ·have hsp:=Qok hB;obtain ⟨hz4,hbb,_⟩:=Qdw hsp;obtain ⟨Nn,rfl⟩:∃Nn:Nat,N=(Nn:Int):=⟨N.toNat,by omega⟩
  have hNn:2<=Nn/\Nn<=16:=by omega
  have hps:=(Qc8 hbb).1;have HBB:=Qaa hB;have HPB:Hid (∀k,k<ps.length->2<=ps.getD k 0/\ps.getD k 0<=268435456):=fun k hk=>Qq8 ((Qc8 hbb).2 k hk)
  have HBAS:=Qaa hbb;have HN16:=Qaa hNn;have HPS:=Qaa hps;obtain ⟨W2,hW2⟩:∃B:World,w1.alloc (.cells #[.int .i64 (Nn:Int),.int .i64 T,.int .i64 E,.slice a0 ps.length c0,.slice (some ⟨g,0,none⟩) ps.length ps.length,.bool false,.slice a l c] 62)=B:=⟨_,rfl⟩
  have O2:Old w1 W2:=by rw [<- hW2];exact (Old.refl w1).alloc _
  have BX2:Hid (Bk W2 w1.heap.size #[.int .i64 (Nn:Int),.int .i64 T,.int .i64 E,.slice a0 ps.length c0,.slice (some ⟨g,0,none⟩) ps.length ps.length,.bool false,.slice a l c] 62):=by rw [<- hW2];exact Bk.new' w1 _ _ rfl
  have HQ2:Hid (Rz (Qae (pnN ps):Nat) W2 (.agg #[.bool false,.slice a l c])):=by
   have e:qs=pnN ps:=by
    unfold pnN;rw [eqs];exact (Qj7 qs).symm
   rw [<- e];refine ⟨a,c,?_,?_⟩
   ·rw [hll,show dg ((Qae qs:Nat):Int)=dig (Qae qs) from rfl];simp [ng]
   ·rw [show dg ((Qae qs:Nat):Int)=dig (Qae qs) from rfl,<- hll];exact (Own.row hown).old O2
  have HQP:Hid (0<Qae (pnN ps)/\(dg (Qae (pnN ps):Nat)).length<=40):=by
   have e:qs=pnN ps:=by
    unfold pnN;rw [eqs];exact (Qj7 qs).symm
   rw [<- e];exact ⟨Qf7 hbs,Nat.le_trans hbs.cnt (by omega)⟩
  have HG2:=Qaa (Old.trans HG1.out O2);have HRG2:=Qaa (hrg.old O2);have A2:=Qaa (A1.out.old O2);have B2:=Qaa (B1.out.old O2);have R2:=Qaa (R1.out.old O2);obtain ⟨kr,hkr⟩:∃k,w1.heap.size=k:=⟨_,rfl⟩
  rw [hkr] at BX2;have z0:=A2.out.c (i:=0) rfl;have K2:=Qaa (Qtb Nn T E a0 ps.length c0 g a l c a1 c1 W2 ps Rf xsss au cu uf cf HLL.out HR.out (HPA.out.old HG2.out) HRG2.out hsp hNn hps);have K4:=Qaa (fun W (q:Old W2 W)=>Qtb Nn T E a0 ps.length c0 g a l c a2 c2 W ps Rf ysss au2 cu2 uf2 cf2 HL2.out HR2.out (HPA2.out.old (Old.trans HG2.out q)) (HRG2.out.old q) hsp hNn hps)
  have HC1:Hid ((ciB Nn ps xsss&&decide (xsss.length=2))=true->Gr Nn ps (xsss.getD 0 [])/\Gr Nn ps (xsss.getD 1 [])):=fun h=>by
   rw [Bool.and_eq_true,decide_eq_true_eq] at h;exact ⟨Qjh hbb (Qcz ((rd_true h.1).2 0 (by omega))).1 (Qon h.1 0 (by omega)),Qjh hbb (Qcz ((rd_true h.1).2 1 (by omega))).1 (Qon h.1 1 (by omega))⟩
  have HC2:Hid ((ciB Nn ps ysss&&decide (ysss.length=2))=true->Gr Nn ps (ysss.getD 0 [])/\Gr Nn ps (ysss.getD 1 [])):=fun h=>by
   rw [Bool.and_eq_true,decide_eq_true_eq] at h;exact ⟨Qjh hbb (Qcz ((rd_true h.1).2 0 (by omega))).1 (Qon h.1 0 (by omega)),Qjh hbb (Qcz ((rd_true h.1).2 1 (by omega))).1 (Qon h.1 1 (by omega))⟩
  rw [hB,Bool.true_and] at HY HNN;obtain ⟨b1,hb1⟩:∃b,(ciB Nn ps xsss&&decide (xsss.length=2))=b:=⟨_,rfl⟩
  obtain ⟨b2,hb2⟩:∃b,(ciB Nn ps ysss&&decide (ysss.length=2))=b:=⟨_,rfl⟩
  rw [hb1] at K2 HC1;rw [hb2] at K4 HC2;rw [hb1,hb2] at HY HNN;clear hB O2 A1 B1 R1 HG1 hrg hg hsp hz4 hbb hNn hps eqs hbs hll hown hb1 hb2;have x0:=BX2.out.c (i:=0) rfl;have x1:=BX2.out.c (i:=1) rfl;have x2:=BX2.out.c (i:=2) rfl;have x3:=BX2.out.c (i:=3) rfl;have x4:=BX2.out.c (i:=4) rfl;have x5:=BX2.out.c (i:=5) rfl;have x6:=BX2.out.c (i:=6) rfl;go_wp2_with fail;refine K2.out.mono ?_
  rintro e w3 ⟨g3,p0,l0,d0,p1,l1,d1,rfl,hF⟩;obtain ⟨W4,hW4⟩:∃B:World,w3.alloc (.cells #[.slice p0 l0 d0,.slice p1 l1 d1] 67)=B:=⟨_,rfl⟩
  have A4:Old w3 W4:=by rw [<- hW4];exact (Old.refl w3).alloc _
  have T4:Hid (Bk W4 w3.heap.size #[.slice p0 l0 d0,.slice p1 l1 d1] 67):=by rw [<- hW4];exact Bk.new' w3 _ _ rfl
  have O4:=Qaa (Old.trans g3 A4)
  have HF4:Hid (b1=true->l0=ps.length/\d0=ps.length/\l1=ps.length/\d1=ps.length/\R2M Nn ps Rf xsss W4 p0 p1):=fun h=>by
   obtain ⟨h1,h2,h3,h4,h5⟩:=hF h;exact ⟨h1,h2,h3,h4,h5.old A4⟩
  have BX4:=Qaa (BX2.out.old O4.out);have B4:=Qaa (B2.out.old O4.out);have R4:=Qaa (R2.out.old O4.out);obtain ⟨kt,hkt⟩:∃k,w3.heap.size=k:=⟨_,rfl⟩
  rw [hkt] at T4;clear g3 A4 hF BX2 A2 B2 R2 hW2 hkr K2 z0 x0 x1 x2 x3 x4 x5 x6;have z0:=B4.out.c (i:=0) rfl;have x0:=BX4.out.c (i:=0) rfl;have x1:=BX4.out.c (i:=1) rfl;have x2:=BX4.out.c (i:=2) rfl;have x3:=BX4.out.c (i:=3) rfl;have x4:=BX4.out.c (i:=4) rfl;have x5:=BX4.out.c (i:=5) rfl;have x6:=BX4.out.c (i:=6) rfl;go_wp2_with fail;refine (K4.out _ O4.out).mono ?_
  rintro e w5 ⟨g5,s0,n0,e0,s1,n1,e1,rfl,hF⟩;obtain ⟨W6,hW6⟩:∃B:World,w5.alloc (.cells #[.slice s0 n0 e0,.slice s1 n1 e1] 67)=B:=⟨_,rfl⟩
  have A6:Old w5 W6:=by rw [<- hW6];exact (Old.refl w5).alloc _
  have U6:Hid (Bk W6 w5.heap.size #[.slice s0 n0 e0,.slice s1 n1 e1] 67):=by rw [<- hW6];exact Bk.new' w5 _ _ rfl
  have O46:=Old.trans g5 A6;have O6:=Qaa (Old.trans O4.out O46);have HG6:=Qaa (Old.trans HG2.out O6.out)
  have HF6:Hid (b1=true->l0=ps.length/\d0=ps.length/\l1=ps.length/\d1=ps.length/\R2M Nn ps Rf xsss W6 p0 p1):=fun h=>by
   obtain ⟨h1,h2,h3,h4,h5⟩:=HF4.out h;exact ⟨h1,h2,h3,h4,h5.old O46⟩
  have HE6:Hid (b2=true->n0=ps.length/\e0=ps.length/\n1=ps.length/\e1=ps.length/\R2M Nn ps Rf ysss W6 s0 s1):=fun h=>by
   obtain ⟨h1,h2,h3,h4,h5⟩:=hF h;exact ⟨h1,h2,h3,h4,h5.old A6⟩
  have BX6:=Qaa (BX4.out.old O46);have T6:=Qaa (T4.out.old O46);have R6:=Qaa (R4.out.old O46);obtain ⟨ku,hku⟩:∃k,w5.heap.size=k:=⟨_,rfl⟩
  rw [hku] at U6;clear g5 A6 hF O46 BX4 B4 R4 T4 HF4 O4 K4 hW4 hkt z0 x0 x1 x2 x3 x4 x5 x6
  by_cases hbb:(b1&&b2)=true
  case neg=>
   rw [Bool.not_eq_true] at hbb;have HB:=Qaa (HNN.out hbb);have f0:W6.frozen? ⟨kp+1+1+1,0,none⟩=false:=frozen_of_row _ _ _ _ _ R6.out
   have y0:=R6.out.c (i:=0) rfl;clear HY HNN HF6 HE6 HC1 HC2
   cases b1
   case' true=>cases b2
   case' true.true=>cases hbb
   all_goals
    clear hbb;go_wp2_with fail;have q0:=(Qgi R6.out (.slice none 0 0)).c (i:=0) rfl;exact bodyPost_ret (v:=.tuple #[.agg #[.slice none 0 0],.bool false]) (by simp [results,Tryz.results9,go_sem,q0]) rfl (FINH.out _ HB HG6)
  case pos=>
   obtain ⟨eZ,eok⟩:=HY.out hbb;rw [Bool.and_eq_true] at hbb;obtain ⟨rfl,rfl⟩:=hbb;obtain ⟨rfl,rfl,rfl,rfl,hx0,hx1⟩:=HF6.out rfl;obtain ⟨rfl,rfl,rfl,rfl,hy0,hy1⟩:=HE6.out rfl;obtain ⟨gx0,gx1⟩:=HC1.out rfl;obtain ⟨gy0,gy1⟩:=HC2.out rfl;have KM:=Qaa (Ql5 Nn T E a0 c0 g a l c ps Rf (xsss.getD 0 []) (xsss.getD 1 []) (ysss.getD 0 []) (ysss.getD 1 []) p0 p1 s0 s1 ps.length ps.length ps.length ps.length W6 (HV.out.1.old HG6.out) HV.out.2 HN16.out HPS.out HPB.out (by have:=Qy5 HBB.out;omega) (HRG2.out.old O6.out) (HQ2.out.old O6.out) HQP.out.1 HQP.out.2 gx0 gx1 gy0 gy1 hx0 hx1 hy0 hy1);have hz3:(mcZ Nn T ps xsss ysss).length=3:=rfl;obtain ⟨ZL,hZL⟩:∃z,mcZ Nn T ps xsss ysss=z:=⟨_,rfl⟩
   have HZ:Hid (∀j,j<ZL.length->(ZL.getD j []).length=ps.length):=fun j hj=>by
    rw [<- hZL] at hj ⊢;exact Qya Nn T ps xsss ysss j hj
   have en:((Nn:Nat):Int).toNat=Nn:=rfl;rw [en,hZL] at eZ
   have HEND:Hid (∀w' r0,Old w w'->XC ZL w' w.heap.size w'.heap.size r0->CiA Z ok w (.returned (.tuple #[.agg r0,.bool true])) w'):=fun w' r0 h1 h2=>by
    rw [eZ,eok];exact ⟨r0,rfl,h1,h2⟩
   obtain ⟨Z0,hZ0⟩:∃z,rwZ (scF (pzF (ctZ ps (xsss.getD 0 [])) (ctZ ps (ysss.getD 0 [])) Nn) T (Qae (pnN ps))) Nn ps=z:=⟨_,rfl⟩
   obtain ⟨Z1,hZ1⟩:∃z,rwZ (scF (fun k=>pzF (ctZ ps (xsss.getD 0 [])) (ctZ ps (ysss.getD 1 [])) Nn k+pzF (ctZ ps (xsss.getD 1 [])) (ctZ ps (ysss.getD 0 [])) Nn k) T (Qae (pnN ps))) Nn ps=z:=⟨_,rfl⟩
   obtain ⟨Z2,hZ2⟩:∃z,rwZ (scF (pzF (ctZ ps (xsss.getD 1 [])) (ctZ ps (ysss.getD 1 [])) Nn) T (Qae (pnN ps))) Nn ps=z:=⟨_,rfl⟩
   rw [hZ0,hZ1,hZ2] at KM
   have HZLe:Hid ([Z0,Z1,Z2]=ZL):=by
    show _ = _
    rw [<- hZL,<- hZ0,<- hZ1,<- hZ2];rfl
   have HZLn:Hid (ZL.length=3):=by show _ = _;rw [<- hZL];rfl
   clear hz3 hZL en eZ eok hZ0 hZ1 hZ2 hx0 hx1 hy0 hy1 gx0 gx1 gy0 gy1 HF6 HE6 HC1 HC2 HY HNN;have x0:=BX6.out.c (i:=0) rfl;have x1:=BX6.out.c (i:=1) rfl;have x2:=BX6.out.c (i:=2) rfl;have x3:=BX6.out.c (i:=3) rfl;have x4:=BX6.out.c (i:=4) rfl;have x5:=BX6.out.c (i:=5) rfl;have x6:=BX6.out.c (i:=6) rfl;have t0:=T6.out.c (i:=0) rfl;have t1:=T6.out.c (i:=1) rfl;have u0:=U6.out.c (i:=0) rfl;have u1:=U6.out.c (i:=1) rfl;go_wp2_with fail;refine KM.out.mono ?_
   rintro e w6 ⟨b0,b1,b2,m1,m2,rfl,g6,hm1,hm2,hm3,ow0,ow1,ow2⟩;have KPt:=Qaa (Qp6 Nn ps Rf Z0 Z1 Z2 W6.heap.size m1 m2 w6.heap.size _ _ _ _ _ _ _ _ _ w6 ow0 ow1 ow2 hm1 hm2 hm3);have G6:=Qaa g6;clear g6 hm1 hm2 hm3 ow0 ow1 ow2 KM BX6 T6 U6 x0 x1 x2 x3 x4 x5 x6 t0 t1 u0 u1;go_wp2_with fail;refine KPt.out.mono ?_
   rintro e w7 ⟨p7,rfl,g7,o7⟩;rw [HZLe.out] at o7;have cc:=Qlh Nn false ps Rf ZL W6.heap.size (.slice (some ⟨p7,0,none⟩) 3 3) w7 (by have:=HPS.out;omega) (by rw [HZLn.out];omega) HZ.out (by rw [HZLn.out];exact o7) (Nat.le_trans G6.out.size g7.size);have HCC:Hid (Calls Tryz.prog 28 #[.slice (some ⟨p7,0,none⟩) 3 3] w7 fun e w'=>∃r0,e=.returned (.agg r0)/\Old w7 w'/\XC ZL w' W6.heap.size w'.heap.size r0):=cc;have HG7:=Qaa (Old.trans (Old.trans HG6.out G6.out) g7);have R7:=Qaa (R6.out.old (Old.trans G6.out g7));have HS5:Hid (kp+1+1+1<W6.heap.size):=R6.out.lt;clear cc g7 o7 KPt G6 R6 HG6 HZLe;go_wp2_with fail;refine HCC.out.mono ?_
   rintro e w8 ⟨r0,rfl,g8,x8⟩;obtain ⟨a5,c5,rfl⟩:=Qfm _ _ _ _ x8;have HG8:=Qaa (Old.trans HG7.out g8);have R8:=Qaa (R7.out.old g8);have HX8:Hid (XC ZL w8 W6.heap.size w8.heap.size #[.slice a5 ZL.length c5]):=x8;have y0:=R8.out.c (i:=0) rfl;have f0:w8.frozen? ⟨kp+1+1+1,0,none⟩=false:=frozen_of_row _ _ _ _ _ R8.out
   have HW5:Hid (w.heap.size<=W6.heap.size):=by have:=HS5.out;have:=HKP.out;show w.heap.size<=W6.heap.size;omega
   clear g8 x8 HCC R7 HG7;go_wp2_with fail;have q0:=(Qgi R8.out (.slice a5 ZL.length c5)).c (i:=0) rfl;refine bodyPost_ret (v:=.tuple #[.agg #[.slice a5 ZL.length c5],.bool true]) (by simp [results,Tryz.results9,go_sem,q0]) rfl (HEND.out _ _ (HG8.out.own (p:=⟨kp+1+1+1,0,none⟩) (by have:=HKP.out;show w.heap.size<=kp+1+1+1;omega) _) ?_);obtain ⟨a6,c6,e6,o6⟩:=HX8.out;simp at e6;obtain ⟨rfl,rfl⟩:=e6;refine ⟨a5,c5,rfl,?_⟩;have h2:=o6.putT (k:=kp+1+1+1) (j:=0) (x:=.slice a5 ZL.length c5) (.inl HS5.out);exact h2.low (lo':=w.heap.size) HW5.out (by simp) (Nat.le_refl _)
theorem OwS.owsM {xss:List (List Int)} {W:World} {lo hi:Nat} {v:Value} (h:OwS xss W lo hi v):Ows (TSS xss) W lo hi [v]:=⟨h.1,h.tss⟩
theorem Q0s {W W':World} {k:Nat} {x:Value} {t:TypeId} (h:Bk W k #[x] t) (q:Old W W'):(∀o,(W'.alloc o).cell? ⟨k,0,none⟩=some x)/\(∀o,(W'.alloc o).frozen? ⟨k,0,none⟩=false)/\∀o,Bk (W'.alloc o) k #[x] t:=⟨fun o=>((h.old q).alloc o).c (i:=0) rfl,fun o=>frozen_of_row _ _ _ _ _ ((h.old q).alloc o),fun o=>(h.old q).alloc o⟩
theorem Qzu {z0 z1 z2:List (List Int)} {w:World} {lo m1 m2 hi:Nat} {s0 s1 s2:Value} (h0:Ows (TSS z0) w lo m1 [s0]) (h1:Ows (TSS z1) w m1 m2 [s1]) (h2:Ows (TSS z2) w m2 hi [s2]) (hl1:lo≤m1) (hl2:m1≤m2) (hl3:m2≤hi) :
  Ows (TTT [z0,z1,z2]) (w.alloc (.cells #[s0,s1,s2] 49)) lo (w.alloc (.cells #[s0,s1,s2] 49)).heap.size [.slice (some ⟨w.heap.size,0,none⟩) 3 3]:=by
 have hh0:=h0.1;have hh1:=h1.1;have hh2:=h2.1;have O:Old w (w.alloc (.cells #[s0,s1,s2] 49)):=(Old.refl w).alloc _;obtain ⟨_,B0,t0,b0⟩:=Ows.old (Qb6 _) h0 O;obtain ⟨_,B1,t1,b1⟩:=Ows.old (Qb6 _) h1 O;obtain ⟨_,B2,t2,b2⟩:=Ows.old (Qb6 _) h2 O;have hrow:=World.ownsRow_lit (base:=0) (e:=49) (size:=1) w #[s0,s1,s2] 3 (Nat.zero_le _) (by unfold maxLen;omega) rfl;have hs:(w.alloc (.cells #[s0,s1,s2] 49)).heap.size=w.heap.size+1:=by simp
 have hb:∀j b,j<3->(fun j=>if j=0 then B0 else if j=1 then B1 else B2) j b->(if j=0 then lo else if j=1 then m1 else m2)<=b/\b<(if j=0 then m1 else if j=1 then m2 else hi):=fun j b hj h=>by
  rcases (show j=0∨j=1∨j=2 by omega) with rfl | rfl | rfl
  ·exact b0 b h
  ·exact b1 b h
  ·exact b2 b h
 refine ⟨Nat.le_refl _,fun b=>b=w.heap.size∨∃j,j<3/\(fun j=>if j=0 then B0 else if j=1 then B1 else B2) j b,.inr ⟨w.heap.size,3,[s0,s1,s2],fun j=>if j=0 then B0 else if j=1 then B1 else B2,rfl,⟨hrow,fun j hj=>?_,fun j hj h=>?_,fun i j hi' hj' hij b p1 p2=>?_⟩,fun b=>Iff.rfl⟩,fun b h=>?_⟩
 ·rcases (show j=0∨j=1∨j=2 by simp at hj;omega) with rfl | rfl | rfl
  ·exact t0
  ·exact t1
  ·exact t2
 ·have:=hb j _ (by simpa using hj) h;rcases (show j=0∨j=1∨j=2 by simp at hj;omega) with rfl | rfl | rfl <;> simp at this <;> omega
 ·have q1:=hb i b (by simpa using hi') p1;have q2:=hb j b (by simpa using hj') p2;rcases (show i=0∨i=1∨i=2 by simp at hi';omega) with rfl | rfl | rfl <;> rcases (show j=0∨j=1∨j=2 by simp at hj';omega) with rfl | rfl | rfl <;> simp at q1 q2 hij <;> omega
 ·rcases h with rfl | ⟨j,hj,h⟩
  ·omega
  ·have:=hb j b hj h;rcases (show j=0∨j=1∨j=2 by omega) with rfl | rfl | rfl <;> simp at this <;> omega
def miF (f g:Nat->Int) (k:Nat):Nat->Int:=fun j=>if j<k then f j+g j else f j
theorem Qu7 (f g:Nat->Int):miF f g 0=f:=by
 funext j
 exact if_neg (by omega)
theorem Qzv (f g:Nat->Int) (k:Nat):miF f g (k+1) k=f k+g k:=if_pos (by omega)
theorem Qyb (f g:Nat->Int) (k:Nat):miF f g k k=f k:=if_neg (by omega)
theorem Qyc (f g:Nat->Int) (k j:Nat) (h:j≠k):miF f g (k+1) j=miF f g k j:=by
 unfold miF
 by_cases h1:j<k
 ·rw [if_pos h1,if_pos (by omega)]
 ·rw [if_neg h1,if_neg (by omega)]
theorem Qyd (f g:Nat->Int) (n:Nat):∀k,k<n->f k+g k=miF f g n k:=fun k hk=>(if_pos hk).symm
theorem Qe8 (N T E:Int) (ps:List Int) (xsss ysss:List (List (List Int))) (v u u2:Value) (w:World) (hv:Row w v ps) (hf:Fit v) (hu:Qid w u xsss) (ht:Qid w u2 ysss) (hlp:ps.length≤9223372036854775807) (hl:xsss.length≤1048576) (hr:∀r∈xsss,r.length≤1048576∧∀q∈r,q.length≤1048576) (hl2:ysss.length≤1048576) (hr2:∀r∈ysss,r.length≤1048576∧∀q∈r,q.length≤1048576) (hx:∀x∈ps,-9223372036854775808≤x∧x≤9223372036854775807) (Z:List (List (List Int))) (ok:Bool) (hy:(prB N T E ps&&(ciB N ps xsss&&decide (xsss.length=2))&&(ciB N ps ysss&&decide (ysss.length=2)))=true→Z=mcZ N.toNat T ps xsss ysss∧ok=true) (hn:(prB N T E ps&&(ciB N ps xsss&&decide (xsss.length=2))&&(ciB N ps ysss&&decide (ysss.length=2)))=false→Z=[]∧ok=false) :
  Calls Tryz.prog 6 #[.agg #[.int .i64 N,.int .i64 T,.int .i64 E,v],.agg #[u],.agg #[u2]] w (CiA Z ok w):=by
 have HY:Hid ((prB N T E ps&&(ciB N ps xsss&&decide (xsss.length=2))&&(ciB N ps ysss&&decide (ysss.length=2)))=true->Z=mcZ N.toNat T ps xsss ysss/\ok=true):=hy;have HNN:Hid ((prB N T E ps&&(ciB N ps xsss&&decide (xsss.length=2))&&(ciB N ps ysss&&decide (ysss.length=2)))=false->Z=[]/\ok=false):=hn;clear hy hn;have KG:=Qaa (fun W (g:Old w W)=>Qhk N T E ps xsss v u W (hv.old g) hf (hu.old g) hlp hl hr hx);have KP:=Qaa (fun (hs:spB N ps=true) W (g:Old w W)=>Qgh N T E ps ysss v u2 W (hv.old g) (ht.old g) hl2 hr2 hs);have HV:=Qaa hv;have HU:=Qaa hu;have HT:=Qaa ht;obtain ⟨a0,c0,rfl⟩:=hv.slice;obtain ⟨a1,c1,rfl⟩:=hu.slice;obtain ⟨a2,c2,rfl⟩:=ht.slice;obtain ⟨W1,hW1⟩:∃B:World,(((w.alloc (.cells #[.int .i64 N,.int .i64 T,.int .i64 E,.slice a0 ps.length c0] 33)).alloc (.cells #[.slice a1 xsss.length c1] 30)).alloc (.cells #[.slice a2 ysss.length c2] 30)).alloc (.cells #[.slice none 0 0] 30)=B:=⟨_,rfl⟩
 have O1:Hid (Old w W1):=by rw [<- hW1];exact ((((Old.refl w).alloc _).alloc _).alloc _).alloc _
 have P1:Hid (Bk W1 w.heap.size #[.int .i64 N,.int .i64 T,.int .i64 E,.slice a0 ps.length c0] 33):=by rw [<- hW1];exact (((Bk.new' w _ _ rfl).alloc _).alloc _).alloc _
 have C1:Hid (Bk W1 (w.heap.size+1) #[.slice a1 xsss.length c1] 30):=by rw [<- hW1];exact ((Bk.new' _ _ _ (by simp)).alloc _).alloc _
 have D1:Hid (Bk W1 (w.heap.size+1+1) #[.slice a2 ysss.length c2] 30):=by rw [<- hW1];exact (Bk.new' _ _ _ (by simp)).alloc _
 have R1:Hid (Bk W1 (w.heap.size+1+1+1) #[.slice none 0 0] 30):=by rw [<- hW1];exact Bk.new' _ _ _ (by simp)
 obtain ⟨kp,hkp⟩:∃k,w.heap.size=k:=⟨_,rfl⟩
 have HKP:=Qaa hkp;rw [hkp] at P1 C1 D1 R1
 have FINH:Hid (∀w5,Hid (Z=[]/\ok=false)->Hid (Old w w5)->CiA Z ok w (.returned (.tuple #[.agg #[.slice none 0 0],.bool false])) (w5.setCell ⟨kp+1+1+1,0,none⟩ (.slice none 0 0))):=fun w5 hb g=>by
  rw [hb.out.1,hb.out.2];exact ⟨_,rfl,g.out.own (p:=⟨kp+1+1+1,0,none⟩) (by have:=HKP.out;show w.heap.size<=kp+1+1+1;omega) _,XC.nil2 (Nat.le_refl _)⟩
 have p0:=P1.out.c (i:=0) rfl;have p1:=P1.out.c (i:=1) rfl;have p2:=P1.out.c (i:=2) rfl;have p3:=P1.out.c (i:=3) rfl;have z0:=C1.out.c (i:=0) rfl;have KG1:=Qaa (KG.out W1 O1.out);clear hv hf hu ht hl hr hl2 hr2 hx hlp KG;go_enter Tryz.func6,Tryz.ntmps6;go_wp2_with fail;refine KG1.out.mono ?_
 rintro e w2 ⟨rfl,g2⟩;have G2:=Qaa (Old.trans O1.out g2);have P2:=Qaa (P1.out.old g2);have C2:=Qaa (C1.out.old g2);have D2:=Qaa (D1.out.old g2);have R2:=Qaa (R1.out.old g2);clear g2 P1 C1 D1 R1 O1 p0 p1 p2 p3 z0 hW1 hkp KG1
 cases hb:(prB N T E ps&&ciB N ps xsss)
 ·have HB:Hid (Z=[]∧ok=false):=HNN.out (by
   cases h1:prB N T E ps
   ·rfl
   ·rw [h1,Bool.true_and] at hb;rw [hb];rfl)
  clear hb;have f0:w2.frozen? ⟨kp+1+1+1,0,none⟩=false:=frozen_of_row _ _ _ _ _ R2.out
  have y0:=R2.out.c (i:=0) rfl;go_wp2_with fail;have q0:=(Qgi R2.out (.slice none 0 0)).c (i:=0) rfl;exact bodyPost_ret (v:=.tuple #[.agg #[.slice none 0 0],.bool false]) (by simp [results,Tryz.results6,go_sem,q0]) rfl (FINH.out _ HB G2)
 rw [Bool.and_eq_true] at hb;have HPB:=Qaa hb.1;have HCB:=Qaa hb.2;have hsp:=Qok hb.1;clear hb;have p0:=P2.out.c (i:=0) rfl;have p1:=P2.out.c (i:=1) rfl;have p2:=P2.out.c (i:=2) rfl;have p3:=P2.out.c (i:=3) rfl;have z0:=C2.out.c (i:=0) rfl;have z1:=D2.out.c (i:=0) rfl;have KP2:=Qaa (KP.out hsp w2 G2.out);have HSP:=Qaa hsp;clear hsp KP;go_wp2_with fail;refine KP2.out.mono ?_
 rintro e w3 ⟨rfl,g3⟩;have G3:=Qaa (Old.trans G2.out g3);have P3:=Qaa (P2.out.old g3);have C3:=Qaa (C2.out.old g3);have D3:=Qaa (D2.out.old g3);have R3:=Qaa (R2.out.old g3);clear g3 P2 C2 D2 R2 p0 p1 p2 p3 z0 z1 KP2 G2
 cases hb:ciB N ps ysss
 ·have HB:Hid (Z=[]∧ok=false):=HNN.out (by rw [hb,Bool.false_and,Bool.and_false]);clear hb;have f0:w3.frozen? ⟨kp+1+1+1,0,none⟩=false:=frozen_of_row _ _ _ _ _ R3.out
  have y0:=R3.out.c (i:=0) rfl;go_wp2_with fail;have q0:=(Qgi R3.out (.slice none 0 0)).c (i:=0) rfl;exact bodyPost_ret (v:=.tuple #[.agg #[.slice none 0 0],.bool false]) (by simp [results,Tryz.results6,go_sem,q0]) rfl (FINH.out _ HB G3)
 have HDB:=Qaa hb;clear hb;have z0:=C3.out.c (i:=0) rfl;have z1:=D3.out.c (i:=0) rfl
 by_cases h2:xsss.length=2
 case neg=>
  have HB:Hid (Z=[]/\ok=false):=HNN.out (by rw [decide_eq_false h2,Bool.and_false,Bool.and_false,Bool.false_and])
  have d:((xsss.length:Int) != 2)=true:=by
   have:¬(xsss.length:Int)=2:=by omega
   exact bne_iff_ne.2 this
  clear h2;have f0:w3.frozen? ⟨kp+1+1+1,0,none⟩=false:=frozen_of_row _ _ _ _ _ R3.out
  have y0:=R3.out.c (i:=0) rfl;go_wp2_with fail;have q0:=(Qgi R3.out (.slice none 0 0)).c (i:=0) rfl;exact bodyPost_ret (v:=.tuple #[.agg #[.slice none 0 0],.bool false]) (by simp [results,Tryz.results6,go_sem,q0]) rfl (FINH.out _ HB G3)
 have H2:=Qaa h2;rw [h2] at z0;clear h2
 by_cases h2:ysss.length=2
 case neg=>
  have HB:Hid (Z=[]/\ok=false):=HNN.out (by rw [decide_eq_false h2,Bool.and_false,Bool.and_false])
  have d:((ysss.length:Int) != 2)=true:=by
   have:¬(ysss.length:Int)=2:=by omega
   exact bne_iff_ne.2 this
  clear h2;have f0:w3.frozen? ⟨kp+1+1+1,0,none⟩=false:=frozen_of_row _ _ _ _ _ R3.out
  have y0:=R3.out.c (i:=0) rfl;go_wp2_with fail;have q0:=(Qgi R3.out (.slice none 0 0)).c (i:=0) rfl;exact bodyPost_ret (v:=.tuple #[.agg #[.slice none 0 0],.bool false]) (by simp [results,Tryz.results6,go_sem,q0]) rfl (FINH.out _ HB G3)
 have H3:=Qaa h2;rw [h2] at z1;clear h2;obtain ⟨eZ,eok⟩:=HY.out (by rw [HPB.out,HCB.out,HDB.out,decide_eq_true H2.out,decide_eq_true H3.out];rfl);obtain ⟨hz4,hbb,_⟩:=Qdw HSP.out;obtain ⟨Nn,rfl⟩:∃Nn:Nat,N=(Nn:Int):=⟨N.toNat,by omega⟩
 have hNn:2<=Nn/\Nn<=16:=by omega
 have hps:=(Qc8 hbb).1;have hpb:∀k,k<ps.length->2<=ps.getD k 0/\ps.getD k 0<=268435456:=fun k hk=>Qq8 ((Qc8 hbb).2 k hk)
 obtain ⟨hmx,hBx⟩:=rd_true HCB.out;obtain ⟨hmy,hBy⟩:=rd_true HDB.out;have h2:=H2.out;have h3:=H3.out;have gx:∀j,j<2->Gr Nn ps (xsss.getD j []):=fun j hj=>Qjh hbb (Qcz (hBx j (by omega))).1 (Qr6 (hBx j (by omega)))
 have gy:∀j,j<2->Gr Nn ps (ysss.getD j []):=fun j hj=>Qjh hbb (Qcz (hBy j (by omega))).1 (Qr6 (hBy j (by omega)))
 have hTT:=Qy5 HPB.out;obtain ⟨ep,hbas⟩:=(gx 0 (by omega)).ps;rcases HU.out with ⟨_,_,_,e2⟩ | ⟨b,o,cap,us,e,hb0,h00,hc⟩
 ·rw [e2] at h2;simp at h2
 obtain ⟨rfl,rfl⟩:a1=some ⟨b,o,none⟩/\c1=cap:=by simpa using e
 rcases HT.out with ⟨_,_,_,e2⟩ | ⟨b',o',cap',us',e',hb0',h00',hc'⟩
 ·rw [e2] at h3;simp at h3
 obtain ⟨rfl,rfl⟩:a2=some ⟨b',o',none⟩/\c2=cap':=by simpa using e'
 obtain ⟨q0,r0⟩:=hc 0 (by omega);obtain ⟨q1,r1⟩:=hc 1 (by omega);obtain ⟨q2,r2⟩:=hc' 0 (by omega);obtain ⟨q3,r3⟩:=hc' 1 (by omega);obtain ⟨x0,m0,e0⟩:=r0.slice;obtain ⟨x1,m1,e1⟩:=r1.slice;obtain ⟨y0,e0',e2⟩:=r2.slice;obtain ⟨y1,e1',e3⟩:=r3.slice;rw [e0] at q0 r0;rw [e1] at q1 r1;rw [e2] at q2 r2;rw [e3] at q3 r3;have hN1:1<=Nn/\Nn<=16:=by omega
 have KA:=Qaa (fun W (g:Old w W)=>(Qc1 Nn ps (xsss.getD 0 []) (.slice a0 ps.length c0) _ W (HV.out.old g) (r0.old g) hN1 hps (gx 0 (by omega))).mono fun e w' h=>(⟨h.choose,h.choose_spec.1,h.choose_spec.2.1,Qu3 (by omega) (gx 0 (by omega)) h.choose_spec.2.2⟩:∃v',e=.returned v'/\Old W w'/\Zr (ctZ ps (xsss.getD 0 [])) Nn w' v'));have KB:=Qaa (fun W (g:Old w W)=>(Qc1 Nn ps (xsss.getD 1 []) (.slice a0 ps.length c0) _ W (HV.out.old g) (r1.old g) hN1 hps (gx 1 (by omega))).mono fun e w' h=>(⟨h.choose,h.choose_spec.1,h.choose_spec.2.1,Qu3 (by omega) (gx 1 (by omega)) h.choose_spec.2.2⟩:∃v',e=.returned v'/\Old W w'/\Zr (ctZ ps (xsss.getD 1 [])) Nn w' v'));have KCC:=Qaa (fun W (g:Old w W)=>(Qc1 Nn ps (ysss.getD 0 []) (.slice a0 ps.length c0) _ W (HV.out.old g) (r2.old g) hN1 hps (gy 0 (by omega))).mono fun e w' h=>(⟨h.choose,h.choose_spec.1,h.choose_spec.2.1,Qu3 (by omega) (gy 0 (by omega)) h.choose_spec.2.2⟩:∃v',e=.returned v'/\Old W w'/\Zr (ctZ ps (ysss.getD 0 [])) Nn w' v'));have KD:=Qaa (fun W (g:Old w W)=>(Qc1 Nn ps (ysss.getD 1 []) (.slice a0 ps.length c0) _ W (HV.out.old g) (r3.old g) hN1 hps (gy 1 (by omega))).mono fun e w' h=>(⟨h.choose,h.choose_spec.1,h.choose_spec.2.1,Qu3 (by omega) (gy 1 (by omega)) h.choose_spec.2.2⟩:∃v',e=.returned v'/\Old W w'/\Zr (ctZ ps (ysss.getD 1 [])) Nn w' v'));have KL:=fun A B (hA:Bd A Nn 7) (hB:Bd B Nn 7) W u v (hu:Zr A Nn W u) (hv:Zr B Nn W v)=>Qnl A B Nn u v W hN1 hA hB hu hv
 obtain ⟨Tn,hTn⟩:∃Tn:Nat,T=Tn:=⟨T.toNat,by omega⟩
 have KC:=fun f (hf:Bd f Nn 16) W u (g:Old w W) (hu:Zr f Nn W u)=>Qp7 (Nn:Int) Tn E ps f Nn (.slice a0 ps.length c0) u W (HV.out.old g) hu hN1 hf (by omega) hps hpb ep hbas
 rw [<- hTn] at KC;have K00:=Qaa (KL (ctZ ps (xsss.getD 0 [])) (ctZ ps (ysss.getD 0 [])) (fun k hk=>Qa5 (gx 0 (by omega)) k hk) (fun k hk=>Qa5 (gy 0 (by omega)) k hk));have hP00:=Qe0 hN1.2 (fun k hk=>Qa5 (gx 0 (by omega)) k hk) (fun k hk=>Qa5 (gy 0 (by omega)) k hk) Nn;have K01:=Qaa (KL (ctZ ps (xsss.getD 0 [])) (ctZ ps (ysss.getD 1 [])) (fun k hk=>Qa5 (gx 0 (by omega)) k hk) (fun k hk=>Qa5 (gy 1 (by omega)) k hk));have hP01:=Qe0 hN1.2 (fun k hk=>Qa5 (gx 0 (by omega)) k hk) (fun k hk=>Qa5 (gy 1 (by omega)) k hk) Nn;have K10:=Qaa (KL (ctZ ps (xsss.getD 1 [])) (ctZ ps (ysss.getD 0 [])) (fun k hk=>Qa5 (gx 1 (by omega)) k hk) (fun k hk=>Qa5 (gy 0 (by omega)) k hk));have hP10:=Qe0 hN1.2 (fun k hk=>Qa5 (gx 1 (by omega)) k hk) (fun k hk=>Qa5 (gy 0 (by omega)) k hk) Nn;have K11:=Qaa (KL (ctZ ps (xsss.getD 1 [])) (ctZ ps (ysss.getD 1 [])) (fun k hk=>Qa5 (gx 1 (by omega)) k hk) (fun k hk=>Qa5 (gy 1 (by omega)) k hk));have hP11:=Qe0 hN1.2 (fun k hk=>Qa5 (gx 1 (by omega)) k hk) (fun k hk=>Qa5 (gy 1 (by omega)) k hk) Nn;have KZ0:=Qaa (KC _ (fun k hk=>Nat.le_trans (hP00 k hk) (by omega)));have KZ1:=Qaa (KC (fun k=>pzF (ctZ ps (xsss.getD 0 [])) (ctZ ps (ysss.getD 1 [])) Nn k+pzF (ctZ ps (xsss.getD 1 [])) (ctZ ps (ysss.getD 0 [])) Nn k) (fun k hk=>Qs5 (hP01 k hk) (hP10 k hk)));have KZ2:=Qaa (KC _ (fun k hk=>Nat.le_trans (hP11 k hk) (by omega)));clear hP00 hP11;have KS:=Qaa (fun W=>Qby (Nn:Int) T E a0 ps.length c0 W);have en:((Nn:Nat):Int).toNat=Nn:=rfl;rw [en] at eZ;obtain ⟨ZL,hZL⟩:∃z,mcZ Nn T ps xsss ysss=z:=⟨_,rfl⟩
 rw [hZL] at eZ
 have HEND:Hid (∀w' r0,Old w w'->XC ZL w' w.heap.size w'.heap.size r0->CiA Z ok w (.returned (.tuple #[.agg r0,.bool true])) w'):=fun w' r0 h1 h2=>by
  rw [eZ,eok];exact ⟨r0,rfl,h1,h2⟩
 unfold mcZ at hZL;generalize rwZ (scF (pzF (ctZ ps (xsss.getD 0 [])) (ctZ ps (ysss.getD 0 [])) Nn) T (Qae (pnN ps))) Nn ps=Z0 at *;generalize rwZ (scF (fun k=>pzF (ctZ ps (xsss.getD 0 [])) (ctZ ps (ysss.getD 1 [])) Nn k+pzF (ctZ ps (xsss.getD 1 [])) (ctZ ps (ysss.getD 0 [])) Nn k) T (Qae (pnN ps))) Nn ps=Z1 at *;generalize rwZ (scF (pzF (ctZ ps (xsss.getD 1 [])) (ctZ ps (ysss.getD 1 [])) Nn) T (Qae (pnN ps))) Nn ps=Z2 at *;generalize pzF (ctZ ps (xsss.getD 0 [])) (ctZ ps (ysss.getD 0 [])) Nn=P00 at *;generalize pzF (ctZ ps (xsss.getD 1 [])) (ctZ ps (ysss.getD 1 [])) Nn=P11 at *;generalize pzF (ctZ ps (xsss.getD 0 [])) (ctZ ps (ysss.getD 1 [])) Nn=P01 at *;generalize pzF (ctZ ps (xsss.getD 1 [])) (ctZ ps (ysss.getD 0 [])) Nn=P10 at *;generalize ctZ ps (xsss.getD 0 [])=A0 at *;generalize ctZ ps (xsss.getD 1 [])=A1 at *;generalize ctZ ps (ysss.getD 0 [])=B0 at *;generalize ctZ ps (ysss.getD 1 [])=B1 at *;have HZLe:Hid ([Z0,Z1,Z2]=ZL):=hZL;generalize (xsss.getD 0 []).length=l0 at *;generalize (xsss.getD 1 []).length=l1 at *;generalize (ysss.getD 0 []).length=n0 at *;generalize (ysss.getD 1 []).length=n1 at *
 have C3':Hid (Bk w3 (kp+1) #[.slice (some ⟨b,o,none⟩) 2 c1] 30):=by
  have h:=C3.out;rw [h2] at h;exact h
 have D3':Hid (Bk w3 (kp+1+1) #[.slice (some ⟨b',o',none⟩) 2 c2] 30):=by
  have h:=D3.out;rw [h3] at h;exact h
 have HQ0:Hid (b<w.heap.size/\b'<w.heap.size/\w.cell? ⟨b,o,none⟩=some (.slice x0 l0 m0)/\w.cell? ⟨b,o+1,none⟩=some (.slice x1 l1 m1)/\w.cell? ⟨b',o',none⟩=some (.slice y0 n0 e0')/\w.cell? ⟨b',o'+1,none⟩=some (.slice y1 n1 e1')):=⟨hb0,hb0',q0,q1,q2,q3⟩;have HNn:=Qaa hN1;have PSP:=Qaa (fun k (hk:k<Nn) W x y (hx:Rz (P01 k) W x) (hy:Rz (P10 k) W y)=>Qvr (P01 k) (P10 k) x y W hx hy (Nat.le_trans (hP01 k hk) (by omega)) (Nat.le_trans (hP10 k hk) (by omega)));clear hP01 hP10 KL KC hz4 hbb hNn hps hpb hmx hBx hmy hBy h2 h3 gx gy hTT ep hbas hTn hb0 h00 hc hb0' h00' hc' q0 q1 q2 q3 r0 r1 r2 r3 e0 e1 e2 e3 hN1 en hZL eZ eok e e' HU HT HV HPB HCB HDB H2 H3 HSP HY HNN C3 D3;have p0:=P3.out.c (i:=0) rfl;have p1:=P3.out.c (i:=1) rfl;have p2:=P3.out.c (i:=2) rfl;have p3:=P3.out.c (i:=3) rfl;go_wp2_with fail;refine (KS.out _).mono ?_
 rintro e w4 ⟨rfl,g4⟩;obtain ⟨W5,hW5⟩:∃B:World,w4.alloc (.cells #[.int .i64 (Nn:Int),.slice a0 ps.length c0] 45)=B:=⟨_,rfl⟩
 have S5:Hid (Bk W5 w4.heap.size #[.int .i64 (Nn:Int),.slice a0 ps.length c0] 45):=by rw [<- hW5];exact Bk.new' w4 _ _ rfl
 have O35:Old w3 W5:=by rw [<- hW5];exact g4.alloc _
 have G5:=Qaa (Old.trans G3.out O35);have P5:=Qaa (P3.out.old O35);have C5:=Qaa (C3'.out.old O35);have D5:=Qaa (D3'.out.old O35);have R5:=Qaa (R3.out.old O35);obtain ⟨ks,hks⟩:∃k,w4.heap.size=k:=⟨_,rfl⟩
 rw [hks] at S5;clear p0 p1 p2 p3 z0 z1 g4 O35 P3 C3' D3' R3 G3
 have HAS:Hid (∀W',Old W5 W'->W'.cell? ⟨kp,0,none⟩=some (.int .i64 (Nn:Int))/\W'.cell? ⟨kp,1,none⟩=some (.int .i64 T)/\W'.cell? ⟨kp,2,none⟩=some (.int .i64 E)/\W'.cell? ⟨kp,3,none⟩=some (.slice a0 ps.length c0)/\W'.cell? ⟨kp+1,0,none⟩=some (.slice (some ⟨b,o,none⟩) 2 c1)/\W'.cell? ⟨kp+1+1,0,none⟩=some (.slice (some ⟨b',o',none⟩) 2 c2)/\W'.cell? ⟨ks,0,none⟩=some (.int .i64 (Nn:Int))/\W'.cell? ⟨ks,1,none⟩=some (.slice a0 ps.length c0)/\W'.cell? ⟨b,o,none⟩=some (.slice x0 l0 m0)/\W'.cell? ⟨b,o+1,none⟩=some (.slice x1 l1 m1)/\W'.cell? ⟨b',o',none⟩=some (.slice y0 n0 e0')/\W'.cell? ⟨b',o'+1,none⟩=some (.slice y1 n1 e1')):=fun W' q=>by
  have b1:=P5.out.old q;have b2:=C5.out.old q;have b3:=D5.out.old q;have b4:=S5.out.old q;have qq:=Old.trans G5.out q;obtain ⟨s1,s2,s3,s4,s5,s6⟩:=HQ0.out;exact ⟨b1.c (i:=0) rfl,b1.c (i:=1) rfl,b1.c (i:=2) rfl,b1.c (i:=3) rfl,b2.c (i:=0) rfl,b3.c (i:=0) rfl,b4.c (i:=0) rfl,b4.c (i:=1) rfl,(qq.cell (p:=⟨b,o,none⟩) s1).trans s3,(qq.cell (p:=⟨b,o+1,none⟩) s1).trans s4,(qq.cell (p:=⟨b',o',none⟩) s2).trans s5,(qq.cell (p:=⟨b',o'+1,none⟩) s2).trans s6⟩
 obtain ⟨v0,v1,v2,v3,v4,v5,v6,v7,v8,v9,v10,v11⟩:=HAS.out _ (Old.refl W5);clear P5 C5 D5 S5 HQ0;go_wp2_with fail
 go_region_held3 (fun W'=>W'.cell? ⟨kp,0,none⟩=some (.int .i64 (Nn:Int))/\W'.cell? ⟨kp,1,none⟩=some (.int .i64 T)/\W'.cell? ⟨kp,2,none⟩=some (.int .i64 E)/\W'.cell? ⟨kp,3,none⟩=some (.slice a0 ps.length c0)/\W'.cell? ⟨kp+1,0,none⟩=some (.slice (some ⟨b,o,none⟩) 2 c1)/\W'.cell? ⟨kp+1+1,0,none⟩=some (.slice (some ⟨b',o',none⟩) 2 c2)/\W'.cell? ⟨ks,0,none⟩=some (.int .i64 (Nn:Int))/\W'.cell? ⟨ks,1,none⟩=some (.slice a0 ps.length c0)/\W'.cell? ⟨b,o,none⟩=some (.slice x0 l0 m0)/\W'.cell? ⟨b,o+1,none⟩=some (.slice x1 l1 m1)/\W'.cell? ⟨b',o',none⟩=some (.slice y0 n0 e0')/\W'.cell? ⟨b',o'+1,none⟩=some (.slice y1 n1 e1')) (first | with_reducible exact HAS.out _ GA.out | with_reducible exact HAS.out _ (Below.drew (Old.refl W5)) | with_reducible exact HAS.out _ (Old.refl W5) | fail) (first
  | (go_at_call 20;refine (KA.out _ (Old.trans G5.out (Below.drew (Old.refl W5)))).mono ?_;rintro e wa ⟨v_,rfl,g_,z_⟩;obtain ⟨_,_,_,rfl,_⟩:=z_.slice;have QA:=Qaa (Old.trans (Below.drew (Old.refl W5)) g_);have GA:=Qaa (QA.out);have ZA0:=Qaa z_;clear g_ z_)
  | fail)
 clear v0 v1 v2 v3 v4 v5 v6 v7 v8 v9 v10 v11;obtain ⟨v0,v1,v2,v3,v4,v5,v6,v7,v8,v9,v10,v11⟩:=HAS.out _ GA.out;go_wp2_with fail
 go_region_held3 (fun W'=>W'.cell? ⟨kp,0,none⟩=some (.int .i64 (Nn:Int))/\W'.cell? ⟨kp,1,none⟩=some (.int .i64 T)/\W'.cell? ⟨kp,2,none⟩=some (.int .i64 E)/\W'.cell? ⟨kp,3,none⟩=some (.slice a0 ps.length c0)/\W'.cell? ⟨kp+1,0,none⟩=some (.slice (some ⟨b,o,none⟩) 2 c1)/\W'.cell? ⟨kp+1+1,0,none⟩=some (.slice (some ⟨b',o',none⟩) 2 c2)/\W'.cell? ⟨ks,0,none⟩=some (.int .i64 (Nn:Int))/\W'.cell? ⟨ks,1,none⟩=some (.slice a0 ps.length c0)/\W'.cell? ⟨b,o,none⟩=some (.slice x0 l0 m0)/\W'.cell? ⟨b,o+1,none⟩=some (.slice x1 l1 m1)/\W'.cell? ⟨b',o',none⟩=some (.slice y0 n0 e0')/\W'.cell? ⟨b',o'+1,none⟩=some (.slice y1 n1 e1')) (first | with_reducible exact HAS.out _ GB.out | with_reducible exact HAS.out _ (Old.trans GA.out (Below.drew (Old.refl wa))) | with_reducible exact HAS.out _ GA.out | fail) (first
  | (go_at_call 20;refine (KB.out _ (Old.trans G5.out (Old.trans GA.out (Below.drew (Old.refl wa))))).mono ?_;rintro e wb ⟨v_,rfl,g_,z_⟩;obtain ⟨_,_,_,rfl,_⟩:=z_.slice;have QB:=Qaa (Old.trans (Below.drew (Old.refl wa)) g_);have GB:=Qaa (Old.trans GA.out QB.out);have ZB0:=Qaa z_;clear g_ z_)
  | fail)
 clear v0 v1 v2 v3 v4 v5 v6 v7 v8 v9 v10 v11;obtain ⟨v0,v1,v2,v3,v4,v5,v6,v7,v8,v9,v10,v11⟩:=HAS.out _ GB.out;go_wp2_with fail
 go_region_held3 (fun W'=>W'.cell? ⟨kp,0,none⟩=some (.int .i64 (Nn:Int))/\W'.cell? ⟨kp,1,none⟩=some (.int .i64 T)/\W'.cell? ⟨kp,2,none⟩=some (.int .i64 E)/\W'.cell? ⟨kp,3,none⟩=some (.slice a0 ps.length c0)/\W'.cell? ⟨kp+1,0,none⟩=some (.slice (some ⟨b,o,none⟩) 2 c1)/\W'.cell? ⟨kp+1+1,0,none⟩=some (.slice (some ⟨b',o',none⟩) 2 c2)/\W'.cell? ⟨ks,0,none⟩=some (.int .i64 (Nn:Int))/\W'.cell? ⟨ks,1,none⟩=some (.slice a0 ps.length c0)/\W'.cell? ⟨b,o,none⟩=some (.slice x0 l0 m0)/\W'.cell? ⟨b,o+1,none⟩=some (.slice x1 l1 m1)/\W'.cell? ⟨b',o',none⟩=some (.slice y0 n0 e0')/\W'.cell? ⟨b',o'+1,none⟩=some (.slice y1 n1 e1')) (first | with_reducible exact HAS.out _ GC.out | with_reducible exact HAS.out _ (Old.trans GB.out (Below.drew (Old.refl wb))) | with_reducible exact HAS.out _ GB.out | fail) (first
  | (go_at_call 20;refine (KCC.out _ (Old.trans G5.out (Old.trans GB.out (Below.drew (Old.refl wb))))).mono ?_;rintro e wc ⟨v_,rfl,g_,z_⟩;obtain ⟨_,_,_,rfl,_⟩:=z_.slice;have QC:=Qaa (Old.trans (Below.drew (Old.refl wb)) g_);have GC:=Qaa (Old.trans GB.out QC.out);have ZC0:=Qaa z_;clear g_ z_)
  | fail)
 clear v0 v1 v2 v3 v4 v5 v6 v7 v8 v9 v10 v11;obtain ⟨v0,v1,v2,v3,v4,v5,v6,v7,v8,v9,v10,v11⟩:=HAS.out _ GC.out;go_wp2_with fail
 go_region_held3 (fun W'=>W'.cell? ⟨kp,0,none⟩=some (.int .i64 (Nn:Int))/\W'.cell? ⟨kp,1,none⟩=some (.int .i64 T)/\W'.cell? ⟨kp,2,none⟩=some (.int .i64 E)/\W'.cell? ⟨kp,3,none⟩=some (.slice a0 ps.length c0)/\W'.cell? ⟨kp+1,0,none⟩=some (.slice (some ⟨b,o,none⟩) 2 c1)/\W'.cell? ⟨kp+1+1,0,none⟩=some (.slice (some ⟨b',o',none⟩) 2 c2)/\W'.cell? ⟨ks,0,none⟩=some (.int .i64 (Nn:Int))/\W'.cell? ⟨ks,1,none⟩=some (.slice a0 ps.length c0)/\W'.cell? ⟨b,o,none⟩=some (.slice x0 l0 m0)/\W'.cell? ⟨b,o+1,none⟩=some (.slice x1 l1 m1)/\W'.cell? ⟨b',o',none⟩=some (.slice y0 n0 e0')/\W'.cell? ⟨b',o'+1,none⟩=some (.slice y1 n1 e1')) (first | with_reducible exact HAS.out _ GD.out | with_reducible exact HAS.out _ (Old.trans GC.out (Below.drew (Old.refl wc))) | with_reducible exact HAS.out _ GC.out | fail) (first
  | (go_at_call 20;refine (KD.out _ (Old.trans G5.out (Old.trans GC.out (Below.drew (Old.refl wc))))).mono ?_;rintro e wd ⟨v_,rfl,g_,z_⟩;obtain ⟨_,_,_,rfl,_⟩:=z_.slice;have QD:=Qaa (Old.trans (Below.drew (Old.refl wc)) g_);have GD:=Qaa (Old.trans GC.out QD.out);have ZD0:=Qaa z_;clear g_ z_)
  | fail)
 clear v0 v1 v2 v3 v4 v5 v6 v7 v8 v9 v10 v11;have ZA9:=Qaa (ZA0.out.old (Old.trans QB.out (Old.trans QC.out QD.out)));have ZB9:=Qaa (ZB0.out.old (Old.trans QC.out QD.out));have ZC9:=Qaa (ZC0.out.old QD.out);have G9:=Qaa (Old.trans G5.out GD.out);have R9:=Qaa (R5.out.old GD.out)
 have HA9:Hid (∀W',Old wd W'->W'.cell? ⟨kp,0,none⟩=some (.int .i64 (Nn:Int))/\W'.cell? ⟨kp,1,none⟩=some (.int .i64 T)/\W'.cell? ⟨kp,2,none⟩=some (.int .i64 E)/\W'.cell? ⟨kp,3,none⟩=some (.slice a0 ps.length c0)):=fun W' q=>by
  obtain ⟨v0,v1,v2,v3,_⟩:=HAS.out W' (Old.trans GD.out q);exact ⟨v0,v1,v2,v3⟩
 clear HAS ZA0 ZB0 ZC0 QB QC QD GA GB GC GD G5 R5 KA KB KCC KD KS hW5 hks;have HLW:Hid (w.heap.size<=wd.heap.size/\kp+1+1+1<wd.heap.size):=⟨G9.out.size,R9.out.lt⟩;obtain ⟨v0,v1,v2,v3⟩:=HA9.out _ (Old.refl wd);go_wp2_with fail;refine (K01.out _ _ _ ZA9.out ZD0.out).mono ?_
 rintro e w5 ⟨p5,rfl,hp5,g5,z5⟩;have G5':=Qaa g5;have N5:=Qaa z5;have HP5:=Qaa hp5;clear g5 z5 hp5 v0 v1 v2 v3;obtain ⟨v0,v1,v2,v3⟩:=HA9.out _ G5'.out;go_wp2_with fail;refine (K10.out _ _ _ (ZB9.out.old G5'.out) (ZC9.out.old G5'.out)).mono ?_
 rintro e w6 ⟨p6,rfl,hp6,g6,z6⟩;have G6:=Qaa (Old.trans G5'.out g6);have N6:=Qaa (N5.out.old g6);have M6:=Qaa z6
 have HP6:Hid (p5<p6/\p6<w6.heap.size/\p5<w6.heap.size):=by
  have h1:=N5.out.1;have h2:=z6.1
  show p5<p6/\p6<w6.heap.size/\p5<w6.heap.size
  omega
 clear g6 z6 hp6 v0 v1 v2 v3 G5' N5 K01 K10
 have HIN:Hid (Zn (miF P01 P10 0) Nn p5 w6):=by
  rw [Qu7];exact N6.out
 clear N6;go_wp2_with fail
 go_loopw [76,14,15] (fun x _ _ W=>∃k:Nat,k<=Nn/\x=.int .i64 k/\Hid (Zn (miF P01 P10 k) Nn p5 W)/\Hid (Old wd W)/\Hid (Chn p5 w6 W)) (fun x _ _ _=>Nn - (intOf x).toNat)
 case atStart=>exact ⟨0,by omega,rfl,HIN,G6,Chn.refl _ _⟩
 case round=>
  obtain ⟨k,hk',rfl,HZ1,HG1,HC1⟩:=hrel;have hn16:=HNn.out.2
  by_cases hlt:k<Nn
  ·obtain ⟨ay,cy,u0,u1,hy⟩:=(show ∃a c,w6.cell? ⟨p6,k*2,none⟩=some (.bool (ng (P10 k)))∧w6.cell? ⟨p6,k*2+1,none⟩=some (.slice a (dg (P10 k)).length c)∧RzG (P10 k) p6 w6 (.agg #[.bool (ng (P10 k)),.slice a (dg (P10 k)).length c]) from M6.out.2.2 k hlt);obtain ⟨s1,s2,s3⟩:=HP6.out;have q0:=(HC1.out.cell (o:=k*2) s2 (by omega)).trans u0;have q1:=(HC1.out.cell (o:=k*2+1) s2 (by omega)).trans u1;have HYR:=Qaa ((hy.n (Nat.le_of_lt s1)).chn HC1.out).rz;have KP1:=Qaa (PSP.out k hlt);have HE1:Hid (miF P01 P10 (k+1) k=P01 k+P10 k∧(∀j,j<Nn→j≠k→miF P01 P10 (k+1) j=miF P01 P10 k j)∧miF P01 P10 k k=P01 k):=⟨Qzv _ _ k,fun j _ h=>Qyc _ _ k j h,Qyb _ _ k⟩;have iL:(k:Int)<(Nn:Int):=by omega
   obtain ⟨ny,hny⟩:∃b,ng (P10 k)=b:=⟨_,rfl⟩
   obtain ⟨ly,hly⟩:∃l,(dg (P10 k)).length=l:=⟨_,rfl⟩
   rw [hny,hly] at HYR;rw [hny] at q0;rw [hly] at q1;clear u0 u1 hy hny hly s1 s2 s3;obtain ⟨W2,hW2⟩:∃B:World,wr.alloc (.cells #[.bool ny,.slice ay ly cy] 53)=B:=⟨_,rfl⟩
   have A2:Old wr W2:=by rw [<- hW2];exact (Old.refl wr).alloc _
   have BX:Hid (Bk W2 wr.heap.size #[.bool ny,.slice ay ly cy] 53):=by rw [<- hW2];exact Bk.new' wr _ _ rfl
   have HZ2:=Qaa (HZ1.out.old A2);have HG2:=Qaa (Old.trans HG1.out A2);have HC2:=Qaa (HC1.out.trans_old A2);have HY2:=Qaa (HYR.out.old A2);obtain ⟨kx,hkx⟩:∃k,wr.heap.size=k:=⟨_,rfl⟩
   rw [hkx] at BX;clear A2 HZ1 HG1 HC1 HYR;go_wp2_with fail;obtain ⟨ap,cp,d0,d1,hp⟩:=HZ2.out.at k hlt;rw [HE1.out.2.2] at d0 d1 hp;have HP2:=Qaa hp;have hpb2:=HZ2.out.1;obtain ⟨z,hz⟩:∃z,P01 k+P10 k=z:=⟨_,rfl⟩
   have HZE:=Qaa (HE1.out.1.trans hz);rw [hz] at KP1;clear hp hz;refine Qzd W2 p5 k Nn _ ap _ cp kx ny ay ly cy (fun W u=>RzG z p5 W u) (fun W W' v h q=>h.old q) (fun W v h=>?_) BX.out iL (fun W q=>⟨(q.cell (p:=⟨p5,k*2,none⟩) hpb2).trans d0,(q.cell (p:=⟨p5,k*2+1,none⟩) hpb2).trans d1⟩) (fun W q=>⟨⟨_,(q.cell (p:=⟨p5,k*2,none⟩) hpb2).trans d0⟩,⟨_,(q.cell (p:=⟨p5,k*2+1,none⟩) hpb2).trans d1⟩,(HZ2.out.old q).2.1 _,(HZ2.out.old q).2.1 _⟩) (fun W v h=>?_) (fun W q=>?_) _ _ ?_ ?_ ?_ ?_ ?_
   ·obtain ⟨a,c,e,_⟩:=h;exact ⟨_,e,rfl,by simp [Value.oneCell']⟩
   ·obtain ⟨a,c,e,_⟩:=h;exact ⟨_,_,_,_,e⟩
   ·refine (KP1.out W _ _ (HP2.out.old q) (HY2.out.old q)).mono fun e w' h=>?_
    obtain ⟨x,e1,q',o⟩:=h;exact ⟨_,e1,q',RzG.wz o (Nat.lt_of_lt_of_le hpb2 q.size)⟩
   iterate 4 (·exact rfl)
   intro us W9 b9 u9' l9 c9 g9 pv;have hx:=pv;obtain ⟨a',c',e9,_⟩:=hx;have e':b9=ng z/\u9'=a'/\l9=(dg z).length/\c9=c':=by simpa using e9
   obtain ⟨rfl,rfl,rfl,rfl⟩:=e';have N9:=Qaa (Zn.put (HZ2.out.old g9) hlt pv HZE.out HE1.out.2.1);have hlo:=HP5.out;have G9':Hid (Old wd ((W9.setCell ⟨p5,k*2,none⟩ (.bool (ng z))).setCell ⟨p5,k*2+1,none⟩ (.slice u9' (dg z).length c9))):=((Old.trans HG2.out g9).own (p:=⟨p5,k*2,none⟩) hlo _).own (p:=⟨p5,k*2+1,none⟩) hlo _;have C9:Hid (Chn p5 w6 ((W9.setCell ⟨p5,k*2,none⟩ (.bool (ng z))).setCell ⟨p5,k*2+1,none⟩ (.slice u9' (dg z).length c9))):=((HC2.out.trans_old g9).set _ _).set _ _;simp only [Qal,Act.put,Qeh,List.range,List.range.loop,List.map_cons,List.map_nil,List.getD_cons_zero,List.getD_cons_succ,List.setIfInBounds_toArray,List.set_cons_succ,List.set_cons_zero];clear g9 pv e9 d0 d1 HZ2 HG2 BX HP2 HY2 KP1 HE1 HC2 HZE hlo;generalize (W9.setCell ⟨p5,k*2,none⟩ (.bool (ng z))).setCell ⟨p5,k*2+1,none⟩ (.slice u9' (dg z).length c9)=W10 at *;go_wp2_with fail;exact ⟨⟨k+1,by omega,by go_num,N9,G9',C9⟩,by simp [intOf];omega⟩
  ·have d1:decide ((k:Int)<(Nn:Int))=false:=decide_eq_false (by omega);obtain rfl:k=Nn:=by omega
   have ZM:=Qaa ((HZ1.out.congr (g:=fun j=>P01 j+P10 j) (Qyd P01 P10 k)).zr (cap:=k));have HAr:Hid (∀W',Old wr W'->W'.cell? ⟨kp,0,none⟩=some (.int .i64 (k:Int))/\W'.cell? ⟨kp,1,none⟩=some (.int .i64 T)/\W'.cell? ⟨kp,2,none⟩=some (.int .i64 E)/\W'.cell? ⟨kp,3,none⟩=some (.slice a0 ps.length c0)):=fun W' q=>HA9.out W' (Old.trans HG1.out q)
   have HAs:Hid (∀W',Old wr W'->∀x,(W'.setCell ⟨kp+1+1+1,0,none⟩ x).cell? ⟨kp,0,none⟩=some (.int .i64 (k:Int))/\(W'.setCell ⟨kp+1+1+1,0,none⟩ x).cell? ⟨kp,1,none⟩=some (.int .i64 T)/\(W'.setCell ⟨kp+1+1+1,0,none⟩ x).cell? ⟨kp,2,none⟩=some (.int .i64 E)/\(W'.setCell ⟨kp+1+1+1,0,none⟩ x).cell? ⟨kp,3,none⟩=some (.slice a0 ps.length c0)):=fun W' q x=>by
    obtain ⟨v0,v1,v2,v3⟩:=HAr.out W' q;refine ⟨?_,?_,?_,?_⟩
    all_goals
     refine (World.cell?_setCell_other _ _ _ _ (by simp;try omega)).trans ?_
     assumption
   have ZAr:=Qaa (ZA9.out.old HG1.out);have ZBr:=Qaa (ZB9.out.old HG1.out);have ZCr:=Qaa (ZC9.out.old HG1.out);have ZDr:=Qaa (ZD0.out.old HG1.out);have Gr':=Qaa (Old.trans G9.out HG1.out);have Rr:=Qaa (R9.out.old HG1.out);have HLr:=Qaa HG1.out.size;obtain ⟨v0,v1,v2,v3⟩:=HAr.out _ (Old.refl wr);clear HA9 ZA9 ZB9 ZC9 ZD0 G9 R9 HZ1 HC1 HG1 M6 HP6 HIN G6 PSP HP5;go_wp2_with fail
   go_region_held3 (fun W'=>W'.cell? ⟨kp,0,none⟩=some (.int .i64 (k:Int))/\W'.cell? ⟨kp,1,none⟩=some (.int .i64 T)/\W'.cell? ⟨kp,2,none⟩=some (.int .i64 E)/\W'.cell? ⟨kp,3,none⟩=some (.slice a0 ps.length c0)) (first | with_reducible exact HAs.out _ (Old.alloc GT.out _) _ | with_reducible exact HAs.out _ GT.out _ | with_reducible exact HAr.out _ (Old.alloc GT.out _) | with_reducible exact HAr.out _ GT.out | with_reducible exact HAr.out _ GS.out | with_reducible exact HAr.out _ GR.out | with_reducible exact HAr.out _ GQ.out | with_reducible exact HAr.out _ GP.out | with_reducible exact HAr.out _ (Below.drew (Old.refl wr)) | with_reducible exact HAr.out _ (Old.refl wr) | fail) (first
    | (go_at_call 23;refine (KZ2.out _ _ (Old.trans Gr'.out GS.out) ZS.out).mono ?_;rintro e wt ⟨vt,rfl,qt,ot⟩;have GT:=Qaa (Old.trans GS.out qt);have OT:=Qaa ot;have QT:=Qaa qt;obtain ⟨at',ct,rfl⟩:=ot.rowS.slice;have RT:=Qaa (Q0s Rr.out GT.out);have y0:=RT.out.1;have f0:=RT.out.2.1;clear qt ot)
    | (go_at_call 21;refine (K11.out _ _ _ (ZBr.out.old GR.out) (ZDr.out.old GR.out)).mono ?_;rintro e ws ⟨ps',rfl,_,qs,zs⟩;have GS:=Qaa (Old.trans GR.out qs);have QS:=Qaa qs;have ZS:=Qaa (zs.zr (cap:=k));clear qs zs)
    | (go_at_call 23;refine (KZ1.out _ _ (Old.trans Gr'.out GQ.out) (ZM.out.old GQ.out)).mono ?_;rintro e wx ⟨vx,rfl,qx,ox⟩;have GR:=Qaa (Old.trans GQ.out qx);have OR:=Qaa ox;have QR:=Qaa qx;obtain ⟨ax',cx,rfl⟩:=ox.rowS.slice;clear qx ox)
    | (go_at_call 23;refine (KZ0.out _ _ (Old.trans Gr'.out GP.out) ZP.out).mono ?_;rintro e wq ⟨vq,rfl,qq,oq⟩;have GQ:=Qaa (Old.trans GP.out qq);have OQ:=Qaa oq;have QQ:=Qaa qq;obtain ⟨aq',cq,rfl⟩:=oq.rowS.slice;clear qq oq)
    | (go_at_call 21;refine (K00.out _ _ _ (ZAr.out.old (Below.drew (Old.refl wr))) (ZCr.out.old (Below.drew (Old.refl wr)))).mono ?_;rintro e wp ⟨pp,rfl,_,qp,zp⟩;have GP:=Qaa (Old.trans (Below.drew (Old.refl wr)) qp);have ZP:=Qaa (zp.zr (cap:=k));clear qp zp)
    | fail)
   have OW0:=Qaa (Ows.old (Qb6 _) OQ.out.owsM (Old.trans QR.out (Old.trans QS.out QT.out)));have OW1:=Qaa (Ows.old (Qb6 _) OR.out.owsM (Old.trans QS.out QT.out));have OW2:=Qaa (OT.out.owsM.low (lo':=wx.heap.size) QS.out.size (Nat.le_refl _) (Nat.le_refl _));have HS:Hid (wd.heap.size<=wp.heap.size/\wp.heap.size<=wq.heap.size/\wq.heap.size<=wx.heap.size/\wx.heap.size<=wt.heap.size):=⟨Nat.le_trans HLr.out GP.out.size,QQ.out.size,QR.out.size,Nat.le_trans QS.out.size QT.out.size⟩;have LL:=Qzu OW0.out OW1.out OW2.out HS.out.2.1 HS.out.2.2.1 HS.out.2.2.2;have hO:Old w (wt.alloc (.cells #[.slice aq' Z0.length cq,.slice ax' Z1.length cx,.slice at' Z2.length ct] 49)):=(Old.trans Gr'.out GT.out).alloc _;have RR:=RT.out.2.2 (.cells #[.slice aq' Z0.length cq,.slice ax' Z1.length cx,.slice at' Z2.length ct] 49);obtain ⟨W9,hW9⟩:∃B:World,wt.alloc (.cells #[.slice aq' Z0.length cq,.slice ax' Z1.length cx,.slice at' Z2.length ct] 49)=B:=⟨_,rfl⟩
   obtain ⟨kq,hkq⟩:∃k,wt.heap.size=k:=⟨_,rfl⟩
   rw [hW9] at LL hO RR;rw [hkq] at LL;have HLL:=Qaa LL;have HO9:=Qaa hO;have HRR:=Qaa RR;have hz:=HZLe.out;subst hz;clear LL hO RR OQ OR OT QQ QR QS QT GP GQ GR GS GT ZP ZS ZM RT y0 f0 HAr HAs ZAr ZBr ZCr ZDr Rr Gr' OW0 OW1 OW2 KZ0 KZ1 KZ2 K00 K11 v0 v1 v2 v3;simp only [hW9,hkq];clear hW9 hkq
   rename_i hK _ _ hH
   clear hH;refine hK _ _ ?_
   refine wp_ret ?_
   show bodyPost Tryz.prog Tryz.f6 (CiA Z ok w) .ret _ _
   have q0:=(Qgi HRR.out (.slice (some ⟨kq,0,none⟩) 3 3)).c (i:=0) rfl;refine bodyPost_ret (v:=.tuple #[.agg #[.slice (some ⟨kq,0,none⟩) 3 3],.bool true]) (by simp [results,Tryz.results6,go_sem,q0]) rfl (HEND.out _ _ (HO9.out.own (p:=⟨kp+1+1+1,0,none⟩) (by have:=HKP.out;show w.heap.size<=kp+1+1+1;omega) _) ?_);refine ⟨some ⟨kq,0,none⟩,3,rfl,?_⟩;have h2:=HLL.out.putT (k:=kp+1+1+1) (j:=0) (x:=.slice (some ⟨kq,0,none⟩) 3 3) (.inl (Nat.lt_of_lt_of_le HLW.out.2 HS.out.1));exact h2.low (lo':=w.heap.size) (Nat.le_trans HLW.out.1 HS.out.1) (by simp) (Nat.le_refl _)
end Go.Proofs.YtjjohooeehjjcaaGreatDoor
namespace Go.Proofs.YtjjohooeehjjcaaGreatDoor
open Go.ChangeShapes Go.WideShapes Go.ChangeAt Go.RowKit
theorem Qzw (f:Nat->Int) {n:Nat} {ps:List Int} (hn:n<=16) (hp:ps.length<=6):(rwZ f n ps).length<=6/\∀q∈rwZ f n ps,q.length<=16:=by
 refine ⟨by rw [Qs9];exact hp,fun q hq=>?_⟩;obtain ⟨p,_,rfl⟩:=List.mem_map.1 hq;rw [Qhn,Qcw];exact hn
theorem Qzx {n:Nat} {T:Int} {ps:List Int} {xsss ysss:List (List (List Int))} (hn:n<=16) (hp:ps.length<=6):∀r∈mcZ n T ps xsss ysss,r.length<=6/\∀q∈r,q.length<=16:=fun r hr=>by
 unfold mcZ at hr;simp only [List.mem_cons,List.not_mem_nil,or_false] at hr;rcases hr with rfl | rfl | rfl <;> exact Qzw _ hn hp
theorem Qih (N T E:Int) (xs:List Int) (xsss ysss:List (List (List Int))) (v u t:Value) (w:World) (hv:Row w v xs) (hl:xs.length≤9223372036854775807) (hx:∀x∈xs,-9223372036854775808≤x∧x≤9223372036854775807) (hu:Qid w u xsss) (hs:xsss.length≤9223372036854775807) (hsr:∀r∈xsss,r.length≤9223372036854775807∧∀q∈r,q.length≤9223372036854775807) (ht:Qid w t ysss) (hs2:ysss.length≤9223372036854775807) (hsr2:∀r∈ysss,r.length≤9223372036854775807∧∀q∈r,q.length≤9223372036854775807) (hP:Qeu w) (hT:Qbq w) :
  Calls Tryz.prog 3 #[.agg #[.int .i64 N,.int .i64 T,.int .i64 E,v],.agg #[u],.agg #[t]] w fun e w'=>e=.returned (.bool true)/\Old w w':=by
 obtain ⟨a0,c0,rfl⟩:=hv.slice;obtain ⟨a1,c1,eu⟩:=hu.slice;obtain ⟨a2,c2,et⟩:=ht.slice;subst eu et
 have bnd:∀{A:Prop},¬Qc5 1048576 xs.length<0->¬Qb8 (Qc5 1048576 xs.length) xsss<0->¬Qb8 (Qb8 (Qc5 1048576 xs.length) xsss) ysss<0->(xs.length<=1048576->xsss.length<=1048576->(∀r∈xsss,r.length<=1048576/\∀q∈r,q.length<=1048576)->Qce xsss xsss.length<=1048576->ysss.length<=1048576->(∀r∈ysss,r.length<=1048576/\∀q∈r,q.length<=1048576)->Qce ysss ysss.length<=1048576->A)->A:=fun h0 h1 h2 k=>by
  obtain ⟨q1,q2,q3⟩:=Qem h0 (by omega);obtain ⟨p1,p2,p3,p4,p5⟩:=Qhg q3 h1;obtain ⟨s1,s2,s3,s4,s5⟩:=Qhg p1 h2
  exact k (by omega) (by omega) (fun r hr=>by
   have:=p5 r hr;exact ⟨by omega,fun q hq=>by have:=this.2 q hq;omega⟩) (by omega) (by omega) (fun r hr=>by
   have:=s5 r hr;exact ⟨by omega,fun q hq=>by have:=this.2 q hq;omega⟩) (by omega)
 obtain ⟨Z,ok,hy,hn,z1,z2⟩:∃(Z:List (List (List Int))) (ok:Bool),((prB N T E xs&&(ciB N xs xsss&&decide (xsss.length=2))&&(ciB N xs ysss&&decide (ysss.length=2)))=true->Z=mcZ N.toNat T xs xsss ysss/\ok=true)/\((prB N T E xs&&(ciB N xs xsss&&decide (xsss.length=2))&&(ciB N xs ysss&&decide (ysss.length=2)))=false->Z=[]/\ok=false)/\Z.length<=3/\∀r∈Z,r.length<=6/\∀q∈r,q.length<=16:=by
  cases h:(prB N T E xs&&(ciB N xs xsss&&decide (xsss.length=2))&&(ciB N xs ysss&&decide (ysss.length=2)))
  ·exact ⟨[],false,(fun h=>by cases h),(fun _=>⟨rfl,rfl⟩),by simp,fun r hr=>by cases hr⟩
  ·rw [Bool.and_eq_true,Bool.and_eq_true] at h;obtain ⟨⟨h1,h2⟩,h3⟩:=h;obtain ⟨hz4,hbb,_⟩:=Qdw (Qok h1);have h6:=(Qc8 hbb).1.2;exact ⟨mcZ N.toNat T xs xsss ysss,true,(fun _=>⟨rfl,rfl⟩),(fun h=>by cases h),Nat.le_of_eq rfl,Qzx (by omega) h6⟩
 have ho:Qce Z Z.length<=288:=by
  have:=Qrl Z 6 16 z2;omega
 have z3:∀r∈Z,r.length<=1048576/\∀q∈r,q.length<=1048576:=fun r hr=>by
  have:=z2 r hr;exact ⟨by omega,fun q hq=>by have:=this.2 q hq;omega⟩
 refine Qg2 w N T E xs.length a0 c0 xsss.length a1 c1 ysss.length a2 c2 Z.length ok (Qc5 1048576 xs.length) (Qb8 (Qc5 1048576 xs.length) xsss) (Qb8 (Qb8 (Qc5 1048576 xs.length) xsss) ysss)
  (fun W g=>Qz8 N T E a0 xs.length c0 1048576 W hl (by omega) (by omega))
  (fun h0 W g=>by
   obtain ⟨q1,q2,q3⟩:=Qem h0 (by omega);exact Qyy xsss _ _ W (hu.old g) hs hsr q3 (by omega))
  (fun h0 h1 W g=>by
   obtain ⟨q1,q2,q3⟩:=Qem h0 (by omega);obtain ⟨p1,p2,p3,p4,p5⟩:=Qhg q3 h1;exact Qyy ysss _ _ W (ht.old g) hs2 hsr2 p1 (by omega))
  (XP N T E xs) (Qyw N T E xs) Qt7 (fun h0 h1 h2 W g=>bnd h0 h1 h2 fun h3 _ _ _ _ _ _=>Qz9 N T E xs _ W (hv.old g) h3) (fun h0 h1 h2 W lo hi g lo' hi' g' k k'=>bnd h0 h1 h2 fun h3 _ _ _ _ _ _=>Q0a N T E xs W lo hi g lo' hi' g' k k' (by omega))
  (1+xs.length) (by omega) (fun h0 h1 h2 W lo hi g k=>bnd h0 h1 h2 fun h3 _ _ _ _ _ _=>Qwv N T E xs 1 W lo hi g k h3 (by omega) (by omega))
  (XC xsss) (Qoc xsss) Qfm (fun h0 h1 h2 W g=>bnd h0 h1 h2 fun _ h3 h4 _ _ _ _=>Qyz xsss _ W (hu.old g) h3 h4) (fun h0 h1 h2 W lo hi g lo' hi' g' k k'=>bnd h0 h1 h2 fun _ h3 h4 _ _ _ _=>Qw1 xsss W lo hi g lo' hi' g' k k' h3 h4)
  (1+xs.length+Qce xsss xsss.length) (by omega) (fun h0 h1 h2 W lo hi g k=>bnd h0 h1 h2 fun h2 h3 h4 h5 _ _ _=>(Qmz xsss (1+xs.length) W lo hi g k h3 h4 (by omega) (by omega)).mono (fun e w' h=>⟨h.1,h.2.1⟩))
  (XC ysss) (Qoc ysss) Qfm (fun h0 h1 h2 W g=>bnd h0 h1 h2 fun _ _ _ _ h3 h4 _=>Qyz ysss _ W (ht.old g) h3 h4) (fun h0 h1 h2 W lo hi g lo' hi' g' k k'=>bnd h0 h1 h2 fun _ _ _ _ h3 h4 _=>Qw1 ysss W lo hi g lo' hi' g' k k' h3 h4)
  (1+xs.length+Qce xsss xsss.length+Qce ysss ysss.length) (by omega) (fun h0 h1 h2 W lo hi g k=>bnd h0 h1 h2 fun h2 _ _ h5 h3 h4 h6=>(Qmz ysss (1+xs.length+Qce xsss xsss.length) W lo hi g k h3 h4 (by omega) (by omega)).mono (fun e w' h=>⟨h.1,h.2.1⟩))
  (XC Z) (Qoc _) Qfm (XC Z) (Qoc _) Qfm (XCm 1 Z) (Qw2 _ _) Qrk
  (fun h0 h1 h2 W lo hi g lo1 hi1 g1 lo2 hi2 g2 k k1 k2 q=>bnd h0 h1 h2 fun _ h3 h4 _ h5 h6 _=>?_) (fun h0 h1 h2 W lo hi g lo1 hi1 g1 lo2 hi2 g2 k k1 k2 q=>bnd h0 h1 h2 fun _ h3 h4 _ h5 h6 _=>?_)
  (fun h0 h1 h2 W lo hi p lo' hi' p' k k'=>Qw1 Z W lo hi p lo' hi' p' k k' (by omega) z3)
  (1+Qce Z Z.length) (by omega) (fun h0 h1 h2 W lo hi p k=>Qmz Z 1 W lo hi p k (by omega) z3 (by omega) (by omega))
  (fun h0 h1 h2 W lo hi p k=>Qw3 Z 1 W lo hi p k (by omega) z3 (by omega) (by omega))
 ·obtain ⟨a,c,rfl,o,f⟩:=k;obtain ⟨a',c',rfl,o'⟩:=k1;obtain ⟨a'',c'',rfl,o''⟩:=k2;exact Qe8 N T E xs xsss ysss _ _ _ W o.row f o'.rowT o''.rowT hl h3 h4 h5 h6 hx Z ok hy hn
 ·obtain ⟨a,c,rfl,o,f⟩:=k;obtain ⟨a',c',rfl,o'⟩:=k1;obtain ⟨a'',c'',rfl,o''⟩:=k2;exact Qhw N T E xs xsss ysss _ _ _ W lo1 hi1 lo2 hi2 (hP.old q) (hT.old q) o.row f o' o'' hl h3 h4 h5 h6 Z ok hy hn
end Go.Proofs.YtjjohooeehjjcaaGreatDoor
