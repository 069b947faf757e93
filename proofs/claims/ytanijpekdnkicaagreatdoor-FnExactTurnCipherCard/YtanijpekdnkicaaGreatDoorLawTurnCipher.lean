/- Proved: the walk of the statement FnExactTurnCipher, under what each function that it calls does. -/
import Derived.Test.YtanijpekdnkicaaGreatDoorTc02
import Derived.Test.YtanijpekdnkicaaGreatDoorTc04
import Derived.Deep.RegionWith
import Derived.Deep.RegionHeld3
import Derived.Deep.DeepCutAuto
namespace Go.Proofs.YtanijpekdnkicaaGreatDoor
open Go.ChangeShapes Go.WideShapes Go.ChangeAt Go.RowKit
set_option linter.unusedVariables false
set_option linter.unusedSimpArgs false
set_option maxRecDepth 100000 in
set_option maxHeartbeats 16000000 in
theorem law9_TurnCipher (w:World) (Np0 Tp0 Ep0:Int) (lp0:Nat) (ap0:Option Addr) (cp0:Nat) (lp1:Nat) (ap1:Option Addr) (cp1:Nat) (Np2:Int) (lp3:Nat) (ap3:Option Addr) (cp3:Nat) (lr0:Nat) (br1:Bool) (L0 L1 L3:Int)
 (csz0:∀W,Old w W→Calls Tryz.prog 6 #[.agg #[.int .i64 Np0,.int .i64 Tp0,.int .i64 Ep0,.slice ap0 lp0 cp0],.int .i64 1048576] W fun e w'=>e=.returned (.int .i64 L0)∧Old W w')
 (csz1:¬L0<0→∀W,Old w W→Calls Tryz.prog 7 #[.agg #[.slice ap1 lp1 cp1],.int .i64 L0] W fun e w'=>e=.returned (.int .i64 L1)∧Old W w')
 (csz3:¬L0<0→¬L1<0→∀W,Old w W→Calls Tryz.prog 8 #[.slice ap3 lp3 cp3,.int .i64 L1] W fun e w'=>e=.returned (.int .i64 L3)∧Old W w')
 (X0:World→Nat→Nat→Array Value→Prop) (fX0:Far X0) (hX0:∀W lo hi g,X0 W lo hi g→∃a c,g=#[.int .i64 Np0,.int .i64 Tp0,.int .i64 Ep0,.slice a lp0 c])
 (cto0:¬L0<0→¬L1<0→¬L3<0→∀W,Old w W→Calls Tryz.prog 10 #[.agg #[.int .i64 Np0,.int .i64 Tp0,.int .i64 Ep0,.slice ap0 lp0 cp0]] W fun e w'=>∃g,e=.returned (.agg g)∧Old W w'∧X0 w' W.heap.size w'.heap.size g)
 (ceq0:¬L0<0→¬L1<0→¬L3<0→∀W lo hi g lo' hi' g',X0 W lo hi g→X0 W lo' hi' g'→Calls Tryz.prog 15 #[.agg g,.agg g'] W fun e w'=>e=.returned (.bool true)∧Old W w')
 (k0:Int) (hk0:0≤k0) (cmk0:¬L0<0→¬L1<0→¬L3<0→∀W lo hi g,X0 W lo hi g→Calls Tryz.prog 17 #[.agg g,.int .i64 1] W fun e w'=>e=.returned (.int .i64 k0)∧Chg W w' lo hi)
 (X1:World→Nat→Nat→Array Value→Prop) (fX1:Far X1) (hX1:∀W lo hi g,X1 W lo hi g→∃a c,g=#[.slice a lp1 c])
 (cto1:¬L0<0→¬L1<0→¬L3<0→∀W,Old w W→Calls Tryz.prog 11 #[.agg #[.slice ap1 lp1 cp1]] W fun e w'=>∃g,e=.returned (.agg g)∧Old W w'∧X1 w' W.heap.size w'.heap.size g)
 (ceq1:¬L0<0→¬L1<0→¬L3<0→∀W lo hi g lo' hi' g',X1 W lo hi g→X1 W lo' hi' g'→Calls Tryz.prog 14 #[.agg g,.agg g'] W fun e w'=>e=.returned (.bool true)∧Old W w')
 (k1:Int) (hk1:0≤k1) (cmk1:¬L0<0→¬L1<0→¬L3<0→∀W lo hi g,X1 W lo hi g→Calls Tryz.prog 18 #[.agg g,.int .i64 k0] W fun e w'=>e=.returned (.int .i64 k1)∧Chg W w' lo hi)
 (X3:World→Nat→Nat→Value→Prop) (fX3:Far X3) (hX3:∀W lo hi g,X3 W lo hi g→∃a c,g=(.slice a lp3 c))
 (cto3:¬L0<0→¬L1<0→¬L3<0→∀W,Old w W→Calls Tryz.prog 12 #[.slice ap3 lp3 cp3] W fun e w'=>∃g,e=.returned (g)∧Old W w'∧X3 w' W.heap.size w'.heap.size g)
 (ceq3:¬L0<0→¬L1<0→¬L3<0→∀W lo hi g lo' hi' g',X3 W lo hi g→X3 W lo' hi' g'→Calls Tryz.prog 16 #[g,g'] W fun e w'=>e=.returned (.bool true)∧Old W w')
 (k3:Int) (hk3:0≤k3) (cmk3:¬L0<0→¬L1<0→¬L3<0→∀W lo hi g,X3 W lo hi g→Calls Tryz.prog 19 #[g,.int .i64 k1] W fun e w'=>e=.returned (.int .i64 k3)∧Chg W w' lo hi)
 (SR:World→Nat→Nat→Array Value→Prop) (fSR:Far SR) (hSR:∀W lo hi p,SR W lo hi p→∃a0 c0,p=#[.slice a0 lr0 c0])
 (IR0:World→Nat→Nat→Array Value→Prop) (fIR0:Far IR0) (hIR0:∀W lo hi p,IR0 W lo hi p→∃a0 c0,p=#[.slice a0 lr0 c0])
 (IR1:World→Nat→Nat→Array Value→Prop) (fIR1:Far IR1) (hIR1:∀W lo hi p,IR1 W lo hi p→∃a0 c0,p=#[.slice a0 lr0 c0])
 (csp:¬L0<0→¬L1<0→¬L3<0→∀W lo0 hi0 g0 lo1 hi1 g1 lo3 hi3 g3,X0 W lo0 hi0 g0→X1 W lo1 hi1 g1→X3 W lo3 hi3 g3→Old w W→Calls Tryz.prog 21 #[.agg g0,.agg g1,.int .i64 Np2,g3] W fun e w'=>∃r0,e=.returned (.tuple #[.agg r0,.bool br1])∧Old W w'∧SR w' W.heap.size w'.heap.size r0)
 (cim:¬L0<0→¬L1<0→¬L3<0→∀W lo0 hi0 g0 lo1 hi1 g1 lo3 hi3 g3,X0 W lo0 hi0 g0→X1 W lo1 hi1 g1→X3 W lo3 hi3 g3→Old w W→Calls Tryz.prog 22 #[.agg g0,.agg g1,.int .i64 Np2,g3] W fun e w'=>∃r0,e=.returned (.tuple #[.agg r0,.bool br1])∧Old W w'∧IR0 w' W.heap.size w'.heap.size r0)
 (cer0:¬L0<0→¬L1<0→¬L3<0→∀W lo hi p lo' hi' p',IR0 W lo hi p→SR W lo' hi' p'→Calls Tryz.prog 14 #[.agg p,.agg p'] W fun e w'=>e=.returned (.bool true)∧Old W w')
 (m0:Int) (hm0:0≤m0) (cmr0:¬L0<0→¬L1<0→¬L3<0→∀W lo hi p,IR0 W lo hi p→Calls Tryz.prog 18 #[.agg p,.int .i64 1] W fun e w'=>e=.returned (.int .i64 m0)∧Chg W w' lo hi∧IR1 w' lo hi p)
 (chr0:¬L0<0→¬L1<0→¬L3<0→∀W lo hi p,IR1 W lo hi p→Calls Tryz.prog 20 #[.agg p,.int .i64 1] W fun e w'=>e=.returned (.int .i64 m0)∧Old W w') :
 Calls Tryz.prog 4 #[.agg #[.int .i64 Np0,.int .i64 Tp0,.int .i64 Ep0,.slice ap0 lp0 cp0],.agg #[.slice ap1 lp1 cp1],.int .i64 Np2,.slice ap3 lp3 cp3] w fun e w'=>e=.returned (.bool true)∧Old w w':=by
 have HA:Hid (Old w ((w.alloc (.cells #[.int .i64 Np0,.int .i64 Tp0,.int .i64 Ep0,.slice ap0 lp0 cp0] 24)).alloc (.cells #[.slice ap1 lp1 cp1] 27))):=(((Old.refl w).alloc _).alloc _)
 have BA0:Hid (Bk ((w.alloc (.cells #[.int .i64 Np0,.int .i64 Tp0,.int .i64 Ep0,.slice ap0 lp0 cp0] 24)).alloc (.cells #[.slice ap1 lp1 cp1] 27)) (w.heap.size) #[.int .i64 Np0,.int .i64 Tp0,.int .i64 Ep0,.slice ap0 lp0 cp0] 24):=((Bk.new' w _ _ (by simp)).alloc _)
 have BA1:Hid (Bk ((w.alloc (.cells #[.int .i64 Np0,.int .i64 Tp0,.int .i64 Ep0,.slice ap0 lp0 cp0] 24)).alloc (.cells #[.slice ap1 lp1 cp1] 27)) (w.heap.size+1) #[.slice ap1 lp1 cp1] 27):=(Bk.new' (w.alloc (.cells #[.int .i64 Np0,.int .i64 Tp0,.int .i64 Ep0,.slice ap0 lp0 cp0] 24)) _ _ (by simp))
 by_cases hL0:L0<0
 ·have dL0:decide (L0<0)=true:=decide_eq_true hL0
  go_enter Tryz.func4,Tryz.ntmps4
  go_wp2_with fail
  refine (csz0 _ (HA.out)).mono ?_
  rintro e s0 ⟨rfl,g0⟩
  have HS0:Hid (Old w s0):=Old.trans HA.out g0
  clear g0
  go_wp2_with fail
  go_ret
  exact ⟨rfl,HS0.out⟩
 have dL0:decide (L0<0)=false:=decide_eq_false hL0
 by_cases hL1:L1<0
 ·have dL1:decide (L1<0)=true:=decide_eq_true hL1
  go_enter Tryz.func4,Tryz.ntmps4
  go_wp2_with fail
  refine (csz0 _ (HA.out)).mono ?_
  rintro e s0 ⟨rfl,g0⟩
  have HS0:Hid (Old w s0):=Old.trans HA.out g0
  have BS0_0:Hid (Bk s0 (w.heap.size) #[.int .i64 Np0,.int .i64 Tp0,.int .i64 Ep0,.slice ap0 lp0 cp0] 24):=BA0.out.old g0
  have BS0_1:Hid (Bk s0 (w.heap.size+1) #[.slice ap1 lp1 cp1] 27):=BA1.out.old g0
  clear g0
  have y0:=BS0_1.out.c (i:=0) rfl
  go_wp2_with fail
  clear y0
  refine (csz1 hL0 _ (HS0.out)).mono ?_
  rintro e s1 ⟨rfl,g1⟩
  have HS1:Hid (Old w s1):=Old.trans HS0.out g1
  clear g1
  go_wp2_with fail
  go_ret
  exact ⟨rfl,HS1.out⟩
 have dL1:decide (L1<0)=false:=decide_eq_false hL1
 by_cases hL3:L3<0
 ·have dL3:decide (L3<0)=true:=decide_eq_true hL3
  go_enter Tryz.func4,Tryz.ntmps4
  go_wp2_with fail
  refine (csz0 _ (HA.out)).mono ?_
  rintro e s0 ⟨rfl,g0⟩
  have HS0:Hid (Old w s0):=Old.trans HA.out g0
  have BS0_0:Hid (Bk s0 (w.heap.size) #[.int .i64 Np0,.int .i64 Tp0,.int .i64 Ep0,.slice ap0 lp0 cp0] 24):=BA0.out.old g0
  have BS0_1:Hid (Bk s0 (w.heap.size+1) #[.slice ap1 lp1 cp1] 27):=BA1.out.old g0
  clear g0
  have y0:=BS0_1.out.c (i:=0) rfl
  go_wp2_with fail
  clear y0
  refine (csz1 hL0 _ (HS0.out)).mono ?_
  rintro e s1 ⟨rfl,g1⟩
  have HS1:Hid (Old w s1):=Old.trans HS0.out g1
  have BS1_0:Hid (Bk s1 (w.heap.size) #[.int .i64 Np0,.int .i64 Tp0,.int .i64 Ep0,.slice ap0 lp0 cp0] 24):=BS0_0.out.old g1
  have BS1_1:Hid (Bk s1 (w.heap.size+1) #[.slice ap1 lp1 cp1] 27):=BS0_1.out.old g1
  clear g1
  go_wp2_with fail
  refine (csz3 hL0 hL1 _ (HS1.out)).mono ?_
  rintro e s2 ⟨rfl,g2⟩
  have HS2:Hid (Old w s2):=Old.trans HS1.out g2
  clear g2
  go_wp2_with fail
  go_ret
  exact ⟨rfl,HS2.out⟩
 have dL3:decide (L3<0)=false:=decide_eq_false hL3
 have TO0:Hid (∀W,Old w W→Calls Tryz.prog 10 #[.agg #[.int .i64 Np0,.int .i64 Tp0,.int .i64 Ep0,.slice ap0 lp0 cp0]] W fun e w'=>∃g,e=.returned (.agg g)∧Old W w'∧X0 w' W.heap.size w'.heap.size g):=cto0 hL0 hL1 hL3
 replace ceq0:=ceq0 hL0 hL1 hL3
 replace cmk0:=cmk0 hL0 hL1 hL3
 clear cto0
 have TO1:Hid (∀W,Old w W→Calls Tryz.prog 11 #[.agg #[.slice ap1 lp1 cp1]] W fun e w'=>∃g,e=.returned (.agg g)∧Old W w'∧X1 w' W.heap.size w'.heap.size g):=cto1 hL0 hL1 hL3
 replace ceq1:=ceq1 hL0 hL1 hL3
 replace cmk1:=cmk1 hL0 hL1 hL3
 clear cto1
 have TO3:Hid (∀W,Old w W→Calls Tryz.prog 12 #[.slice ap3 lp3 cp3] W fun e w'=>∃g,e=.returned (g)∧Old W w'∧X3 w' W.heap.size w'.heap.size g):=cto3 hL0 hL1 hL3
 replace ceq3:=ceq3 hL0 hL1 hL3
 replace cmk3:=cmk3 hL0 hL1 hL3
 clear cto3
 replace csp:=csp hL0 hL1 hL3
 replace cim:=cim hL0 hL1 hL3
 replace cer0:=cer0 hL0 hL1 hL3
 replace cmr0:=cmr0 hL0 hL1 hL3
 replace chr0:=chr0 hL0 hL1 hL3
 have dro1:(br1 != br1)=false:=by simp
 go_enter Tryz.func4,Tryz.ntmps4
 go_wp2_with fail
 refine (csz0 _ (HA.out)).mono ?_
 rintro e s0 ⟨rfl,g0⟩
 have HS0:Hid (Old w s0):=Old.trans HA.out g0
 have BS0_0:Hid (Bk s0 (w.heap.size) #[.int .i64 Np0,.int .i64 Tp0,.int .i64 Ep0,.slice ap0 lp0 cp0] 24):=BA0.out.old g0
 have BS0_1:Hid (Bk s0 (w.heap.size+1) #[.slice ap1 lp1 cp1] 27):=BA1.out.old g0
 clear g0
 have y0:=BS0_1.out.c (i:=0) rfl
 go_wp2_with fail
 clear y0
 refine (csz1 hL0 _ (HS0.out)).mono ?_
 rintro e s1 ⟨rfl,g1⟩
 have HS1:Hid (Old w s1):=Old.trans HS0.out g1
 have BS1_0:Hid (Bk s1 (w.heap.size) #[.int .i64 Np0,.int .i64 Tp0,.int .i64 Ep0,.slice ap0 lp0 cp0] 24):=BS0_0.out.old g1
 have BS1_1:Hid (Bk s1 (w.heap.size+1) #[.slice ap1 lp1 cp1] 27):=BS0_1.out.old g1
 clear g1
 go_wp2_with fail
 refine (csz3 hL0 hL1 _ (HS1.out)).mono ?_
 rintro e s2 ⟨rfl,g2⟩
 have HS2:Hid (Old w s2):=Old.trans HS1.out g2
 have BS2_0:Hid (Bk s2 (w.heap.size) #[.int .i64 Np0,.int .i64 Tp0,.int .i64 Ep0,.slice ap0 lp0 cp0] 24):=BS1_0.out.old g2
 have BS2_1:Hid (Bk s2 (w.heap.size+1) #[.slice ap1 lp1 cp1] 27):=BS1_1.out.old g2
 clear g2
 have HG_0:Hid (Old w s2):=HS2.out
 have A0_0:Hid (Bk s2 (w.heap.size) #[.int .i64 Np0,.int .i64 Tp0,.int .i64 Ep0,.slice ap0 lp0 cp0] 24):=BS2_0.out
 have A1_0:Hid (Bk s2 (w.heap.size+1) #[.slice ap1 lp1 cp1] 27):=BS2_1.out
 have hsw:w.heap.size+2≤s2.heap.size:=by have:=A1_0.out.lt;omega
 clear csz0 csz1 csz3 BA0 BA1 HA HS0 HS1 HS2 BS0_0 BS0_1 BS1_0 BS1_1 BS2_0 BS2_1
 have zA0_0:=A0_0.out.c (i:=0) rfl
 have zA0_1:=A0_0.out.c (i:=1) rfl
 have zA0_2:=A0_0.out.c (i:=2) rfl
 have zA0_3:=A0_0.out.c (i:=3) rfl
 have zA1_0:=A1_0.out.c (i:=0) rfl
 go_wp2_with fail
 refine reg9_TurnCipherA s2 _ _ _ _ _ _ _ _ _ (fun W v=>∃lo hi g,v=.agg g∧X0 W lo hi g∧hi≤W.heap.size) (fun W W' v h g=>by obtain ⟨lo,hi,y,rfl,h1,h2⟩:=h;exact ⟨lo,hi,_,rfl,fX0.old h1 g h2,Nat.le_trans h2 g.size⟩) (fun W h=>(TO0.out W (Old.trans HG_0.out h)).mono (fun e w' h=>by obtain ⟨g,rfl,h1,h2⟩:=h;exact ⟨_,rfl,h1,_,_,g,rfl,h2,Nat.le_refl _⟩)) A0_0.out (fun W v=>∃lo hi g,v=.agg g∧X1 W lo hi g∧hi≤W.heap.size) (fun W W' v h g=>by obtain ⟨lo,hi,y,rfl,h1,h2⟩:=h;exact ⟨lo,hi,_,rfl,fX1.old h1 g h2,Nat.le_trans h2 g.size⟩) (fun W h=>(TO1.out W (Old.trans HG_0.out h)).mono (fun e w' h=>by obtain ⟨g,rfl,h1,h2⟩:=h;exact ⟨_,rfl,h1,_,_,g,rfl,h2,Nat.le_refl _⟩)) A1_0.out (fun W v=>∃lo hi g,v=g∧X3 W lo hi g∧hi≤W.heap.size) (fun W W' v h g=>by obtain ⟨lo,hi,y,rfl,h1,h2⟩:=h;exact ⟨lo,hi,_,rfl,fX3.old h1 g h2,Nat.le_trans h2 g.size⟩) (fun W h=>(TO3.out W (Old.trans HG_0.out h)).mono (fun e w' h=>by obtain ⟨g,rfl,h1,h2⟩:=h;exact ⟨_,rfl,h1,_,_,g,rfl,h2,Nat.le_refl _⟩)) (fun W lo hi g0 g1=>SR W lo hi g0∧g1=.bool br1) (fun W W' lo hi g0 g1 h h1 h2=>⟨fSR _ _ _ _ _ h.1 h1 h2,h.2⟩) (fun W v0 v1 v2 hO H0 H1 H2=>by obtain ⟨lo0,hi0,y0,rfl,x0,q0⟩:=H0;obtain ⟨lo1,hi1,y1,rfl,x1,q1⟩:=H1;obtain ⟨lo3,hi3,y3,rfl,x3,q3⟩:=H2;exact (csp W _ _ _ _ _ _ _ _ _ x0 x1 x3 (Old.trans HG_0.out hO)).mono (fun e w' h=>by obtain ⟨g0,rfl,h1,h2⟩:=h;obtain ⟨a0_,c0_,hq⟩:=hSR _ _ _ _ h2;subst hq;exact ⟨_,_,rfl,h1,rfl,(by simp [Value.oneCell']),h2,rfl⟩)) _ _ _ (by first | decide | simp) rfl rfl rfl rfl ?_
 intro ks0 los his q0 q1 u_0 u_1 u_2 u_3 u_4 u_5 u_6 u_7 u_8 u_9 u_10 ts gS loS_ hiS_ rS_ bS0 hks0 hls0 hns0
 obtain ⟨rS,rfl⟩:=rS_
 obtain ⟨as0,cs0,hq⟩:=hSR _ _ _ _ rS
 subst hq
 have h_s:s2.heap.size≤los∧his≤ts.heap.size:=⟨loS_,hiS_⟩
 obtain ⟨hlos,hhis⟩:=h_s
 clear loS_ hiS_
 simp only [putAll,Act.put]
 clear zA0_0 zA0_1 zA0_2 zA0_3 zA1_0
 have HG_1:Hid (Old w ts):=Old.trans HG_0.out (gS)
 have A0_1:Hid (Bk ts (w.heap.size) #[.int .i64 Np0,.int .i64 Tp0,.int .i64 Ep0,.slice ap0 lp0 cp0] 24):=A0_0.out.old (gS)
 have A1_1:Hid (Bk ts (w.heap.size+1) #[.slice ap1 lp1 cp1] 27):=A1_0.out.old (gS)
 clear HG_0 A0_0 A1_0
 have C0_1:Hid (Bk ts (ks0) #[.slice as0 lr0 cs0] 32):=bS0
 have SS_1:Hid (SR ts (los) (his) #[.slice as0 lr0 cs0]):=rS
 have hsts:=gS.size
 clear gS rS bS0
 have zA0_0:=A0_1.out.c (i:=0) rfl
 have zA0_1:=A0_1.out.c (i:=1) rfl
 have zA0_2:=A0_1.out.c (i:=2) rfl
 have zA0_3:=A0_1.out.c (i:=3) rfl
 go_wp2_with fail
 refine (TO0.out _ (HG_1.out)).mono ?_
 rintro e x0 ⟨y_,rfl,g_,o_⟩
 obtain ⟨ax0,cx0,rfl⟩:=hX0 _ _ _ _ o_
 clear zA0_0 zA0_1 zA0_2 zA0_3
 have hsx0:ts.heap.size≤x0.heap.size:=by have:=g_.size;first | exact this | (simp at this;omega)
 have HG_2:Hid (Old w (x0.alloc (.cells #[.int .i64 Np0,.int .i64 Tp0,.int .i64 Ep0,.slice ax0 lp0 cx0] 35))):=Old.trans HG_1.out (Old.trans g_ ((Old.refl x0).alloc _))
 have A0_2:Hid (Bk (x0.alloc (.cells #[.int .i64 Np0,.int .i64 Tp0,.int .i64 Ep0,.slice ax0 lp0 cx0] 35)) (w.heap.size) #[.int .i64 Np0,.int .i64 Tp0,.int .i64 Ep0,.slice ap0 lp0 cp0] 24):=A0_1.out.old (Old.trans g_ ((Old.refl x0).alloc _))
 have A1_2:Hid (Bk (x0.alloc (.cells #[.int .i64 Np0,.int .i64 Tp0,.int .i64 Ep0,.slice ax0 lp0 cx0] 35)) (w.heap.size+1) #[.slice ap1 lp1 cp1] 27):=A1_1.out.old (Old.trans g_ ((Old.refl x0).alloc _))
 have C0_2:Hid (Bk (x0.alloc (.cells #[.int .i64 Np0,.int .i64 Tp0,.int .i64 Ep0,.slice ax0 lp0 cx0] 35)) (ks0) #[.slice as0 lr0 cs0] 32):=C0_1.out.old (Old.trans g_ ((Old.refl x0).alloc _))
 have SS_2:Hid (SR (x0.alloc (.cells #[.int .i64 Np0,.int .i64 Tp0,.int .i64 Ep0,.slice ax0 lp0 cx0] 35)) (los) (his) #[.slice as0 lr0 cs0]):=fSR.old SS_1.out (Old.trans g_ ((Old.refl x0).alloc _)) (by first | omega | (simp;done) | (simp;omega))
 clear HG_1 A0_1 A1_1 C0_1 SS_1
 have Bx0_2:Hid (Bk (x0.alloc (.cells #[.int .i64 Np0,.int .i64 Tp0,.int .i64 Ep0,.slice ax0 lp0 cx0] 35)) (x0.heap.size) #[.int .i64 Np0,.int .i64 Tp0,.int .i64 Ep0,.slice ax0 lp0 cx0] 35):=Bk.new' x0 _ _ rfl
 have Rx0_2:Hid (X0 (x0.alloc (.cells #[.int .i64 Np0,.int .i64 Tp0,.int .i64 Ep0,.slice ax0 lp0 cx0] 35)) (ts.heap.size) (x0.heap.size) #[.int .i64 Np0,.int .i64 Tp0,.int .i64 Ep0,.slice ax0 lp0 cx0]):=fX0.old (by first | exact o_ | (simp at o_;exact o_)) ((Old.refl x0).alloc _) (Nat.le_refl _)
 clear g_ o_
 have zA1_0:=A1_2.out.c (i:=0) rfl
 go_wp2_with fail
 refine (TO1.out _ (HG_2.out)).mono ?_
 rintro e x1 ⟨y_,rfl,g_,o_⟩
 obtain ⟨ax1,cx1,rfl⟩:=hX1 _ _ _ _ o_
 clear zA1_0
 have hsx1:x0.heap.size+1≤x1.heap.size:=by have:=g_.size;first | exact this | (simp at this;omega)
 have HG_3:Hid (Old w (x1.alloc (.cells #[.slice ax1 lp1 cx1] 32))):=Old.trans HG_2.out (Old.trans g_ ((Old.refl x1).alloc _))
 have A0_3:Hid (Bk (x1.alloc (.cells #[.slice ax1 lp1 cx1] 32)) (w.heap.size) #[.int .i64 Np0,.int .i64 Tp0,.int .i64 Ep0,.slice ap0 lp0 cp0] 24):=A0_2.out.old (Old.trans g_ ((Old.refl x1).alloc _))
 have A1_3:Hid (Bk (x1.alloc (.cells #[.slice ax1 lp1 cx1] 32)) (w.heap.size+1) #[.slice ap1 lp1 cp1] 27):=A1_2.out.old (Old.trans g_ ((Old.refl x1).alloc _))
 have C0_3:Hid (Bk (x1.alloc (.cells #[.slice ax1 lp1 cx1] 32)) (ks0) #[.slice as0 lr0 cs0] 32):=C0_2.out.old (Old.trans g_ ((Old.refl x1).alloc _))
 have SS_3:Hid (SR (x1.alloc (.cells #[.slice ax1 lp1 cx1] 32)) (los) (his) #[.slice as0 lr0 cs0]):=fSR.old SS_2.out (Old.trans g_ ((Old.refl x1).alloc _)) (by first | omega | (simp;done) | (simp;omega))
 have Bx0_3:Hid (Bk (x1.alloc (.cells #[.slice ax1 lp1 cx1] 32)) (x0.heap.size) #[.int .i64 Np0,.int .i64 Tp0,.int .i64 Ep0,.slice ax0 lp0 cx0] 35):=Bx0_2.out.old (Old.trans g_ ((Old.refl x1).alloc _))
 have Rx0_3:Hid (X0 (x1.alloc (.cells #[.slice ax1 lp1 cx1] 32)) (ts.heap.size) (x0.heap.size) #[.int .i64 Np0,.int .i64 Tp0,.int .i64 Ep0,.slice ax0 lp0 cx0]):=fX0.old Rx0_2.out (Old.trans g_ ((Old.refl x1).alloc _)) (by first | omega | (simp;done) | (simp;omega))
 clear HG_2 A0_2 A1_2 C0_2 SS_2 Bx0_2 Rx0_2
 have Bx1_3:Hid (Bk (x1.alloc (.cells #[.slice ax1 lp1 cx1] 32)) (x1.heap.size) #[.slice ax1 lp1 cx1] 32):=Bk.new' x1 _ _ rfl
 have Rx1_3:Hid (X1 (x1.alloc (.cells #[.slice ax1 lp1 cx1] 32)) (x0.heap.size+1) (x1.heap.size) #[.slice ax1 lp1 cx1]):=fX1.old (by first | exact o_ | (simp at o_;exact o_)) ((Old.refl x1).alloc _) (Nat.le_refl _)
 clear g_ o_
 go_wp2_with fail
 refine (TO3.out _ (HG_3.out)).mono ?_
 rintro e x3 ⟨y_,rfl,g_,o_⟩
 obtain ⟨ax3,cx3,rfl⟩:=hX3 _ _ _ _ o_
 have hsx3:x1.heap.size+1≤x3.heap.size:=by have:=g_.size;first | exact this | (simp at this;omega)
 have HG_4:Hid (Old w x3):=Old.trans HG_3.out (g_)
 have A0_4:Hid (Bk x3 (w.heap.size) #[.int .i64 Np0,.int .i64 Tp0,.int .i64 Ep0,.slice ap0 lp0 cp0] 24):=A0_3.out.old (g_)
 have A1_4:Hid (Bk x3 (w.heap.size+1) #[.slice ap1 lp1 cp1] 27):=A1_3.out.old (g_)
 have C0_4:Hid (Bk x3 (ks0) #[.slice as0 lr0 cs0] 32):=C0_3.out.old (g_)
 have SS_4:Hid (SR x3 (los) (his) #[.slice as0 lr0 cs0]):=fSR.old SS_3.out (g_) (by first | omega | (simp;done) | (simp;omega))
 have Bx0_4:Hid (Bk x3 (x0.heap.size) #[.int .i64 Np0,.int .i64 Tp0,.int .i64 Ep0,.slice ax0 lp0 cx0] 35):=Bx0_3.out.old (g_)
 have Rx0_4:Hid (X0 x3 (ts.heap.size) (x0.heap.size) #[.int .i64 Np0,.int .i64 Tp0,.int .i64 Ep0,.slice ax0 lp0 cx0]):=fX0.old Rx0_3.out (g_) (by first | omega | (simp;done) | (simp;omega))
 have Bx1_4:Hid (Bk x3 (x1.heap.size) #[.slice ax1 lp1 cx1] 32):=Bx1_3.out.old (g_)
 have Rx1_4:Hid (X1 x3 (x0.heap.size+1) (x1.heap.size) #[.slice ax1 lp1 cx1]):=fX1.old Rx1_3.out (g_) (by first | omega | (simp;done) | (simp;omega))
 clear HG_3 A0_3 A1_3 C0_3 SS_3 Bx0_3 Rx0_3 Bx1_3 Rx1_3
 have Rx3_4:Hid (X3 x3 (x1.heap.size+1) (x3.heap.size) (.slice ax3 lp3 cx3)):=(by first | exact o_ | (simp at o_;exact o_))
 clear g_ o_
 have zBx0_0:=Bx0_4.out.c (i:=0) rfl
 have zBx0_1:=Bx0_4.out.c (i:=1) rfl
 have zBx0_2:=Bx0_4.out.c (i:=2) rfl
 have zBx0_3:=Bx0_4.out.c (i:=3) rfl
 have zBx1_0:=Bx1_4.out.c (i:=0) rfl
 go_wp2_with fail
 refine (cim _ _ _ _ _ _ _ _ _ _ Rx0_4.out Rx1_4.out Rx3_4.out (HG_4.out)).mono ?_
 rintro e p1 ⟨q0,rfl,gp,rp⟩
 obtain ⟨ag0,cg0,hq⟩:=hIR0 _ _ _ _ rp
 have hsp1:x3.heap.size≤p1.heap.size:=by have:=gp.size;first | exact this | (simp at this;omega)
 subst hq
 clear zBx0_0 zBx0_1 zBx0_2 zBx0_3 zBx1_0
 have HG_5:Hid (Old w (p1.alloc (.cells #[.slice ag0 lr0 cg0] 32))):=Old.trans HG_4.out (Old.trans gp (((Old.refl p1).alloc _)))
 have A0_5:Hid (Bk (p1.alloc (.cells #[.slice ag0 lr0 cg0] 32)) (w.heap.size) #[.int .i64 Np0,.int .i64 Tp0,.int .i64 Ep0,.slice ap0 lp0 cp0] 24):=A0_4.out.old (Old.trans gp (((Old.refl p1).alloc _)))
 have A1_5:Hid (Bk (p1.alloc (.cells #[.slice ag0 lr0 cg0] 32)) (w.heap.size+1) #[.slice ap1 lp1 cp1] 27):=A1_4.out.old (Old.trans gp (((Old.refl p1).alloc _)))
 have C0_5:Hid (Bk (p1.alloc (.cells #[.slice ag0 lr0 cg0] 32)) (ks0) #[.slice as0 lr0 cs0] 32):=C0_4.out.old (Old.trans gp (((Old.refl p1).alloc _)))
 have SS_5:Hid (SR (p1.alloc (.cells #[.slice ag0 lr0 cg0] 32)) (los) (his) #[.slice as0 lr0 cs0]):=fSR.old SS_4.out (Old.trans gp (((Old.refl p1).alloc _))) (by first | omega | (simp;done) | (simp;omega))
 have Bx0_5:Hid (Bk (p1.alloc (.cells #[.slice ag0 lr0 cg0] 32)) (x0.heap.size) #[.int .i64 Np0,.int .i64 Tp0,.int .i64 Ep0,.slice ax0 lp0 cx0] 35):=Bx0_4.out.old (Old.trans gp (((Old.refl p1).alloc _)))
 have Rx0_5:Hid (X0 (p1.alloc (.cells #[.slice ag0 lr0 cg0] 32)) (ts.heap.size) (x0.heap.size) #[.int .i64 Np0,.int .i64 Tp0,.int .i64 Ep0,.slice ax0 lp0 cx0]):=fX0.old Rx0_4.out (Old.trans gp (((Old.refl p1).alloc _))) (by first | omega | (simp;done) | (simp;omega))
 have Bx1_5:Hid (Bk (p1.alloc (.cells #[.slice ag0 lr0 cg0] 32)) (x1.heap.size) #[.slice ax1 lp1 cx1] 32):=Bx1_4.out.old (Old.trans gp (((Old.refl p1).alloc _)))
 have Rx1_5:Hid (X1 (p1.alloc (.cells #[.slice ag0 lr0 cg0] 32)) (x0.heap.size+1) (x1.heap.size) #[.slice ax1 lp1 cx1]):=fX1.old Rx1_4.out (Old.trans gp (((Old.refl p1).alloc _))) (by first | omega | (simp;done) | (simp;omega))
 have Rx3_5:Hid (X3 (p1.alloc (.cells #[.slice ag0 lr0 cg0] 32)) (x1.heap.size+1) (x3.heap.size) (.slice ax3 lp3 cx3)):=fX3.old Rx3_4.out (Old.trans gp (((Old.refl p1).alloc _))) (by first | omega | (simp;done) | (simp;omega))
 clear HG_4 A0_4 A1_4 C0_4 SS_4 Bx0_4 Rx0_4 Bx1_4 Rx1_4 Rx3_4
 have Bg0_5:Hid (Bk (p1.alloc (.cells #[.slice ag0 lr0 cg0] 32)) (p1.heap.size) #[.slice ag0 lr0 cg0] 32):=(Bk.new' p1 _ _ (by simp))
 have RG_5:Hid (IR0 (p1.alloc (.cells #[.slice ag0 lr0 cg0] 32)) (x3.heap.size) (p1.heap.size) #[.slice ag0 lr0 cg0]):=fIR0.old (by first | exact rp | (simp at rp;exact rp)) (((Old.refl p1).alloc _)) (Nat.le_refl _)
 clear gp rp
 have zBg0_0:=Bg0_5.out.c (i:=0) rfl
 have zC0_0:=C0_5.out.c (i:=0) rfl
 go_wp2_with fail
 refine (cer0 _ _ _ _ _ _ _ RG_5.out SS_5.out).mono ?_
 rintro e f0 ⟨rfl,g_⟩
 clear zBg0_0 zC0_0
 have hsf0:p1.heap.size+1≤f0.heap.size:=by have:=g_.size;first | omega | (simp at this;omega)
 have HG_6:Hid (Old w f0):=Old.trans HG_5.out (g_)
 have A0_6:Hid (Bk f0 (w.heap.size) #[.int .i64 Np0,.int .i64 Tp0,.int .i64 Ep0,.slice ap0 lp0 cp0] 24):=A0_5.out.old (g_)
 have A1_6:Hid (Bk f0 (w.heap.size+1) #[.slice ap1 lp1 cp1] 27):=A1_5.out.old (g_)
 have C0_6:Hid (Bk f0 (ks0) #[.slice as0 lr0 cs0] 32):=C0_5.out.old (g_)
 have SS_6:Hid (SR f0 (los) (his) #[.slice as0 lr0 cs0]):=fSR.old SS_5.out (g_) (by first | omega | (simp;done) | (simp;omega))
 have Bx0_6:Hid (Bk f0 (x0.heap.size) #[.int .i64 Np0,.int .i64 Tp0,.int .i64 Ep0,.slice ax0 lp0 cx0] 35):=Bx0_5.out.old (g_)
 have Rx0_6:Hid (X0 f0 (ts.heap.size) (x0.heap.size) #[.int .i64 Np0,.int .i64 Tp0,.int .i64 Ep0,.slice ax0 lp0 cx0]):=fX0.old Rx0_5.out (g_) (by first | omega | (simp;done) | (simp;omega))
 have Bx1_6:Hid (Bk f0 (x1.heap.size) #[.slice ax1 lp1 cx1] 32):=Bx1_5.out.old (g_)
 have Rx1_6:Hid (X1 f0 (x0.heap.size+1) (x1.heap.size) #[.slice ax1 lp1 cx1]):=fX1.old Rx1_5.out (g_) (by first | omega | (simp;done) | (simp;omega))
 have Rx3_6:Hid (X3 f0 (x1.heap.size+1) (x3.heap.size) (.slice ax3 lp3 cx3)):=fX3.old Rx3_5.out (g_) (by first | omega | (simp;done) | (simp;omega))
 have Bg0_6:Hid (Bk f0 (p1.heap.size) #[.slice ag0 lr0 cg0] 32):=Bg0_5.out.old (g_)
 have RG_6:Hid (IR0 f0 (x3.heap.size) (p1.heap.size) #[.slice ag0 lr0 cg0]):=fIR0.old RG_5.out (g_) (by first | omega | (simp;done) | (simp;omega))
 clear HG_5 A0_5 A1_5 C0_5 SS_5 Bx0_5 Rx0_5 Bx1_5 Rx1_5 Rx3_5 Bg0_5 RG_5
 clear g_
 have zBx0_0:=Bx0_6.out.c (i:=0) rfl
 have zBx0_1:=Bx0_6.out.c (i:=1) rfl
 have zBx0_2:=Bx0_6.out.c (i:=2) rfl
 have zBx0_3:=Bx0_6.out.c (i:=3) rfl
 have zA0_0:=A0_6.out.c (i:=0) rfl
 have zA0_1:=A0_6.out.c (i:=1) rfl
 have zA0_2:=A0_6.out.c (i:=2) rfl
 have zA0_3:=A0_6.out.c (i:=3) rfl
 have HAS:Hid (∀W',Old f0 W'→(W'.cell? ⟨x0.heap.size,0,none⟩=some (.int .i64 Np0)∧W'.cell? ⟨x0.heap.size,1,none⟩=some (.int .i64 Tp0)∧W'.cell? ⟨x0.heap.size,2,none⟩=some (.int .i64 Ep0)∧W'.cell? ⟨x0.heap.size,3,none⟩=some (.slice ax0 lp0 cx0)∧W'.cell? ⟨w.heap.size,0,none⟩=some (.int .i64 Np0)∧W'.cell? ⟨w.heap.size,1,none⟩=some (.int .i64 Tp0)∧W'.cell? ⟨w.heap.size,2,none⟩=some (.int .i64 Ep0)∧W'.cell? ⟨w.heap.size,3,none⟩=some (.slice ap0 lp0 cp0))):=fun W' g=>⟨(Bx0_6.out.old g).c (i:=0) rfl,(Bx0_6.out.old g).c (i:=1) rfl,(Bx0_6.out.old g).c (i:=2) rfl,(Bx0_6.out.old g).c (i:=3) rfl,(A0_6.out.old g).c (i:=0) rfl,(A0_6.out.old g).c (i:=1) rfl,(A0_6.out.old g).c (i:=2) rfl,(A0_6.out.old g).c (i:=3) rfl⟩
 go_wp2_with fail
 go_region_held3 (fun W'=>W'.cell? ⟨x0.heap.size,0,none⟩=some (.int .i64 Np0)∧W'.cell? ⟨x0.heap.size,1,none⟩=some (.int .i64 Tp0)∧W'.cell? ⟨x0.heap.size,2,none⟩=some (.int .i64 Ep0)∧W'.cell? ⟨x0.heap.size,3,none⟩=some (.slice ax0 lp0 cx0)∧W'.cell? ⟨w.heap.size,0,none⟩=some (.int .i64 Np0)∧W'.cell? ⟨w.heap.size,1,none⟩=some (.int .i64 Tp0)∧W'.cell? ⟨w.heap.size,2,none⟩=some (.int .i64 Ep0)∧W'.cell? ⟨w.heap.size,3,none⟩=some (.slice ap0 lp0 cp0)) (first | with_reducible exact HAS.out _ GE.out | with_reducible exact HAS.out _ GT.out | with_reducible exact HAS.out _ (Below.drew (Old.refl f0)) | with_reducible exact HAS.out _ (Old.refl f0)) (first
  | (go_at_call 10;refine (TO0.out _ (Below.drew HG_6.out)).mono ?_;rintro e wt ⟨y_,rfl,gt,ot⟩;obtain ⟨at_,ct_,rfl⟩:=hX0 _ _ _ _ ot;have GT:Hid (Old f0 wt):=Old.trans (Below.drew (Old.refl f0)) gt;have RT:Hid (X0 wt _ _ #[.int .i64 Np0,.int .i64 Tp0,.int .i64 Ep0,.slice at_ lp0 ct_]):=ot;clear gt ot)
  | (go_at_call 15;refine (ceq0 _ _ _ _ _ _ _ (fX0.old Rx0_6.out GT.out (by omega)) RT.out).mono ?_;rintro e v0 ⟨rfl,ge⟩;have GE:Hid (Old f0 v0):=Old.trans GT.out ge;clear ge)
  | fail)
 clear zBx0_0 zBx0_1 zBx0_2 zBx0_3 zA0_0 zA0_1 zA0_2 zA0_3
 have hsv0:=GE.out.size
 have HG_7:Hid (Old w v0):=Old.trans HG_6.out (GE.out)
 have A0_7:Hid (Bk v0 (w.heap.size) #[.int .i64 Np0,.int .i64 Tp0,.int .i64 Ep0,.slice ap0 lp0 cp0] 24):=A0_6.out.old (GE.out)
 have A1_7:Hid (Bk v0 (w.heap.size+1) #[.slice ap1 lp1 cp1] 27):=A1_6.out.old (GE.out)
 have C0_7:Hid (Bk v0 (ks0) #[.slice as0 lr0 cs0] 32):=C0_6.out.old (GE.out)
 have SS_7:Hid (SR v0 (los) (his) #[.slice as0 lr0 cs0]):=fSR.old SS_6.out (GE.out) (by first | omega | (simp;done) | (simp;omega))
 have Bx0_7:Hid (Bk v0 (x0.heap.size) #[.int .i64 Np0,.int .i64 Tp0,.int .i64 Ep0,.slice ax0 lp0 cx0] 35):=Bx0_6.out.old (GE.out)
 have Rx0_7:Hid (X0 v0 (ts.heap.size) (x0.heap.size) #[.int .i64 Np0,.int .i64 Tp0,.int .i64 Ep0,.slice ax0 lp0 cx0]):=fX0.old Rx0_6.out (GE.out) (by first | omega | (simp;done) | (simp;omega))
 have Bx1_7:Hid (Bk v0 (x1.heap.size) #[.slice ax1 lp1 cx1] 32):=Bx1_6.out.old (GE.out)
 have Rx1_7:Hid (X1 v0 (x0.heap.size+1) (x1.heap.size) #[.slice ax1 lp1 cx1]):=fX1.old Rx1_6.out (GE.out) (by first | omega | (simp;done) | (simp;omega))
 have Rx3_7:Hid (X3 v0 (x1.heap.size+1) (x3.heap.size) (.slice ax3 lp3 cx3)):=fX3.old Rx3_6.out (GE.out) (by first | omega | (simp;done) | (simp;omega))
 have Bg0_7:Hid (Bk v0 (p1.heap.size) #[.slice ag0 lr0 cg0] 32):=Bg0_6.out.old (GE.out)
 have RG_7:Hid (IR0 v0 (x3.heap.size) (p1.heap.size) #[.slice ag0 lr0 cg0]):=fIR0.old RG_6.out (GE.out) (by first | omega | (simp;done) | (simp;omega))
 clear HG_6 A0_6 A1_6 C0_6 SS_6 Bx0_6 Rx0_6 Bx1_6 Rx1_6 Rx3_6 Bg0_6 RG_6
 clear GE GT RT HAS
 have zBx1_0:=Bx1_7.out.c (i:=0) rfl
 have zA1_0:=A1_7.out.c (i:=0) rfl
 have HAS:Hid (∀W',Old v0 W'→(W'.cell? ⟨x1.heap.size,0,none⟩=some (.slice ax1 lp1 cx1)∧W'.cell? ⟨w.heap.size+1,0,none⟩=some (.slice ap1 lp1 cp1))):=fun W' g=>⟨(Bx1_7.out.old g).c (i:=0) rfl,(A1_7.out.old g).c (i:=0) rfl⟩
 go_wp2_with fail
 go_region_held3 (fun W'=>W'.cell? ⟨x1.heap.size,0,none⟩=some (.slice ax1 lp1 cx1)∧W'.cell? ⟨w.heap.size+1,0,none⟩=some (.slice ap1 lp1 cp1)) (first | with_reducible exact HAS.out _ GE.out | with_reducible exact HAS.out _ GT.out | with_reducible exact HAS.out _ (Below.drew (Old.refl v0)) | with_reducible exact HAS.out _ (Old.refl v0)) (first
  | (go_at_call 11;refine (TO1.out _ (Below.drew HG_7.out)).mono ?_;rintro e wt ⟨y_,rfl,gt,ot⟩;obtain ⟨at_,ct_,rfl⟩:=hX1 _ _ _ _ ot;have GT:Hid (Old v0 wt):=Old.trans (Below.drew (Old.refl v0)) gt;have RT:Hid (X1 wt _ _ #[.slice at_ lp1 ct_]):=ot;clear gt ot)
  | (go_at_call 14;refine (ceq1 _ _ _ _ _ _ _ (fX1.old Rx1_7.out GT.out (by omega)) RT.out).mono ?_;rintro e v1 ⟨rfl,ge⟩;have GE:Hid (Old v0 v1):=Old.trans GT.out ge;clear ge)
  | fail)
 clear zBx1_0 zA1_0
 have hsv1:=GE.out.size
 have HG_8:Hid (Old w v1):=Old.trans HG_7.out (GE.out)
 have A0_8:Hid (Bk v1 (w.heap.size) #[.int .i64 Np0,.int .i64 Tp0,.int .i64 Ep0,.slice ap0 lp0 cp0] 24):=A0_7.out.old (GE.out)
 have A1_8:Hid (Bk v1 (w.heap.size+1) #[.slice ap1 lp1 cp1] 27):=A1_7.out.old (GE.out)
 have C0_8:Hid (Bk v1 (ks0) #[.slice as0 lr0 cs0] 32):=C0_7.out.old (GE.out)
 have SS_8:Hid (SR v1 (los) (his) #[.slice as0 lr0 cs0]):=fSR.old SS_7.out (GE.out) (by first | omega | (simp;done) | (simp;omega))
 have Bx0_8:Hid (Bk v1 (x0.heap.size) #[.int .i64 Np0,.int .i64 Tp0,.int .i64 Ep0,.slice ax0 lp0 cx0] 35):=Bx0_7.out.old (GE.out)
 have Rx0_8:Hid (X0 v1 (ts.heap.size) (x0.heap.size) #[.int .i64 Np0,.int .i64 Tp0,.int .i64 Ep0,.slice ax0 lp0 cx0]):=fX0.old Rx0_7.out (GE.out) (by first | omega | (simp;done) | (simp;omega))
 have Bx1_8:Hid (Bk v1 (x1.heap.size) #[.slice ax1 lp1 cx1] 32):=Bx1_7.out.old (GE.out)
 have Rx1_8:Hid (X1 v1 (x0.heap.size+1) (x1.heap.size) #[.slice ax1 lp1 cx1]):=fX1.old Rx1_7.out (GE.out) (by first | omega | (simp;done) | (simp;omega))
 have Rx3_8:Hid (X3 v1 (x1.heap.size+1) (x3.heap.size) (.slice ax3 lp3 cx3)):=fX3.old Rx3_7.out (GE.out) (by first | omega | (simp;done) | (simp;omega))
 have Bg0_8:Hid (Bk v1 (p1.heap.size) #[.slice ag0 lr0 cg0] 32):=Bg0_7.out.old (GE.out)
 have RG_8:Hid (IR0 v1 (x3.heap.size) (p1.heap.size) #[.slice ag0 lr0 cg0]):=fIR0.old RG_7.out (GE.out) (by first | omega | (simp;done) | (simp;omega))
 clear HG_7 A0_7 A1_7 C0_7 SS_7 Bx0_7 Rx0_7 Bx1_7 Rx1_7 Rx3_7 Bg0_7 RG_7
 clear GE GT RT HAS
 go_wp2_with fail
 refine (TO3.out _ (HG_8.out)).mono ?_
 rintro e wt ⟨y_,rfl,gt,ot⟩
 obtain ⟨at_,ct_,rfl⟩:=hX3 _ _ _ _ ot
 have GT:Hid (Old v1 wt):=gt
 have RT:Hid (X3 wt _ _ (.slice at_ lp3 ct_)):=ot
 clear gt ot
 go_wp2_with fail
 refine (ceq3 _ _ _ _ _ _ _ (fX3.old Rx3_8.out GT.out (by omega)) RT.out).mono ?_
 rintro e v3 ⟨rfl,ge⟩
 have GE:Hid (Old v1 v3):=Old.trans GT.out ge
 clear ge
 have hsv3:=GE.out.size
 have HG_9:Hid (Old w v3):=Old.trans HG_8.out (GE.out)
 have A0_9:Hid (Bk v3 (w.heap.size) #[.int .i64 Np0,.int .i64 Tp0,.int .i64 Ep0,.slice ap0 lp0 cp0] 24):=A0_8.out.old (GE.out)
 have A1_9:Hid (Bk v3 (w.heap.size+1) #[.slice ap1 lp1 cp1] 27):=A1_8.out.old (GE.out)
 have C0_9:Hid (Bk v3 (ks0) #[.slice as0 lr0 cs0] 32):=C0_8.out.old (GE.out)
 have SS_9:Hid (SR v3 (los) (his) #[.slice as0 lr0 cs0]):=fSR.old SS_8.out (GE.out) (by first | omega | (simp;done) | (simp;omega))
 have Bx0_9:Hid (Bk v3 (x0.heap.size) #[.int .i64 Np0,.int .i64 Tp0,.int .i64 Ep0,.slice ax0 lp0 cx0] 35):=Bx0_8.out.old (GE.out)
 have Rx0_9:Hid (X0 v3 (ts.heap.size) (x0.heap.size) #[.int .i64 Np0,.int .i64 Tp0,.int .i64 Ep0,.slice ax0 lp0 cx0]):=fX0.old Rx0_8.out (GE.out) (by first | omega | (simp;done) | (simp;omega))
 have Bx1_9:Hid (Bk v3 (x1.heap.size) #[.slice ax1 lp1 cx1] 32):=Bx1_8.out.old (GE.out)
 have Rx1_9:Hid (X1 v3 (x0.heap.size+1) (x1.heap.size) #[.slice ax1 lp1 cx1]):=fX1.old Rx1_8.out (GE.out) (by first | omega | (simp;done) | (simp;omega))
 have Rx3_9:Hid (X3 v3 (x1.heap.size+1) (x3.heap.size) (.slice ax3 lp3 cx3)):=fX3.old Rx3_8.out (GE.out) (by first | omega | (simp;done) | (simp;omega))
 have Bg0_9:Hid (Bk v3 (p1.heap.size) #[.slice ag0 lr0 cg0] 32):=Bg0_8.out.old (GE.out)
 have RG_9:Hid (IR0 v3 (x3.heap.size) (p1.heap.size) #[.slice ag0 lr0 cg0]):=fIR0.old RG_8.out (GE.out) (by first | omega | (simp;done) | (simp;omega))
 clear HG_8 A0_8 A1_8 C0_8 SS_8 Bx0_8 Rx0_8 Bx1_8 Rx1_8 Rx3_8 Bg0_8 RG_8
 clear GE GT RT
 have zBx0_0:=Bx0_9.out.c (i:=0) rfl
 have zBx0_1:=Bx0_9.out.c (i:=1) rfl
 have zBx0_2:=Bx0_9.out.c (i:=2) rfl
 have zBx0_3:=Bx0_9.out.c (i:=3) rfl
 go_wp2_with fail
 refine (cmk0 _ _ _ _ Rx0_9.out).mono ?_
 rintro e y0 ⟨rfl,gm⟩
 clear zBx0_0 zBx0_1 zBx0_2 zBx0_3
 have hsy0:=gm.size
 have HG_10:Hid (Old w y0):=Old.chg HG_9.out (gm) (by omega)
 have A0_10:Hid (Bk y0 (w.heap.size) #[.int .i64 Np0,.int .i64 Tp0,.int .i64 Ep0,.slice ap0 lp0 cp0] 24):=A0_9.out.chg (gm) (by omega)
 have A1_10:Hid (Bk y0 (w.heap.size+1) #[.slice ap1 lp1 cp1] 27):=A1_9.out.chg (gm) (by omega)
 have C0_10:Hid (Bk y0 (ks0) #[.slice as0 lr0 cs0] 32):=C0_9.out.chg (gm) (by omega)
 have SS_10:Hid (SR y0 (los) (his) #[.slice as0 lr0 cs0]):=fSR.chg SS_9.out (gm) (by first | omega | (simp;done) | (simp;omega)) (by omega)
 have Bx0_10:Hid (Bk y0 (x0.heap.size) #[.int .i64 Np0,.int .i64 Tp0,.int .i64 Ep0,.slice ax0 lp0 cx0] 35):=Bx0_9.out.chg (gm) (by omega)
 have Bx1_10:Hid (Bk y0 (x1.heap.size) #[.slice ax1 lp1 cx1] 32):=Bx1_9.out.chg (gm) (by omega)
 have Rx1_10:Hid (X1 y0 (x0.heap.size+1) (x1.heap.size) #[.slice ax1 lp1 cx1]):=fX1.chg Rx1_9.out (gm) (by first | omega | (simp;done) | (simp;omega)) (by omega)
 have Rx3_10:Hid (X3 y0 (x1.heap.size+1) (x3.heap.size) (.slice ax3 lp3 cx3)):=fX3.chg Rx3_9.out (gm) (by first | omega | (simp;done) | (simp;omega)) (by omega)
 have Bg0_10:Hid (Bk y0 (p1.heap.size) #[.slice ag0 lr0 cg0] 32):=Bg0_9.out.chg (gm) (by omega)
 have RG_10:Hid (IR0 y0 (x3.heap.size) (p1.heap.size) #[.slice ag0 lr0 cg0]):=fIR0.chg RG_9.out (gm) (by first | omega | (simp;done) | (simp;omega)) (by omega)
 clear HG_9 A0_9 A1_9 C0_9 SS_9 Bx0_9 Rx0_9 Bx1_9 Rx1_9 Rx3_9 Bg0_9 RG_9
 clear gm
 have zBx1_0:=Bx1_10.out.c (i:=0) rfl
 go_wp2_with fail
 refine (cmk1 _ _ _ _ Rx1_10.out).mono ?_
 rintro e y1 ⟨rfl,gm⟩
 clear zBx1_0
 have hsy1:=gm.size
 have HG_11:Hid (Old w y1):=Old.chg HG_10.out (gm) (by omega)
 have A0_11:Hid (Bk y1 (w.heap.size) #[.int .i64 Np0,.int .i64 Tp0,.int .i64 Ep0,.slice ap0 lp0 cp0] 24):=A0_10.out.chg (gm) (by omega)
 have A1_11:Hid (Bk y1 (w.heap.size+1) #[.slice ap1 lp1 cp1] 27):=A1_10.out.chg (gm) (by omega)
 have C0_11:Hid (Bk y1 (ks0) #[.slice as0 lr0 cs0] 32):=C0_10.out.chg (gm) (by omega)
 have SS_11:Hid (SR y1 (los) (his) #[.slice as0 lr0 cs0]):=fSR.chg SS_10.out (gm) (by first | omega | (simp;done) | (simp;omega)) (by omega)
 have Bx0_11:Hid (Bk y1 (x0.heap.size) #[.int .i64 Np0,.int .i64 Tp0,.int .i64 Ep0,.slice ax0 lp0 cx0] 35):=Bx0_10.out.chg (gm) (by omega)
 have Bx1_11:Hid (Bk y1 (x1.heap.size) #[.slice ax1 lp1 cx1] 32):=Bx1_10.out.chg (gm) (by omega)
 have Rx3_11:Hid (X3 y1 (x1.heap.size+1) (x3.heap.size) (.slice ax3 lp3 cx3)):=fX3.chg Rx3_10.out (gm) (by first | omega | (simp;done) | (simp;omega)) (by omega)
 have Bg0_11:Hid (Bk y1 (p1.heap.size) #[.slice ag0 lr0 cg0] 32):=Bg0_10.out.chg (gm) (by omega)
 have RG_11:Hid (IR0 y1 (x3.heap.size) (p1.heap.size) #[.slice ag0 lr0 cg0]):=fIR0.chg RG_10.out (gm) (by first | omega | (simp;done) | (simp;omega)) (by omega)
 clear HG_10 A0_10 A1_10 C0_10 SS_10 Bx0_10 Bx1_10 Rx1_10 Rx3_10 Bg0_10 RG_10
 clear gm
 go_wp2_with fail
 refine (cmk3 _ _ _ _ Rx3_11.out).mono ?_
 rintro e y3 ⟨rfl,gm⟩
 have hsy3:=gm.size
 have HG_12:Hid (Old w y3):=Old.chg HG_11.out (gm) (by omega)
 have A0_12:Hid (Bk y3 (w.heap.size) #[.int .i64 Np0,.int .i64 Tp0,.int .i64 Ep0,.slice ap0 lp0 cp0] 24):=A0_11.out.chg (gm) (by omega)
 have A1_12:Hid (Bk y3 (w.heap.size+1) #[.slice ap1 lp1 cp1] 27):=A1_11.out.chg (gm) (by omega)
 have C0_12:Hid (Bk y3 (ks0) #[.slice as0 lr0 cs0] 32):=C0_11.out.chg (gm) (by omega)
 have SS_12:Hid (SR y3 (los) (his) #[.slice as0 lr0 cs0]):=fSR.chg SS_11.out (gm) (by first | omega | (simp;done) | (simp;omega)) (by omega)
 have Bx0_12:Hid (Bk y3 (x0.heap.size) #[.int .i64 Np0,.int .i64 Tp0,.int .i64 Ep0,.slice ax0 lp0 cx0] 35):=Bx0_11.out.chg (gm) (by omega)
 have Bx1_12:Hid (Bk y3 (x1.heap.size) #[.slice ax1 lp1 cx1] 32):=Bx1_11.out.chg (gm) (by omega)
 have Bg0_12:Hid (Bk y3 (p1.heap.size) #[.slice ag0 lr0 cg0] 32):=Bg0_11.out.chg (gm) (by omega)
 have RG_12:Hid (IR0 y3 (x3.heap.size) (p1.heap.size) #[.slice ag0 lr0 cg0]):=fIR0.chg RG_11.out (gm) (by first | omega | (simp;done) | (simp;omega)) (by omega)
 clear HG_11 A0_11 A1_11 C0_11 SS_11 Bx0_11 Bx1_11 Rx3_11 Bg0_11 RG_11
 clear gm
 have dk:decide (k3<0)=false:=decide_eq_false (by omega)
 have zBg0_0:=Bg0_12.out.c (i:=0) rfl
 have zC0_0:=C0_12.out.c (i:=0) rfl
 go_wp2_with fail
 refine (cer0 _ _ _ _ _ _ _ RG_12.out SS_12.out).mono ?_
 rintro e h0 ⟨rfl,g_⟩
 clear zBg0_0 zC0_0
 have hsh0:=g_.size
 have HG_13:Hid (Old w h0):=Old.trans HG_12.out (g_)
 have A0_13:Hid (Bk h0 (w.heap.size) #[.int .i64 Np0,.int .i64 Tp0,.int .i64 Ep0,.slice ap0 lp0 cp0] 24):=A0_12.out.old (g_)
 have A1_13:Hid (Bk h0 (w.heap.size+1) #[.slice ap1 lp1 cp1] 27):=A1_12.out.old (g_)
 have C0_13:Hid (Bk h0 (ks0) #[.slice as0 lr0 cs0] 32):=C0_12.out.old (g_)
 have SS_13:Hid (SR h0 (los) (his) #[.slice as0 lr0 cs0]):=fSR.old SS_12.out (g_) (by first | omega | (simp;done) | (simp;omega))
 have Bx0_13:Hid (Bk h0 (x0.heap.size) #[.int .i64 Np0,.int .i64 Tp0,.int .i64 Ep0,.slice ax0 lp0 cx0] 35):=Bx0_12.out.old (g_)
 have Bx1_13:Hid (Bk h0 (x1.heap.size) #[.slice ax1 lp1 cx1] 32):=Bx1_12.out.old (g_)
 have Bg0_13:Hid (Bk h0 (p1.heap.size) #[.slice ag0 lr0 cg0] 32):=Bg0_12.out.old (g_)
 have RG_13:Hid (IR0 h0 (x3.heap.size) (p1.heap.size) #[.slice ag0 lr0 cg0]):=fIR0.old RG_12.out (g_) (by first | omega | (simp;done) | (simp;omega))
 clear HG_12 A0_12 A1_12 C0_12 SS_12 Bx0_12 Bx1_12 Bg0_12 RG_12
 clear g_
 have zBg0_0:=Bg0_13.out.c (i:=0) rfl
 go_wp2_with fail
 refine (cmr0 _ _ _ _ RG_13.out).mono ?_
 rintro e i0 ⟨rfl,gm,rm⟩
 clear zBg0_0
 have hsi0:=gm.size
 have HG_14:Hid (Old w i0):=Old.chg HG_13.out (gm) (by omega)
 have A0_14:Hid (Bk i0 (w.heap.size) #[.int .i64 Np0,.int .i64 Tp0,.int .i64 Ep0,.slice ap0 lp0 cp0] 24):=A0_13.out.chg (gm) (by omega)
 have A1_14:Hid (Bk i0 (w.heap.size+1) #[.slice ap1 lp1 cp1] 27):=A1_13.out.chg (gm) (by omega)
 have C0_14:Hid (Bk i0 (ks0) #[.slice as0 lr0 cs0] 32):=C0_13.out.chg (gm) (by omega)
 have SS_14:Hid (SR i0 (los) (his) #[.slice as0 lr0 cs0]):=fSR.chg SS_13.out (gm) (by first | omega | (simp;done) | (simp;omega)) (by omega)
 have Bx0_14:Hid (Bk i0 (x0.heap.size) #[.int .i64 Np0,.int .i64 Tp0,.int .i64 Ep0,.slice ax0 lp0 cx0] 35):=Bx0_13.out.chg (gm) (by omega)
 have Bx1_14:Hid (Bk i0 (x1.heap.size) #[.slice ax1 lp1 cx1] 32):=Bx1_13.out.chg (gm) (by omega)
 have Bg0_14:Hid (Bk i0 (p1.heap.size) #[.slice ag0 lr0 cg0] 32):=Bg0_13.out.chg (gm) (by omega)
 clear HG_13 A0_13 A1_13 C0_13 SS_13 Bx0_13 Bx1_13 Bg0_13 RG_13
 have RG_14:Hid (IR1 i0 (x3.heap.size) (p1.heap.size) #[.slice ag0 lr0 cg0]):=rm
 clear gm rm
 have dm0:decide (m0<0)=false:=decide_eq_false (by omega)
 have dmm:(m0 != m0)=false:=by simp
 have zBg0_0:=Bg0_14.out.c (i:=0) rfl
 go_wp2_with fail
 refine (chr0 _ _ _ _ RG_14.out).mono ?_
 rintro e j0 ⟨rfl,g_⟩
 clear zBg0_0
 have hsj0:=g_.size
 have HG_15:Hid (Old w j0):=Old.trans HG_14.out (g_)
 have A0_15:Hid (Bk j0 (w.heap.size) #[.int .i64 Np0,.int .i64 Tp0,.int .i64 Ep0,.slice ap0 lp0 cp0] 24):=A0_14.out.old (g_)
 have A1_15:Hid (Bk j0 (w.heap.size+1) #[.slice ap1 lp1 cp1] 27):=A1_14.out.old (g_)
 have C0_15:Hid (Bk j0 (ks0) #[.slice as0 lr0 cs0] 32):=C0_14.out.old (g_)
 have SS_15:Hid (SR j0 (los) (his) #[.slice as0 lr0 cs0]):=fSR.old SS_14.out (g_) (by first | omega | (simp;done) | (simp;omega))
 have Bx0_15:Hid (Bk j0 (x0.heap.size) #[.int .i64 Np0,.int .i64 Tp0,.int .i64 Ep0,.slice ax0 lp0 cx0] 35):=Bx0_14.out.old (g_)
 have Bx1_15:Hid (Bk j0 (x1.heap.size) #[.slice ax1 lp1 cx1] 32):=Bx1_14.out.old (g_)
 have Bg0_15:Hid (Bk j0 (p1.heap.size) #[.slice ag0 lr0 cg0] 32):=Bg0_14.out.old (g_)
 have RG_15:Hid (IR1 j0 (x3.heap.size) (p1.heap.size) #[.slice ag0 lr0 cg0]):=fIR1.old RG_14.out (g_) (by first | omega | (simp;done) | (simp;omega))
 clear HG_14 A0_14 A1_14 C0_14 SS_14 Bx0_14 Bx1_14 Bg0_14 RG_14
 clear g_
 have zA0_0:=A0_15.out.c (i:=0) rfl
 have zA0_1:=A0_15.out.c (i:=1) rfl
 have zA0_2:=A0_15.out.c (i:=2) rfl
 have zA0_3:=A0_15.out.c (i:=3) rfl
 have zA1_0:=A1_15.out.c (i:=0) rfl
 go_wp2_with fail
 refine reg9_TurnCipherB j0 _ _ _ _ _ _ _ _ _ (fun W v=>∃lo hi g,v=.agg g∧X0 W lo hi g∧hi≤W.heap.size) (fun W W' v h g=>by obtain ⟨lo,hi,y,rfl,h1,h2⟩:=h;exact ⟨lo,hi,_,rfl,fX0.old h1 g h2,Nat.le_trans h2 g.size⟩) (fun W h=>(TO0.out W (Old.trans HG_15.out h)).mono (fun e w' h=>by obtain ⟨g,rfl,h1,h2⟩:=h;exact ⟨_,rfl,h1,_,_,g,rfl,h2,Nat.le_refl _⟩)) A0_15.out (fun W v=>∃lo hi g,v=.agg g∧X1 W lo hi g∧hi≤W.heap.size) (fun W W' v h g=>by obtain ⟨lo,hi,y,rfl,h1,h2⟩:=h;exact ⟨lo,hi,_,rfl,fX1.old h1 g h2,Nat.le_trans h2 g.size⟩) (fun W h=>(TO1.out W (Old.trans HG_15.out h)).mono (fun e w' h=>by obtain ⟨g,rfl,h1,h2⟩:=h;exact ⟨_,rfl,h1,_,_,g,rfl,h2,Nat.le_refl _⟩)) A1_15.out (fun W v=>∃lo hi g,v=g∧X3 W lo hi g∧hi≤W.heap.size) (fun W W' v h g=>by obtain ⟨lo,hi,y,rfl,h1,h2⟩:=h;exact ⟨lo,hi,_,rfl,fX3.old h1 g h2,Nat.le_trans h2 g.size⟩) (fun W h=>(TO3.out W (Old.trans HG_15.out h)).mono (fun e w' h=>by obtain ⟨g,rfl,h1,h2⟩:=h;exact ⟨_,rfl,h1,_,_,g,rfl,h2,Nat.le_refl _⟩)) (fun W lo hi g0 g1=>IR0 W lo hi g0∧g1=.bool br1) (fun W W' lo hi g0 g1 h h1 h2=>⟨fIR0 _ _ _ _ _ h.1 h1 h2,h.2⟩) (fun W v0 v1 v2 hO H0 H1 H2=>by obtain ⟨lo0,hi0,y0,rfl,x0,q0⟩:=H0;obtain ⟨lo1,hi1,y1,rfl,x1,q1⟩:=H1;obtain ⟨lo3,hi3,y3,rfl,x3,q3⟩:=H2;exact (cim W _ _ _ _ _ _ _ _ _ x0 x1 x3 (Old.trans HG_15.out hO)).mono (fun e w' h=>by obtain ⟨g0,rfl,h1,h2⟩:=h;obtain ⟨a0_,c0_,hq⟩:=hIR0 _ _ _ _ h2;subst hq;exact ⟨_,_,rfl,h1,rfl,(by simp [Value.oneCell']),h2,rfl⟩)) _ _ _ (by first | decide | simp) rfl rfl rfl rfl ?_
 intro kt0 lot hit q0 q1 u_0 u_1 u_2 u_3 u_4 u_5 u_6 u_7 u_8 u_9 u_10 ts2 gS loS_ hiS_ rS_ bS0 hkt0 hlt0 hnt0
 obtain ⟨rS,rfl⟩:=rS_
 obtain ⟨at0,ct0,hq⟩:=hIR0 _ _ _ _ rS
 subst hq
 have h_t:j0.heap.size≤lot∧hit≤ts2.heap.size:=⟨loS_,hiS_⟩
 obtain ⟨hlot,hhit⟩:=h_t
 clear loS_ hiS_
 simp only [putAll,Act.put]
 clear zA0_0 zA0_1 zA0_2 zA0_3 zA1_0
 have HG_16:Hid (Old w ts2):=Old.trans HG_15.out (gS)
 have A0_16:Hid (Bk ts2 (w.heap.size) #[.int .i64 Np0,.int .i64 Tp0,.int .i64 Ep0,.slice ap0 lp0 cp0] 24):=A0_15.out.old (gS)
 have A1_16:Hid (Bk ts2 (w.heap.size+1) #[.slice ap1 lp1 cp1] 27):=A1_15.out.old (gS)
 have C0_16:Hid (Bk ts2 (ks0) #[.slice as0 lr0 cs0] 32):=C0_15.out.old (gS)
 have SS_16:Hid (SR ts2 (los) (his) #[.slice as0 lr0 cs0]):=fSR.old SS_15.out (gS) (by first | omega | (simp;done) | (simp;omega))
 have Bx0_16:Hid (Bk ts2 (x0.heap.size) #[.int .i64 Np0,.int .i64 Tp0,.int .i64 Ep0,.slice ax0 lp0 cx0] 35):=Bx0_15.out.old (gS)
 have Bx1_16:Hid (Bk ts2 (x1.heap.size) #[.slice ax1 lp1 cx1] 32):=Bx1_15.out.old (gS)
 have Bg0_16:Hid (Bk ts2 (p1.heap.size) #[.slice ag0 lr0 cg0] 32):=Bg0_15.out.old (gS)
 have RG_16:Hid (IR1 ts2 (x3.heap.size) (p1.heap.size) #[.slice ag0 lr0 cg0]):=fIR1.old RG_15.out (gS) (by first | omega | (simp;done) | (simp;omega))
 clear HG_15 A0_15 A1_15 C0_15 SS_15 Bx0_15 Bx1_15 Bg0_15 RG_15
 have D0_16:Hid (Bk ts2 (kt0) #[.slice at0 lr0 ct0] 32):=bS0
 have HH_16:Hid (IR0 ts2 (lot) (hit) #[.slice at0 lr0 ct0]):=rS
 have hsts2:=gS.size
 clear gS rS bS0
 have zD0_0:=D0_16.out.c (i:=0) rfl
 have zC0_0:=C0_16.out.c (i:=0) rfl
 go_wp2_with fail
 refine (cer0 _ _ _ _ _ _ _ HH_16.out SS_16.out).mono ?_
 rintro e o0 ⟨rfl,g_⟩
 clear zD0_0 zC0_0
 have hso0:ts2.heap.size≤o0.heap.size:=by have:=g_.size;first | exact this | (simp at this;omega)
 have HG_17:Hid (Old w o0):=Old.trans HG_16.out (g_)
 have A0_17:Hid (Bk o0 (w.heap.size) #[.int .i64 Np0,.int .i64 Tp0,.int .i64 Ep0,.slice ap0 lp0 cp0] 24):=A0_16.out.old (g_)
 have A1_17:Hid (Bk o0 (w.heap.size+1) #[.slice ap1 lp1 cp1] 27):=A1_16.out.old (g_)
 have C0_17:Hid (Bk o0 (ks0) #[.slice as0 lr0 cs0] 32):=C0_16.out.old (g_)
 have SS_17:Hid (SR o0 (los) (his) #[.slice as0 lr0 cs0]):=fSR.old SS_16.out (g_) (by first | omega | (simp;done) | (simp;omega))
 have Bx0_17:Hid (Bk o0 (x0.heap.size) #[.int .i64 Np0,.int .i64 Tp0,.int .i64 Ep0,.slice ax0 lp0 cx0] 35):=Bx0_16.out.old (g_)
 have Bx1_17:Hid (Bk o0 (x1.heap.size) #[.slice ax1 lp1 cx1] 32):=Bx1_16.out.old (g_)
 have Bg0_17:Hid (Bk o0 (p1.heap.size) #[.slice ag0 lr0 cg0] 32):=Bg0_16.out.old (g_)
 have RG_17:Hid (IR1 o0 (x3.heap.size) (p1.heap.size) #[.slice ag0 lr0 cg0]):=fIR1.old RG_16.out (g_) (by first | omega | (simp;done) | (simp;omega))
 have D0_17:Hid (Bk o0 (kt0) #[.slice at0 lr0 ct0] 32):=D0_16.out.old (g_)
 have HH_17:Hid (IR0 o0 (lot) (hit) #[.slice at0 lr0 ct0]):=fIR0.old HH_16.out (g_) (by first | omega | (simp;done) | (simp;omega))
 clear HG_16 A0_16 A1_16 C0_16 SS_16 Bx0_16 Bx1_16 Bg0_16 RG_16 D0_16 HH_16
 clear g_
 have zBg0_0:=Bg0_17.out.c (i:=0) rfl
 go_wp2_with fail
 refine (chr0 _ _ _ _ RG_17.out).mono ?_
 rintro e n0 ⟨rfl,g_⟩
 clear zBg0_0
 have hsn0:=g_.size
 have HG_18:Hid (Old w n0):=Old.trans HG_17.out (g_)
 have A0_18:Hid (Bk n0 (w.heap.size) #[.int .i64 Np0,.int .i64 Tp0,.int .i64 Ep0,.slice ap0 lp0 cp0] 24):=A0_17.out.old (g_)
 have A1_18:Hid (Bk n0 (w.heap.size+1) #[.slice ap1 lp1 cp1] 27):=A1_17.out.old (g_)
 have C0_18:Hid (Bk n0 (ks0) #[.slice as0 lr0 cs0] 32):=C0_17.out.old (g_)
 have SS_18:Hid (SR n0 (los) (his) #[.slice as0 lr0 cs0]):=fSR.old SS_17.out (g_) (by first | omega | (simp;done) | (simp;omega))
 have Bx0_18:Hid (Bk n0 (x0.heap.size) #[.int .i64 Np0,.int .i64 Tp0,.int .i64 Ep0,.slice ax0 lp0 cx0] 35):=Bx0_17.out.old (g_)
 have Bx1_18:Hid (Bk n0 (x1.heap.size) #[.slice ax1 lp1 cx1] 32):=Bx1_17.out.old (g_)
 have Bg0_18:Hid (Bk n0 (p1.heap.size) #[.slice ag0 lr0 cg0] 32):=Bg0_17.out.old (g_)
 have RG_18:Hid (IR1 n0 (x3.heap.size) (p1.heap.size) #[.slice ag0 lr0 cg0]):=fIR1.old RG_17.out (g_) (by first | omega | (simp;done) | (simp;omega))
 have D0_18:Hid (Bk n0 (kt0) #[.slice at0 lr0 ct0] 32):=D0_17.out.old (g_)
 have HH_18:Hid (IR0 n0 (lot) (hit) #[.slice at0 lr0 ct0]):=fIR0.old HH_17.out (g_) (by first | omega | (simp;done) | (simp;omega))
 clear HG_17 A0_17 A1_17 C0_17 SS_17 Bx0_17 Bx1_17 Bg0_17 RG_17 D0_17 HH_17
 clear g_
 go_wp2_with fail
 go_ret
 exact ⟨rfl,HG_18.out⟩
end Go.Proofs.YtanijpekdnkicaaGreatDoor
