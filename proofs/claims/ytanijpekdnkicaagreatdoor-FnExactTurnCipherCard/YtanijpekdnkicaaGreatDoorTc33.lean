/- Proved: what its theorems say. -/
import Derived.Test.YtanijpekdnkicaaGreatDoorTc30
import Derived.Test.YtanijpekdnkicaaGreatDoorTc21
import Derived.Test.YtanijpekdnkicaaGreatDoorTc31
import Derived.Test.YtanijpekdnkicaaGreatDoorTc23
import Derived.Test.YtanijpekdnkicaaGreatDoorTc32
import Derived.Test.YtanijpekdnkicaaGreatDoorTc29
import Derived.Test.YtanijpekdnkicaaGreatDoorLawTurnCipher
import Derived.Test.YtanijpekdnkicaaGreatDoorTc11
import Derived.Test.YtanijpekdnkicaaGreatDoorTc14
import Derived.Test.YtanijpekdnkicaaGreatDoorTc22
import Derived.Test.YtanijpekdnkicaaGreatDoorTc25
namespace Go.Proofs.YtanijpekdnkicaaGreatDoor
open Go.ChangeShapes Go.WideShapes Go.ChangeAt Go.RowKit
open M1
set_option linter.unusedVariables false
set_option linter.unusedSimpArgs false
theorem l5Turn_x (Nn t:Nat) (ps:List Int) (Rf:Nat→Int) (xss:List (List Int)) (v u:Value) (w:World) (hN:2≤Nn∧Nn≤16) (ht:t<2*Nn) (hps:1≤ps.length∧ps.length≤6) (hpb:∀k,k<ps.length→2≤ps.getD k 0∧ps.getD k 0≤268435456) (hx:OkX Nn ps xss) (hl:xss.length=ps.length) (hv:Row w v ps) (h1:RowS w u xss) :
 Calls Tryz.prog 56 #[.agg #[.int .i64 (Nn:Int),v],u,.int .i64 (t:Int)] w fun e w'=>∃v',e=.returned v'∧Old w w'∧RowS w' v' (tuL Nn t ps xss):=by
 refine (spec_l5Turn (Nn:Int) t ps xss (tuL Nn t ps xss) v u w hv h1 hps hl (tuL_len _ _ _ _) (fun k hk W u1 hr=>?_)).mono fun e w' h=>?_
 ·have hp:=hpb k hk
  obtain ⟨P,eP⟩:∃P:Nat,ps.getD k 0=P:=⟨(ps.getD k 0).toNat,by omega⟩
  obtain ⟨ys,e1,hl2,hlt⟩:=okX_toZ hx hk eP
  rw [tuL_get _ _ _ _ _ hk,e1,toZ_nat,eP]
  rw [e1] at hr
  exact spec_turned P Nn 0 t ys u1 W hr (by omega) hN hl2 hlt ht
 ·obtain ⟨v',e1,g,o⟩:=h
  exact ⟨v',e1,g,o.rowS⟩
set_option maxRecDepth 100000 in
set_option maxHeartbeats 4000000 in
theorem spec_TurnCipher_any (N T E t:Int) (ps:List Int) (xsss:List (List (List Int))) (kss:List PrV) (v u y:Value) (w:World) (hv:Row w v ps) (hf:Fit v) (hu:RowT w u xsss) (ht:RowK w y kss) (htb : -9223372036854775808≤t∧t≤9223372036854775807) (hlp:ps.length≤9223372036854775807) (hl:xsss.length≤1048576) (hr:∀r∈xsss,r.length≤1048576∧∀q∈r,q.length≤1048576) (hl2:kss.length≤1048576) (hr2:∀r∈kss,PrLe 1048576 r) (hx:∀x∈ps,-9223372036854775808≤x∧x≤9223372036854775807) (Z:List (List (List Int))) (ok:Bool) (hy:((prB N T E ps&&(ciB N ps xsss&&decide (xsss.length=2)))&&(turnB N t&&(decide (kss.length=ps.length)&&pkB N ps kss)))=true→Z=[swA N.toNat ps (tuL N.toNat t.toNat ps (xsss.getD 1 [])) (·.2) kss (tuL N.toNat t.toNat ps (xsss.getD 0 [])) ps.length,swA N.toNat ps (tuL N.toNat t.toNat ps (xsss.getD 1 [])) (·.1) kss (smS ps (List.replicate N.toNat 0)) ps.length]∧ok=true) (hn:((prB N T E ps&&(ciB N ps xsss&&decide (xsss.length=2)))&&(turnB N t&&(decide (kss.length=ps.length)&&pkB N ps kss)))=false→Z=[]∧ok=false) :
 Calls Tryz.prog 21 #[.agg #[.int .i64 N,.int .i64 T,.int .i64 E,v],.agg #[u],.int .i64 t,y] w (CiA Z ok w):=by
 have HY:Hid (((prB N T E ps&&(ciB N ps xsss&&decide (xsss.length=2)))&&(turnB N t&&(decide (kss.length=ps.length)&&pkB N ps kss)))=true→Z=[swA N.toNat ps (tuL N.toNat t.toNat ps (xsss.getD 1 [])) (·.2) kss (tuL N.toNat t.toNat ps (xsss.getD 0 [])) ps.length,swA N.toNat ps (tuL N.toNat t.toNat ps (xsss.getD 1 [])) (·.1) kss (smS ps (List.replicate N.toNat 0)) ps.length]∧ok=true):=hy
 have HNN:Hid (((prB N T E ps&&(ciB N ps xsss&&decide (xsss.length=2)))&&(turnB N t&&(decide (kss.length=ps.length)&&pkB N ps kss)))=false→Z=[]∧ok=false):=hn
 have HTB:=hidP htb
 clear hy hn htb
 have KG:=hidP (fun W (g:Old w W)=>spec_goodCipher N T E ps xsss v u W (hv.old g) hf (hu.old g) hlp hl hr hx)
 have KP:=hidP (fun (hs:spB N ps=true) W (g:Old w W)=>l9Pairs_any N T E ps kss v y W (hv.old g) (ht.old g) hl2 hr2 hs)
 have HV:=hidP hv
 have HU:=hidP hu
 have HT:=hidP ht
 obtain ⟨a0,c0,rfl⟩:=hv.slice
 obtain ⟨a1,c1,rfl⟩:=hu.slice
 obtain ⟨a2,c2,rfl⟩:=ht.slice
 obtain ⟨W1,hW1⟩:∃B:World,((w.alloc (.cells #[.int .i64 N,.int .i64 T,.int .i64 E,.slice a0 ps.length c0] 35)).alloc (.cells #[.slice a1 xsss.length c1] 32)).alloc (.cells #[.slice none 0 0] 32)=B:=⟨_,rfl⟩
 have O1:Hid (Old w W1):=by rw [← hW1];exact (((Old.refl w).alloc _).alloc _).alloc _
 have P1:Hid (Bk W1 w.heap.size #[.int .i64 N,.int .i64 T,.int .i64 E,.slice a0 ps.length c0] 35):=by rw [← hW1];exact ((Bk.new' w _ _ rfl).alloc _).alloc _
 have C1:Hid (Bk W1 (w.heap.size+1) #[.slice a1 xsss.length c1] 32):=by rw [← hW1];exact (Bk.new' _ _ _ (by simp)).alloc _
 have R1:Hid (Bk W1 (w.heap.size+1+1) #[.slice none 0 0] 32):=by rw [← hW1];exact Bk.new' _ _ _ (by simp)
 obtain ⟨kp,hkp⟩:∃k,w.heap.size=k:=⟨_,rfl⟩
 have HKP:=hidP hkp
 rw [hkp] at P1 C1 R1
 have p0:=P1.out.c (i:=0) rfl
 have p1:=P1.out.c (i:=1) rfl
 have p2:=P1.out.c (i:=2) rfl
 have p3:=P1.out.c (i:=3) rfl
 have z0:=C1.out.c (i:=0) rfl
 have KG1:=hidP (KG.out W1 O1.out)
 clear hv hf hu ht hl hr hl2 hr2 hx hlp KG
 go_enter Tryz.func21,Tryz.ntmps21
 go_wp2_with fail
 refine KG1.out.mono ?_
 rintro e w2 ⟨rfl,g2⟩
 have G2:=hidP (Old.trans O1.out g2)
 have P2:=hidP (P1.out.old g2)
 have C2:=hidP (C1.out.old g2)
 have R2:=hidP (R1.out.old g2)
 clear g2 P1 C1 R1 O1 p0 p1 p2 p3 z0 hW1 hkp KG1
 cases hb:(prB N T E ps&&ciB N ps xsss)
 ·have HB:Hid (Z=[]∧ok=false):=HNN.out (by
   cases h1:prB N T E ps
   ·rfl
   ·rw [h1,Bool.true_and] at hb
    rw [hb]
    rfl)
  clear hb
  have f0:w2.frozen? ⟨kp+1+1,0,none⟩=false:=frozen_of_row _ _ _ _ _ R2.out
  have y0:=R2.out.c (i:=0) rfl
  go_wp2_with fail
  have q0:=(ci_put R2.out (.slice none 0 0)).c (i:=0) rfl
  refine bodyPost_ret (v:=.tuple #[.agg #[.slice none 0 0],.bool false]) (by simp [results,Tryz.results21,go_sem,q0]) rfl ?_
  rw [HB.out.1,HB.out.2]
  exact ⟨_,rfl,G2.out.own (p:=⟨kp+1+1,0,none⟩) (by have:=HKP.out;show w.heap.size≤kp+1+1;omega) _,XC.nil2 (Nat.le_refl _)⟩
 ·rw [Bool.and_eq_true] at hb
  have HPB:=hidP hb.1
  have HCB:=hidP hb.2
  clear hb
  have z0:=C2.out.c (i:=0) rfl
  by_cases h3:xsss.length=2
  case neg=>
   have HB:Hid (Z=[]∧ok=false):=HNN.out (by rw [HPB.out,HCB.out,decide_eq_false h3];rfl)
   have d:((xsss.length:Int) != 2)=true:=by
    have:¬(xsss.length:Int)=2:=by omega
    exact bne_iff_ne.2 this
   clear h3
   have f0:w2.frozen? ⟨kp+1+1,0,none⟩=false:=frozen_of_row _ _ _ _ _ R2.out
   have y0:=R2.out.c (i:=0) rfl
   go_wp2_with fail
   have q0:=(ci_put R2.out (.slice none 0 0)).c (i:=0) rfl
   refine bodyPost_ret (v:=.tuple #[.agg #[.slice none 0 0],.bool false]) (by simp [results,Tryz.results21,go_sem,q0]) rfl ?_
   rw [HB.out.1,HB.out.2]
   exact ⟨_,rfl,G2.out.own (p:=⟨kp+1+1,0,none⟩) (by have:=HKP.out;show w.heap.size≤kp+1+1;omega) _,XC.nil2 (Nat.le_refl _)⟩
  have H3:=hidP h3
  rw [h3] at z0
  clear h3
  have hsp:=prB_sp HPB.out
  have hz4:=(sp_ring hsp).1
  have CO:=hidP (fun W=>spec_odd N t W HTB.out (by omega))
  have p0:=P2.out.c (i:=0) rfl
  have p1:=P2.out.c (i:=1) rfl
  have p2:=P2.out.c (i:=2) rfl
  have p3:=P2.out.c (i:=3) rfl
  have KP2:=hidP (KP.out hsp w2 G2.out)
  have HSP:=hidP hsp
  clear hsp KP hz4
  go_wp2_with fail
  refine (CO.out _).mono ?_
  rintro e w2' ⟨rfl,hw⟩
  obtain rfl:w2=w2':=hw.symm
  clear hw CO
  cases htn:turnB N t
  ·have HB:Hid (Z=[]∧ok=false):=HNN.out (by rw [htn,Bool.false_and,Bool.and_false])
   clear htn
   have f0:w2.frozen? ⟨kp+1+1,0,none⟩=false:=frozen_of_row _ _ _ _ _ R2.out
   have y0:=R2.out.c (i:=0) rfl
   go_wp2_with fail
   have q0:=(ci_put R2.out (.slice none 0 0)).c (i:=0) rfl
   refine bodyPost_ret (v:=.tuple #[.agg #[.slice none 0 0],.bool false]) (by simp [results,Tryz.results21,go_sem,q0]) rfl ?_
   rw [HB.out.1,HB.out.2]
   exact ⟨_,rfl,G2.out.own (p:=⟨kp+1+1,0,none⟩) (by have:=HKP.out;show w.heap.size≤kp+1+1;omega) _,XC.nil2 (Nat.le_refl _)⟩
  have HTN:=hidP htn
  clear htn
  go_wp2_with fail
  refine KP2.out.mono ?_
  rintro e w3 ⟨rfl,g3⟩
  have G3:=hidP (Old.trans G2.out g3)
  have P3:=hidP (P2.out.old g3)
  have C3:=hidP (C2.out.old g3)
  have R3:=hidP (R2.out.old g3)
  clear g3 P2 C2 R2 p0 p1 p2 p3 z0 KP2 G2
  cases hb:(decide (kss.length=ps.length)&&pkB N ps kss)
  ·have HB:Hid (Z=[]∧ok=false):=HNN.out (by rw [hb,Bool.and_false,Bool.and_false])
   clear hb
   have f0:w3.frozen? ⟨kp+1+1,0,none⟩=false:=frozen_of_row _ _ _ _ _ R3.out
   have y0:=R3.out.c (i:=0) rfl
   go_wp2_with fail
   have q0:=(ci_put R3.out (.slice none 0 0)).c (i:=0) rfl
   refine bodyPost_ret (v:=.tuple #[.agg #[.slice none 0 0],.bool false]) (by simp [results,Tryz.results21,go_sem,q0]) rfl ?_
   rw [HB.out.1,HB.out.2]
   exact ⟨_,rfl,G3.out.own (p:=⟨kp+1+1,0,none⟩) (by have:=HKP.out;show w.heap.size≤kp+1+1;omega) _,XC.nil2 (Nat.le_refl _)⟩
  ·obtain ⟨eZ,eok⟩:=HY.out (by rw [HPB.out,HCB.out,decide_eq_true H3.out,HTN.out,hb];rfl)
   rw [Bool.and_eq_true,decide_eq_true_eq] at hb
   obtain ⟨hz4,hbb,_⟩:=sp_ring HSP.out
   obtain ⟨Nn,rfl⟩:∃Nn:Nat,N=(Nn:Int):=⟨N.toNat,by omega⟩
   have hNn:2≤Nn∧Nn≤16:=by omega
   have htn:=HTN.out
   obtain ⟨tn,rfl⟩:∃tn:Nat,t=(tn:Int):=⟨t.toNat,by
    unfold turnB at htn
    simp at htn
    omega⟩
   have htlt:tn<2*Nn:=by
    unfold turnB at htn
    simp at htn
    omega
   have hps:=(bas_at hbb).1
   have hS4:Sz4 Nn:=by unfold Sz4;omega
   have hpb:∀k,k<ps.length→2≤ps.getD k 0∧ps.getD k 0≤268435456:=fun k hk=>pm_bd ((bas_at hbb).2 k hk)
   obtain ⟨Rf,hRb⟩:=Rings_rt (Nn:Int) ps
   have hrt:RtS Nn ps Rf:=rts_of hRb HSP.out
   obtain ⟨hm,hBr⟩:=rd_true HCB.out
   have h3:=H3.out
   have lx:∀j,j<2→(xsss.getD j []).length=ps.length∧OkX Nn ps (xsss.getD j []):=fun j hj=>⟨(rw_parts (hBr j (by omega))).1,okX_rw (hBr j (by omega))⟩
   rcases HU.out with ⟨_,_,_,e2⟩ | ⟨b,o,cap,us,e,hb0,h00,hc⟩
   ·rw [e2] at h3
    simp at h3
   obtain ⟨rfl,rfl⟩:a1=some ⟨b,o,none⟩∧c1=cap:=by simpa using e
   obtain ⟨q0,r0⟩:=hc 0 (by omega)
   obtain ⟨q1,r1⟩:=hc 1 (by omega)
   obtain ⟨x0,m0,e0⟩:=r0.slice
   obtain ⟨x1,m1,e1⟩:=r1.slice
   rw [e0] at q0 r0
   rw [e1] at q1 r1
   obtain ⟨T0,hT0⟩:∃z,tuL Nn tn ps (xsss.getD 0 [])=z:=⟨_,rfl⟩
   obtain ⟨T1,hT1⟩:∃z,tuL Nn tn ps (xsss.getD 1 [])=z:=⟨_,rfl⟩
   obtain ⟨TZ,hTZ⟩:∃z,smS ps (List.replicate Nn 0)=z:=⟨_,rfl⟩
   have oT0:OkX Nn ps T0∧T0.length=ps.length:=by rw [← hT0];exact ⟨okX_tu hpb (lx 0 (by omega)).2,tuL_len _ _ _ _⟩
   have oT1:OkX Nn ps T1∧T1.length=ps.length:=by rw [← hT1];exact ⟨okX_tu hpb (lx 1 (by omega)).2,tuL_len _ _ _ _⟩
   have oTZ:OkX Nn ps TZ∧TZ.length=ps.length:=by rw [← hTZ];exact ⟨okX_zero hpb,smS_len _ _⟩
   have K1:=hidP (fun W (q:Old w W)=>l5Turn_x Nn tn ps Rf (xsss.getD 1 []) (.slice a0 ps.length c0) _ W hNn htlt hps hpb (lx 1 (by omega)).2 (lx 1 (by omega)).1 (HV.out.old q) (r1.old q))
   have K0:=hidP (fun W (q:Old w W)=>l5Turn_x Nn tn ps Rf (xsss.getD 0 []) (.slice a0 ps.length c0) _ W hNn htlt hps hpb (lx 0 (by omega)).2 (lx 0 (by omega)).1 (HV.out.old q) (r0.old q))
   have K2:=hidP (fun W (q:Old w W) u (hr:Row W u (List.replicate Nn 0))=>spec_l8Small Nn T E ps (List.replicate Nn 0) (.slice a0 ps.length c0) u W (HV.out.old q) hr hps (by simp;omega) hpb (fun i hi=>by
    have:(List.replicate Nn (0:Int)).getD i 0=0:=by simp [List.getD,List.getElem?_replicate];split <;> rfl
    rw [this]
    omega))
   have KD:=hidP (fun W (q:Old w W) u0 u1 u2 (h0:RowS W u0 T0) (h1:RowS W u1 TZ) (h2:RowS W u2 T1)=>l9Digits_any Nn T E ps Rf kss T0 TZ T1 (.slice a0 ps.length c0) u0 u1 u2 (.slice a2 kss.length c2) W (HV.out.old q) h0 h1 h2 (HT.out.old q) hS4 hps hpb hrt oT0.1 oTZ.1 oT1.1 oT0.2 oTZ.2 oT1.2 hb.1 hb.2)
   rw [hT1] at K1
   rw [hT0] at K0
   rw [hTZ] at K2
   generalize (xsss.getD 0 []).length=l0 at *
   generalize (xsss.getD 1 []).length=l1 at *
   have C3':Hid (Bk w3 (kp+1) #[.slice (some ⟨b,o,none⟩) 2 c1] 32):=by
    have h:=C3.out
    rw [h3] at h
    exact h
   have hkp:=HKP.out
   have en:((Nn:Nat):Int).toNat=Nn:=rfl
   have et:((tn:Nat):Int).toNat=tn:=rfl
   rw [en,et,hT0,hT1,hTZ] at eZ
   obtain ⟨ZL,hZL⟩:∃z,[swA Nn ps T1 (·.2) kss T0 ps.length,swA Nn ps T1 (·.1) kss TZ ps.length]=z:=⟨_,rfl⟩
   rw [hZL] at eZ
   rw [hZL] at KD
   have HEND:Hid (∀w' r0,Old w w'→XC ZL w' w.heap.size w'.heap.size r0→CiA Z ok w (.returned (.tuple #[.agg r0,.bool true])) w'):=fun w' r0 h1 h2=>by
    rw [eZ,eok]
    exact ⟨r0,rfl,h1,h2⟩
   have HKH:=hidP hkp
   have Q0:=hidP ((G3.out.cell (p:=⟨b,o,none⟩) hb0).trans q0)
   have Q1:=hidP ((G3.out.cell (p:=⟨b,o+1,none⟩) hb0).trans q1)
   have HB0:=hidP (Nat.lt_of_lt_of_le hb0 G3.out.size)
   have HN16:=hidP hNn
   have KSp:=hidP (fun W=>l8Space_any (Nn:Int) T E a0 ps.length c0 W)
   clear hb hz4 hbb hNn hps hS4 hpb hRb hrt hm hBr h3 lx hb0 h00 hc q0 q1 r0 r1 e0 e1 C3 hkp en et hZL eZ eok e HU HT HV HPB HCB H3 HSP HY HNN htn htlt hT0 hT1 hTZ oT0 oT1 oTZ HTN HTB
   have x0':=P3.out.c (i:=0) rfl
   have x1':=P3.out.c (i:=1) rfl
   have x2':=P3.out.c (i:=2) rfl
   have x3':=P3.out.c (i:=3) rfl
   go_wp2_with fail
   refine (KSp.out _).mono ?_
   rintro e w4 ⟨rfl,g4⟩
   obtain ⟨W4,hW4⟩:∃B:World,w4.alloc (.cells #[.int .i64 (Nn:Int),.slice a0 ps.length c0] 104)=B:=⟨_,rfl⟩
   have O4:Old w3 W4:=by rw [← hW4];exact g4.alloc _
   have S4':Hid (Bk W4 w4.heap.size #[.int .i64 (Nn:Int),.slice a0 ps.length c0] 104):=by rw [← hW4];exact Bk.new' _ _ _ rfl
   have G4:=hidP (Old.trans G3.out O4)
   have O4h:=hidP O4
   have P4:=hidP (P3.out.old O4)
   have C4:=hidP (C3'.out.old O4)
   have R4:=hidP (R3.out.old O4)
   obtain ⟨ks,hks⟩:∃k,w4.heap.size=k:=⟨_,rfl⟩
   rw [hks] at S4'
   clear O4 g4 P3 C3' R3 x0' x1' x2' x3' KSp
   go_wp2_with fail
   refine reg_Tq W4 (kp+1+1) Nn T E tn a0 ps.length c0 kp ks (kp+1) b o c1 x0 x1 a2 l0 m0 l1 m1 Nn kss.length c2 ZL.length (fun W v=>RowS W v T0) (fun W v=>RowS W v T1) (fun W v=>RowS W v TZ) (fun W a c=>XC ZL W W4.heap.size W.heap.size #[.slice a ZL.length c]) (fun _ _ _ h q=>h.old q) (fun _ _ _ h q=>h.old q) (fun _ _ _ h q=>h.old q) (fun W W' a c h q=>?hX) rfl (by have:=HN16.out;omega) P4.out S4'.out C4.out R4.out (Nat.lt_of_lt_of_le HB0.out O4h.out.size) ((O4h.out.cell (p:=⟨b,o,none⟩) HB0.out).trans Q0.out) ((O4h.out.cell (p:=⟨b,o+1,none⟩) HB0.out).trans Q1.out) (fun W q=>K1.out W (Old.trans G4.out q)) (fun W q=>K0.out W (Old.trans G4.out q)) (fun W u q hr=>((K2.out W (Old.trans G4.out q) u hr).mono fun e w' h=>?hS)) (fun W u1 u0 u2 q h1 h0 h2=>((KD.out W (Old.trans G4.out q) u0 u2 u1 h0 h2 h1).mono fun e w' h=>?hD)) _ _ ?_ ?_ ?_ ?_ ?_ ?_ ?_ ?_
   case hX=>
    obtain ⟨a',c',e',o'⟩:=h
    exact ⟨a',c',e',(Ows.old (good_TTT ZL) o' q).low (Nat.le_refl _) q.size (Nat.le_refl _)⟩
   case hS=>
    obtain ⟨v',e1,g,o⟩:=h
    exact ⟨v',e1,g,o.rowS⟩
   case hD=>
    obtain ⟨r0,rfl,g,xx⟩:=h
    obtain ⟨a5,c5,rfl⟩:=shape_XC _ _ _ _ xx
    obtain ⟨a',c',e',o'⟩:=xx
    exact ⟨a5,c5,rfl,g,a',c',e',o'.low q.size (Nat.le_refl _) (Nat.le_refl _)⟩
   iterate 7 (·exact rfl)
   intro us W a5 c5 q5 X5
   have R5:=hidP (R4.out.old q5)
   have HX5:=hidP X5
   have G59:=hidP (Old.trans G4.out q5)
   have HL3:Hid (kp+1+1<W4.heap.size∧w.heap.size≤kp+1+1∧w.heap.size≤W4.heap.size):=by
    have h1:=R4.out.lt
    have h2:=HKH.out
    show kp+1+1<W4.heap.size∧w.heap.size≤kp+1+1∧w.heap.size≤W4.heap.size
    omega
   simp only [putAll,Act.put,slotTq,List.range,List.range.loop,List.map_cons,List.map_nil,List.getD_cons_zero,List.getD_cons_succ,List.setIfInBounds_toArray,List.set_cons_succ,List.set_cons_zero]
   clear q5 X5 K0 K1 K2 KD Q0 Q1 HB0 P4 C4 R4 S4' hW4 hks
   go_wp2_with fail
   have q0:=(ci_put R5.out (.slice a5 ZL.length c5)).c (i:=0) rfl
   refine bodyPost_ret (v:=.tuple #[.agg #[.slice a5 ZL.length c5],.bool true]) (by simp [results,Tryz.results21,go_sem,q0]) rfl (HEND.out _ _ (G59.out.own (p:=⟨kp+1+1,0,none⟩) HL3.out.2.1 _) ?_)
   obtain ⟨a6,c6,e6,o6⟩:=HX5.out
   simp at e6
   obtain ⟨rfl,rfl⟩:=e6
   refine ⟨a5,c5,rfl,?_⟩
   have h2:=o6.putT (k:=kp+1+1) (j:=0) (x:=.slice a5 ZL.length c5) (.inl HL3.out.1)
   exact h2.low (lo':=w.heap.size) HL3.out.2.2 (by simp) (Nat.le_refl _)
set_option maxRecDepth 100000 in
theorem TurnCipher_any (N T E t:Int) (xs:List Int) (xsss:List (List (List Int))) (kss:List PrV) (v u y:Value) (w:World) (hv:Row w v xs) (hl:xs.length≤9223372036854775807) (hx:∀x∈xs,-9223372036854775808≤x∧x≤9223372036854775807) (hu:RowT w u xsss) (hs:xsss.length≤9223372036854775807) (hsr:∀r∈xsss,r.length≤9223372036854775807∧∀q∈r,q.length≤9223372036854775807) (ht:RowK w y kss) (htb : -9223372036854775808≤t∧t≤9223372036854775807) (hks:kss.length≤9223372036854775807) (hkr:∀r∈kss,PrLe 9223372036854775807 r) (hP:PrsW w) (hT:TabW w) :
 Calls Tryz.prog 4 #[.agg #[.int .i64 N,.int .i64 T,.int .i64 E,v],.agg #[u],.int .i64 t,y] w fun e w'=>e=.returned (.bool true)∧Old w w':=by
 obtain ⟨a0,c0,rfl⟩:=hv.slice
 obtain ⟨a1,c1,eu⟩:=hu.slice
 obtain ⟨a2,c2,et⟩:=ht.slice
 subst eu et
 have bnd:∀{A:Prop},¬leftN 1048576 xs.length<0→¬leftTT (leftN 1048576 xs.length) xsss<0→¬leftKK (leftTT (leftN 1048576 xs.length) xsss) kss<0→(xs.length≤1048576→xsss.length≤1048576→(∀r∈xsss,r.length≤1048576∧∀q∈r,q.length≤1048576)→offT xsss xsss.length≤1048576→kss.length≤1048576→(∀r∈kss,PrLe 1048576 r)→offK kss kss.length≤1048576→A)→A:=fun h0 h1 h2 k=>by
  obtain ⟨q1,q2,q3⟩:=leftN_ok h0 (by omega)
  obtain ⟨p1,p2,p3,p4,p5⟩:=leftTT_ok q3 h1
  obtain ⟨r1,r2,r3,r4,r5⟩:=leftKK_ok (by omega) h2
  exact k (by omega) (by omega) (fun r hr=>by
   have:=p5 r hr
   exact ⟨by omega,fun q hq=>by have:=this.2 q hq;omega⟩) (by omega) (by omega) (fun r hr=>(r5 r hr).mono (by omega)) (by omega)
 obtain ⟨Z,ok,hy,hn,z1,z2⟩:∃(Z:List (List (List Int))) (ok:Bool),(((prB N T E xs&&(ciB N xs xsss&&decide (xsss.length=2)))&&(turnB N t&&(decide (kss.length=xs.length)&&pkB N xs kss)))=true→Z=[swA N.toNat xs (tuL N.toNat t.toNat xs (xsss.getD 1 [])) (·.2) kss (tuL N.toNat t.toNat xs (xsss.getD 0 [])) xs.length,swA N.toNat xs (tuL N.toNat t.toNat xs (xsss.getD 1 [])) (·.1) kss (smS xs (List.replicate N.toNat 0)) xs.length]∧ok=true)∧(((prB N T E xs&&(ciB N xs xsss&&decide (xsss.length=2)))&&(turnB N t&&(decide (kss.length=xs.length)&&pkB N xs kss)))=false→Z=[]∧ok=false)∧Z.length≤3∧∀r∈Z,r.length≤6∧∀q∈r,q.length≤16:=by
  cases h:((prB N T E xs&&(ciB N xs xsss&&decide (xsss.length=2)))&&(turnB N t&&(decide (kss.length=xs.length)&&pkB N xs kss)))
  ·exact ⟨[],false,(fun h=>by cases h),(fun _=>⟨rfl,rfl⟩),by simp,fun r hr=>by cases hr⟩
  ·rw [Bool.and_eq_true,Bool.and_eq_true,Bool.and_eq_true,decide_eq_true_eq] at h
   obtain ⟨⟨h1,h2,h3⟩,h4⟩:=h
   obtain ⟨hz4,hbb,_⟩:=sp_ring (prB_sp h1)
   obtain ⟨Nn,rfl⟩:∃Nn:Nat,N=(Nn:Int):=⟨N.toNat,by omega⟩
   have hps:=(bas_at hbb).1
   have hpb:∀k,k<xs.length→2≤xs.getD k 0∧xs.getD k 0≤268435456:=fun k hk=>pm_bd ((bas_at hbb).2 k hk)
   refine ⟨[swA (Nn:Int).toNat xs (tuL (Nn:Int).toNat t.toNat xs (xsss.getD 1 [])) (·.2) kss (tuL (Nn:Int).toNat t.toNat xs (xsss.getD 0 [])) xs.length,swA (Nn:Int).toNat xs (tuL (Nn:Int).toNat t.toNat xs (xsss.getD 1 [])) (·.1) kss (smS xs (List.replicate (Nn:Int).toNat 0)) xs.length],true,(fun _=>⟨rfl,rfl⟩),(fun h=>by cases h),by simp,fun r hr=>?_⟩
   rw [show ((Nn:Int).toNat)=Nn by omega] at hr
   rcases List.mem_cons.1 hr with rfl | hr
   ·exact swA_sz (by omega) hps hpb (okX_tu hpb (ci_okX h2 0 (by omega)))
   ·rcases List.mem_cons.1 hr with rfl | hr
    ·exact swA_sz (by omega) hps hpb (okX_zero hpb)
    ·cases hr
 have ho:offT Z Z.length≤288:=by
  have:=offT_bd Z 6 16 z2
  omega
 have z3:∀r∈Z,r.length≤1048576∧∀q∈r,q.length≤1048576:=fun r hr=>by
  have:=z2 r hr
  exact ⟨by omega,fun q hq=>by have:=this.2 q hq;omega⟩
 refine law9_TurnCipher w N T E xs.length a0 c0 xsss.length a1 c1 t kss.length a2 c2 Z.length ok (leftN 1048576 xs.length) (leftTT (leftN 1048576 xs.length) xsss) (leftKK (leftTT (leftN 1048576 xs.length) xsss) kss)
  (fun W g=>kp_sz N T E a0 xs.length c0 1048576 W hl (by omega) (by omega))
  (fun h0 W g=>by
   obtain ⟨q1,q2,q3⟩:=leftN_ok h0 (by omega)
   exact kc_sz xsss _ _ W (hu.old g) hs hsr q3 (by omega))
  (fun h0 h1 W g=>by
   obtain ⟨q1,q2,q3⟩:=leftN_ok h0 (by omega)
   obtain ⟨p1,p2,p3,p4,p5⟩:=leftTT_ok q3 h1
   exact szPairS_any kss _ _ W (ht.old g) hks hkr (by omega) (by omega))
  (XP N T E xs) (far_XP N T E xs) shape_XP (fun h0 h1 h2 W g=>bnd h0 h1 h2 fun h3 _ _ _ _ _ _=>kp_to N T E xs _ W (hv.old g) h3) (fun h0 h1 h2 W lo hi g lo' hi' g' k k'=>bnd h0 h1 h2 fun h3 _ _ _ _ _ _=>kp_eq N T E xs W lo hi g lo' hi' g' k k' (by omega))
  (1+xs.length) (by omega) (fun h0 h1 h2 W lo hi g k=>bnd h0 h1 h2 fun h3 _ _ _ _ _ _=>kp_mark N T E xs 1 W lo hi g k h3 (by omega) (by omega))
  (XC xsss) (far_XC xsss) shape_XC (fun h0 h1 h2 W g=>bnd h0 h1 h2 fun _ h3 h4 _ _ _ _=>kc_to xsss _ W (hu.old g) h3 h4) (fun h0 h1 h2 W lo hi g lo' hi' g' k k'=>bnd h0 h1 h2 fun _ h3 h4 _ _ _ _=>kc_eq xsss W lo hi g lo' hi' g' k k' h3 h4)
  (1+xs.length+offT xsss xsss.length) (by omega) (fun h0 h1 h2 W lo hi g k=>bnd h0 h1 h2 fun h2 h3 h4 h5 _ _ _=>(kc_mark xsss (1+xs.length) W lo hi g k h3 h4 (by omega) (by omega)).mono (fun e w' h=>⟨h.1,h.2.1⟩))
  (fun W lo hi v=>Ows (TKS kss) W lo hi [v]) (fun W W' lo hi v h hf hs=>far_Ows (good_TKS kss) W W' lo hi [v] h hf hs) (fun W lo hi v h=>(Ows.rowK h).slice) (fun h0 h1 h2 W g=>bnd h0 h1 h2 fun _ _ _ _ h3 h4 _=>toPairS_any kss _ W (ht.old g) h3 h4) (fun h0 h1 h2 W lo hi g lo' hi' g' k k'=>bnd h0 h1 h2 fun _ _ _ _ h3 h4 _=>eqPairS_yes kss _ _ W (Ows.rowK k) (Ows.rowK k') h3 h4)
  (1+xs.length+offT xsss xsss.length+offK kss kss.length) (by omega) (fun h0 h1 h2 W lo hi g k=>bnd h0 h1 h2 fun h2 h3 h4 h5 h6 h7 h8=>by
   obtain ⟨_,B,hB,hb⟩:=k
   exact (markPairS_B kss g (1+xs.length+offT xsss xsss.length) B W hB h6 h7 (by omega) (by omega)).mono (fun e w' h=>⟨h.1,h.2.chg hb⟩))
  (XC Z) (far_XC _) shape_XC (XC Z) (far_XC _) shape_XC (XCm 1 Z) (far_XCm _ _) shape_XCm
  (fun h0 h1 h2 W lo hi g lo1 hi1 g1 lo2 hi2 g2 k k1 k2 q=>bnd h0 h1 h2 fun _ h3 h4 _ h5 h6 _=>?_) (fun h0 h1 h2 W lo hi g lo1 hi1 g1 lo2 hi2 g2 k k1 k2 q=>bnd h0 h1 h2 fun _ h3 h4 _ h5 h6 _=>?_)
  (fun h0 h1 h2 W lo hi p lo' hi' p' k k'=>kc_eq Z W lo hi p lo' hi' p' k k' (by omega) z3)
  (1+offT Z Z.length) (by omega) (fun h0 h1 h2 W lo hi p k=>kc_mark Z 1 W lo hi p k (by omega) z3 (by omega) (by omega))
  (fun h0 h1 h2 W lo hi p k=>kc_held Z 1 W lo hi p k (by omega) z3 (by omega) (by omega))
 ·obtain ⟨a,c,rfl,o,f⟩:=k
  obtain ⟨a',c',rfl,o'⟩:=k1
  exact spec_TurnCipher_any N T E t xs xsss kss _ _ _ W o.row f o'.rowT (Ows.rowK k2) htb hl h3 h4 h5 h6 hx Z ok hy hn
 ·obtain ⟨a,c,rfl,o,f⟩:=k
  obtain ⟨a',c',rfl,o'⟩:=k1
  obtain ⟨_,B,hB,_⟩:=k2
  exact impl_TurnCipher N T E t xs xsss kss _ _ _ W lo1 hi1 (hP.old q) (hT.old q) o.row f o' (TKS.at xs hB) htb hl h3 h4 h5 h6 Z ok hy hn
end Go.Proofs.YtanijpekdnkicaaGreatDoor
