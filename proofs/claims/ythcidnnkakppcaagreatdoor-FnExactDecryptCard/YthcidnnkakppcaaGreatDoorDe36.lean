/- Proved: what its theorems say. -/
import Derived.Test.YthcidnnkakppcaaGreatDoorDe35
import Derived.Test.YthcidnnkakppcaaGreatDoorDe20
set_option linter.unusedVariables false
set_option linter.unusedSimpArgs false
set_option maxHeartbeats 16000000
namespace Go.Proofs.YthcidnnkakppcaaGreatDoor
open Go.ChangeShapes Go.WideShapes Go.ChangeAt Go.RowKit
open M2
def Qbh (n:Nat):Code->Option Code
 | .region i ops b=>if i=n then some (.region i ops b) else none
 | .seq a b=>match Qbh n a with
   | some c=>some c
   | none=>Qbh n b
 | .block _ c=>Qbh n c
 | .scope c=>Qbh n c
 | .loop c=>Qbh n c
 | .cond _ a b=>match Qbh n a with
   | some c=>some c
   | none=>Qbh n b
 | _=>none
set_option maxRecDepth 1000000 in
theorem Q3i (ls lP lT lS:List Nat) (ns nP nT nS p5 i y vn vc:Nat) (va:Option Addr) (zo:List Int) (w2:World) (HS:Hid (Sz w2 p5 ls ns)) (HLS:Hid (lS.length=80))
  (co:∀W,Old w2 W->Calls Tryz.prog 147 #[.slice va vn vc,.int .i64 (i:Int)] W fun e w'=>∃v',e=.returned v'/\Old W w'/\Row w' v' zo)
  (cp:∀v' W,Row W v' zo->Calls Tryz.prog 61 #[v'] W fun e w'=>e=.returned (.agg (szA lP nP))/\Old W w')
  (cs:∀W,Calls Tryz.prog 97 #[.agg (szA lP nP),.int .i64 (y:Int),.int .i64 0] W fun e w'=>e=.returned (.agg (szA lT nT))/\Old W w')
  (cd:∀W,Calls Tryz.prog 124 #[.agg (szA ls ns),.agg (szA lT nT)] W fun e w'=>e=.returned (.agg (szA lS nS))/\Old W w')
  (Q:Exit->Act->World->Prop) (K:Act->World->Prop) (s0 s2 s3 s4 s8 s9 s10 s11 s12 s13 s14 s15 s16 s17 s18 s19 s20 s21 s22 s23 s24 s25 s26:Value)
  (HK:Hid (∀(W1 W:World) (u17 u18 u19 u20 u21 u22 u23 u24:Value),Old w2 W1->W=W1.setRow p5 (szA lS nS)->K ⟨#[s0,(.slice va vn vc),s2,s3,s4,.pointer (some ⟨p5,0,none⟩),.int .i64 (i:Int),.int .i64 (y:Int),s8,s9,s10,s11,s12,s13,s14,s15,s16,u17,u18,u19,u20,u21,u22,u23,u24,s25,s26],[]⟩ W)) :
  Code.wp Tryz.prog ((Tryz.f133.body.bind (Qbh 5)).getD .skip) (Exit.inBlock 1 (Exit.then K Q)) ⟨#[s0,(.slice va vn vc),s2,s3,s4,.pointer (some ⟨p5,0,none⟩),.int .i64 (i:Int),.int .i64 (y:Int),s8,s9,s10,s11,s12,s13,s14,s15,s16,s17,s18,s19,s20,s21,s22,s23,s24,s25,s26],[]⟩ w2:=by
 conv=>arg 2;whnf
 obtain ⟨N,hN,HN9⟩:∃N,(∀W,Sem.run Tryz.prog (Go.sizeOf 103) W=.ok N W)/\Hid (N=81):=⟨81,Tryz.sizeOf103,rfl⟩
 have HPS:=Qaa HS.out.len;have hzs:(szA lS nS).size=N:=by rw [HN9.out];exact Qah HLS.out _
 have hR1:∀W:World,W.heap[p5]? = some (.cells (szA ls ns) 103 (0,0))->Sem.run Tryz.prog (loadCellsFrom ⟨p5,0,none⟩ 0 N #[]) W=.ok (szA ls ns) W:=fun W h=>by rw [HN9.out];exact Qac h (Qah HPS.out _)
 have HAS:Hid (∀W':World,Old w2 W'->(W'.heap[p5]? = some (.cells (szA ls ns) 103 (0,0)))):=fun W' g=>(HS.out.old g).blk
 have q2d:w2.drew.heap[p5]? = some (.cells (szA ls ns) 103 (0,0)):=HS.out.blk
 refine wp_region_noPanic ?_
 go_region_with (first
  | (go_at_call 147;refine (co _ (Below.drew (Old.refl w2))).mono ?_;rintro e w3 ⟨v3,rfl,g3,r3⟩;have G1:=Qaa (Old.trans (Below.drew (Old.refl w2)) g3);have R3:=Qaa r3;obtain ⟨a3,c3,rfl⟩:=r3.slice;have q3:=HAS.out _ G1.out;clear g3 r3)
  | (go_at_call 61;refine (cp _ _ R3.out).mono ?_;rintro e w4 ⟨rfl,g4⟩;have G2:=Qaa (Old.trans G1.out g4);have q4:=HAS.out _ G2.out;clear g4)
  | (go_at_call 97;refine (cs _).mono ?_;rintro e w5 ⟨rfl,g5⟩;have G3:=Qaa (Old.trans G2.out g5);have q5:=HAS.out _ G3.out;clear g5)
  | (go_at_call 124;refine (cd _).mono ?_;rintro e w6 ⟨rfl,g6⟩;have G4:=Qaa (Old.trans G3.out g6);have HS6:=Qaa (HS.out.old G4.out);clear g6)
  | (refine Qcv HS6.out lS nS HLS.out ?_;go_simp)
  | fail)
 all_goals
  refine NoPanic.normal ?_
  go_wp2_with fail;exact HK.out _ _ _ _ _ _ _ _ _ _ G4.out rfl
set_option maxRecDepth 1000000 in
theorem Qyy (la lq lA:List Nat) (na nq nA p6 p7:Nat) (z:Int) (B:Bool) (dz:decide (z<0)=B) (w2:World) (HA:Hid (Sz w2 p6 la na)) (HQ:Hid (Sz w2 p7 lq nq))
  (cs:∀W,Calls Tryz.prog 97 #[.agg (szA la na),.int .i64 2,.int .i64 0] W fun e w'=>e=.returned (.agg (szA lA nA))/\Old W w')
  (cc:∀W,Calls Tryz.prog 109 #[.agg (szA lA nA),.agg (szA lq nq)] W fun e w'=>e=.returned (.int .i64 z)/\Old W w')
  (Q:Exit->Act->World->Prop) (K:Act->World->Prop) (s0 s1 s2 s3 s4 s7 s8 s9 s10 s11 s12 s13 s14 s15 s16 s17 s18 s19 s20 s21 s22:Value)
  (HK:Hid (∀(W:World) (u12 u13 u14 u15:Value),Old w2 W->K ⟨#[s0,s1,s2,s3,s4,.pointer (some ⟨p6,0,none⟩),.pointer (some ⟨p7,0,none⟩),s7,s8,s9,s10,s11,u12,u13,u14,u15,.bool B,s17,s18,s19,s20,s21,s22],[]⟩ W)) :
  Code.wp Tryz.prog ((Tryz.f100.body.bind (Qbh 2)).getD .skip) (Exit.then K Q) ⟨#[s0,s1,s2,s3,s4,.pointer (some ⟨p6,0,none⟩),.pointer (some ⟨p7,0,none⟩),s7,s8,s9,s10,s11,s12,s13,s14,s15,s16,s17,s18,s19,s20,s21,s22],[]⟩ w2:=by
 conv=>arg 2;whnf
 obtain ⟨N,hN,HN9⟩:∃N,(∀W,Sem.run Tryz.prog (Go.sizeOf 103) W=.ok N W)/\Hid (N=81):=⟨81,Tryz.sizeOf103,rfl⟩
 have HPA:=Qaa HA.out.len;have HPQ:=Qaa HQ.out.len;have hR1:∀W:World,W.heap[p6]? = some (.cells (szA la na) 103 (0,0))->Sem.run Tryz.prog (loadCellsFrom ⟨p6,0,none⟩ 0 N #[]) W=.ok (szA la na) W:=fun W h=>by rw [HN9.out];exact Qac h (Qah HPA.out _)
 have hR2:∀W:World,W.heap[p7]? = some (.cells (szA lq nq) 103 (0,0))->Sem.run Tryz.prog (loadCellsFrom ⟨p7,0,none⟩ 0 N #[]) W=.ok (szA lq nq) W:=fun W h=>by rw [HN9.out];exact Qac h (Qah HPQ.out _)
 have HAS:Hid (∀W':World,Old w2 W'->(W'.heap[p6]? = some (.cells (szA la na) 103 (0,0))/\W'.heap[p7]? = some (.cells (szA lq nq) 103 (0,0)))):=fun W' g=>⟨(HA.out.old g).blk,(HQ.out.old g).blk⟩
 go_region_held3 (fun W'=>W'.heap[p6]? = some (.cells (szA la na) 103 (0,0))/\W'.heap[p7]? = some (.cells (szA lq nq) 103 (0,0))) (first | exact HAS.out _ G2.out | exact HAS.out _ G1.out | exact HAS.out _ (Below.drew (Old.refl w2)) | exact HAS.out _ (Old.refl w2) | fail) (first
  | (go_at_call 97;refine (cs _).mono ?_;rintro e w3 ⟨rfl,g3⟩;have G1:=Qaa (Old.trans (Below.drew (Old.refl w2)) g3);clear g3)
  | (go_at_call 109;refine (cc _).mono ?_;rintro e w4 ⟨rfl,g4⟩;have G2:=Qaa (Old.trans G1.out g4);clear g4)
  | fail)
 all_goals
  go_wp2_with fail;exact HK.out _ _ _ _ _ G2.out
end Go.Proofs.YthcidnnkakppcaaGreatDoor
