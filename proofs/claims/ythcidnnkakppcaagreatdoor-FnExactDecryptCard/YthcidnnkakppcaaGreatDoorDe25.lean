/- Proved: what its theorems say. -/
import Derived.Test.YthcidnnkakppcaaGreatDoorDe20
import Derived.Test.YthcidnnkakppcaaGreatDoorDe23
import Derived.Deep.RegionHeld3
set_option linter.unusedVariables false
set_option linter.unusedSimpArgs false
set_option maxHeartbeats 16000000
namespace Go.Proofs.YthcidnnkakppcaaGreatDoor
open Go.ChangeShapes Go.WideShapes Go.ChangeAt Go.RowKit
theorem Qge {W:World} {g:Nat} {ls:List Nat} (hs:Pw W g ls) (ls':List Nat) (hl:ls'.length=32):(storeCells ⟨g,0,none⟩ (pwA ls').toList 0).run Tryz.prog W=.ok () (W.setRow g (pwA ls')):=by
 have:=run_storeVar_row (P:=Tryz.prog) W g 180 180 (pwA ls) (pwA ls') hs.blk (by rw [Qce hl];exact Qjk) (by rw [Qce hs.len,Qce hl]) (Qt5 _)
 cases hq:Tryz.prog.info? 180 with
 | none=>have h2:=Qjk;rw [hq] at h2;cases h2
 | some i=>
   have h2:=Qjk;rw [hq] at h2;have h3:i.size=32:=by simpa using h2
   simpa [storeVar,Go.sizeOf,typeInfo,hq,Value.cells,Qce hl,h3] using this
theorem Qkt {o:Oper} {a:Act} {K:Act→World→Prop} {Q:Exit→Act→World→Prop} {f:Unit→World→Result Next} {W:World} {g:Nat} {ls:List Nat} (hs:Pw W g ls) (ls':List Nat) (hl:ls'.length=32)
  (h:Oper.upon Tryz.prog o a K Q (f () (W.setRow g (pwA ls')))):Oper.upon Tryz.prog o a K Q ((Sem.run Tryz.prog (storeCells ⟨g,0,none⟩ (pwA ls').toList 0) W).andThen f):=by
 rw [Qge hs ls' hl];exact h
theorem Pw.drw {w:World} {g:Nat} {ls:List Nat} (h:Pw w g ls):Pw w.drew g ls:=⟨h.blk,h.len⟩
def Qbw (n:Nat):Code->Option Code
 | .region i ops b=>if i=n then some (.region i ops b) else none
 | .seq a b=>match Qbw n a with
   | some c=>some c
   | none=>Qbw n b
 | .block _ c=>Qbw n c
 | .scope c=>Qbw n c
 | .loop c=>Qbw n c
 | .cond _ a b=>match Qbw n a with
   | some c=>some c
   | none=>Qbw n b
 | _=>none
theorem Qgf (W:World):Pw (W.alloc (.cells #[.int .i64 0,.int .i64 0,.int .i64 0,.int .i64 0,.int .i64 0,.int .i64 0,.int .i64 0,.int .i64 0,.int .i64 0,.int .i64 0,.int .i64 0,.int .i64 0,.int .i64 0,.int .i64 0,.int .i64 0,.int .i64 0,.int .i64 0,.int .i64 0,.int .i64 0,.int .i64 0,.int .i64 0,.int .i64 0,.int .i64 0,.int .i64 0,.int .i64 0,.int .i64 0,.int .i64 0,.int .i64 0,.int .i64 0,.int .i64 0,.int .i64 0,.int .i64 0] 180)) W.heap.size (List.replicate 32 0):=Pw.new' W (List.replicate 32 0) _ rfl rfl
set_option maxRecDepth 1000000 in
theorem Q23 (P N R L:Nat) (LS:List Nat) (kb:Nat) (w2:World) (HRC:Hid (Rc w2 kb P N R)) (HL:Hid (LS.length=32))
  (cpw:∀W,Calls Tryz.prog 148 #[.agg #[.int .i64 P,.int .i64 N,.int .i64 R]] W fun e w'=>e=.returned (.agg (pwA LS))/\Old W w')
  (cno:∀W,Old w2 W->Calls Tryz.prog 149 #[.int .i64 (N:Int)] W fun e w'=>e=.returned (.int .i64 (L:Int))/\w'=W)
  (Q:Exit->Act->World->Prop) (K:Act->World->Prop) (s0 s1 s3 s4 s5 s6 s7 s8 s9 s10 s11 s12 s13 s14 s15 s16 s17 s18 s19 s20 s21 s22 s23 s24 s25 s26 s27 s28 s29 s30 s31 s32 s33 s34 s35 s36 s37 s38 s39 s40 s41 s42 s43 s44 s45 s46 s47 s48:Value)
  (HK:Hid (∀(kp:Nat) (W:World) (u17 u18 u19 u20 u21:Value),Old w2 W->Pw W kp LS->w2.heap.size<=kp->K ⟨#[s0,s1,.pointer (some ⟨kb,0,none⟩),s3,s4,s5,.pointer (some ⟨kp,0,none⟩),.int .i64 (L:Int),s8,s9,s10,s11,s12,s13,s14,s15,s16,u17,u18,u19,u20,u21,s22,s23,s24,s25,s26,s27,s28,s29,s30,s31,s32,s33,s34,s35,s36,s37,s38,s39,s40,s41,s42,s43,s44,s45,s46,s47,s48],[]⟩ W)) :
  Code.wp Tryz.prog ((Tryz.f135.body.bind (Qbw 3)).getD .skip) (Exit.then K Q) ⟨#[s0,s1,.pointer (some ⟨kb,0,none⟩),s3,s4,s5,s6,s7,s8,s9,s10,s11,s12,s13,s14,s15,s16,s17,s18,s19,s20,s21,s22,s23,s24,s25,s26,s27,s28,s29,s30,s31,s32,s33,s34,s35,s36,s37,s38,s39,s40,s41,s42,s43,s44,s45,s46,s47,s48],[]⟩ w2:=by
 conv=>arg 2;whnf
 obtain ⟨M,hM,HM⟩:∃M,(∀W,Sem.run Tryz.prog (Go.sizeOf 180) W=.ok M W)/\Hid (M=32):=⟨32,Tryz.sizeOf180,rfl⟩
 have hzs:(pwA LS).size=M:=by rw [HM.out];exact Qce HL.out
 have HAS:Hid (∀W',Old w2 W'->(W'.cell? ⟨kb,0,none⟩=some (.int .i64 (P:Int))/\W'.cell? ⟨kb,1,none⟩=some (.int .i64 (N:Int))/\W'.cell? ⟨kb,2,none⟩=some (.int .i64 (R:Int)))):=fun W' g=>⟨(HRC.out.old g).c0,(HRC.out.old g).c1,(HRC.out.old g).c2⟩
 obtain ⟨z0,z1,z2⟩:=HAS.out w2 (Old.refl _);obtain ⟨x0,x1,x2⟩:=HAS.out (w2.alloc (.cells #[.int .i64 0,.int .i64 0,.int .i64 0,.int .i64 0,.int .i64 0,.int .i64 0,.int .i64 0,.int .i64 0,.int .i64 0,.int .i64 0,.int .i64 0,.int .i64 0,.int .i64 0,.int .i64 0,.int .i64 0,.int .i64 0,.int .i64 0,.int .i64 0,.int .i64 0,.int .i64 0,.int .i64 0,.int .i64 0,.int .i64 0,.int .i64 0,.int .i64 0,.int .i64 0,.int .i64 0,.int .i64 0,.int .i64 0,.int .i64 0,.int .i64 0,.int .i64 0] 180)) ((Old.refl w2).alloc _);refine wp_region_noPanic ?_
 go_region_with (first
  | (go_at_call 148;refine (cpw _).mono ?_;rintro e w3 ⟨rfl,g3⟩;first
    | (have HZ4:Old (w2.alloc (.cells #[.int .i64 0,.int .i64 0,.int .i64 0,.int .i64 0,.int .i64 0,.int .i64 0,.int .i64 0,.int .i64 0,.int .i64 0,.int .i64 0,.int .i64 0,.int .i64 0,.int .i64 0,.int .i64 0,.int .i64 0,.int .i64 0,.int .i64 0,.int .i64 0,.int .i64 0,.int .i64 0,.int .i64 0,.int .i64 0,.int .i64 0,.int .i64 0,.int .i64 0,.int .i64 0,.int .i64 0,.int .i64 0,.int .i64 0,.int .i64 0,.int .i64 0,.int .i64 0] 180)).drew w3:=(by with_reducible exact g3);have HZ3:=Qaa HZ4;clear HZ4;have PZ:=Qaa ((Pw.drw (Qgf w2)).old HZ3.out);have G1:=Qaa (Old.trans (Below.drew ((Old.refl w2).alloc _)) HZ3.out);obtain ⟨y0,y1,y2⟩:=HAS.out w3 G1.out;clear g3 HZ3)
    | (have HZ4:=(by with_reducible exact g3);have HZ3:=Qaa HZ4;clear HZ4;have G1:=Qaa (Old.trans (Below.drew (Old.refl w2)) HZ3.out);obtain ⟨y0,y1,y2⟩:=HAS.out w3 G1.out;obtain ⟨v0,v1,v2⟩:=HAS.out (w3.alloc (.cells #[.int .i64 0,.int .i64 0,.int .i64 0,.int .i64 0,.int .i64 0,.int .i64 0,.int .i64 0,.int .i64 0,.int .i64 0,.int .i64 0,.int .i64 0,.int .i64 0,.int .i64 0,.int .i64 0,.int .i64 0,.int .i64 0,.int .i64 0,.int .i64 0,.int .i64 0,.int .i64 0,.int .i64 0,.int .i64 0,.int .i64 0,.int .i64 0,.int .i64 0,.int .i64 0,.int .i64 0,.int .i64 0,.int .i64 0,.int .i64 0,.int .i64 0,.int .i64 0] 180)) (G1.out.alloc _);clear g3 HZ3))
  | (go_at_call 149;refine (cno _ (by first | with_reducible exact G1.out | with_reducible exact G1.out.alloc _)).mono ?_;rintro e w4 ⟨rfl,hw4⟩;replace hw4:=hw4.symm;subst hw4)
  | (with_reducible refine Qkt PZ.out LS HL.out ?_;go_simp)
  | (with_reducible refine Qkt (Qgf w3) LS HL.out ?_;go_simp)
  | fail)
 all_goals
  refine NoPanic.normal ?_
  go_wp2_with fail
  first
   | exact HK.out _ _ _ _ _ _ _ (Old.rowP G1.out (Nat.le_refl _) _) (PZ.out.row _ HL.out) (Nat.le_refl _)
   | exact HK.out _ _ _ _ _ _ _ (Old.rowP (G1.out.alloc _) G1.out.size _) ((Qgf w3).row _ HL.out) G1.out.size
set_option maxRecDepth 1000000 in
theorem Q04 (P N R L parts part bb w0:Nat) (LS:List Nat) (fa pa:Option Addr) (pn pc:Nat) (kb kp:Nat) (w2:World) (HRC:Hid (Rc w2 kb P N R)) (HPW:Hid (Pw w2 kp LS)) (hbb:bb<32) (hw0:LS.getD bb 0=w0) (hpp:parts+part≤1000)
  (cpa:∀W,Calls Tryz.prog 151 #[.slice fa N N,.int .i64 (part:Int),.int .i64 (parts:Int)] W fun e w'=>e=.returned (.slice pa pn pc)/\w'=W)
  (cbb:∀W,Calls Tryz.prog 152 #[.int .i64 ((parts+part:Nat):Int),.int .i64 (L:Int)] W fun e w'=>e=.returned (.int .i64 (bb:Int))/\w'=W)
  (PS:World->Prop) (csp:Calls Tryz.prog 154 #[.agg #[.int .i64 P,.int .i64 N,.int .i64 R],.slice pa pn pc,.int .i64 (w0:Int)] w2.drew fun e w'=>e=.returned (.tuple #[])/\PS w')
  (Q:Exit->Act->World->Prop) (K:Act->World->Prop) (s0 s1 s3 s4 s8 s11 s12 s13 s14 s15 s16 s17 s18 s19 s20 s21 s22 s23 s24 s25 s26 s27 s28 s29 s30 s31 s32 s33 s34 s35 s36 s37 s38 s39 s40 s41 s42 s43 s44 s45 s46 s47 s48:Value)
  (HK:Hid (∀(W:World) (u33 u34 u35 u36 u37 u38 u39 u40 u41 u42 u43 u44 u45:Value),PS W->K ⟨#[s0,s1,.pointer (some ⟨kb,0,none⟩),s3,s4,.slice fa N N,.pointer (some ⟨kp,0,none⟩),.int .i64 (L:Int),s8,.int .i64 (parts:Int),.int .i64 (part:Int),s11,s12,s13,s14,s15,s16,s17,s18,s19,s20,s21,s22,s23,s24,s25,s26,s27,s28,s29,s30,s31,s32,u33,u34,u35,u36,u37,u38,u39,u40,u41,u42,u43,u44,u45,s46,s47,s48],[]⟩ W)) :
  Code.wp Tryz.prog ((Tryz.f135.body.bind (Qbw 11)).getD .skip) (Exit.inBlock 3 (Exit.then K Q)) ⟨#[s0,s1,.pointer (some ⟨kb,0,none⟩),s3,s4,.slice fa N N,.pointer (some ⟨kp,0,none⟩),.int .i64 (L:Int),s8,.int .i64 (parts:Int),.int .i64 (part:Int),s11,s12,s13,s14,s15,s16,s17,s18,s19,s20,s21,s22,s23,s24,s25,s26,s27,s28,s29,s30,s31,s32,s33,s34,s35,s36,s37,s38,s39,s40,s41,s42,s43,s44,s45,s46,s47,s48],[]⟩ w2:=by
 conv=>arg 2;whnf
 have z0:=HRC.out.c0;have z1:=HRC.out.c1;have z2:=HRC.out.c2;have c1:=HPW.out.at hbb;rw [hw0] at c1;have tpp:IntKind.i64.wrap ((parts:Int)+(part:Int))=((parts+part:Nat):Int):=by rw [<- Int.natCast_add,IntKind.wrap_i64];omega
 have ib:(bb:Int)<32:=by omega
 refine wp_region_noPanic ?_
 go_region_with (first
  | (go_at_call 151;refine (cpa _).mono ?_;rintro e w3 ⟨rfl,hw3⟩;replace hw3:=hw3.symm;subst hw3)
  | (go_at_call 152;refine (cbb _).mono ?_;rintro e w4 ⟨rfl,hw4⟩;replace hw4:=hw4.symm;subst hw4)
  | (go_at_call 154;refine csp.mono ?_;rintro e w5 ⟨rfl,g5⟩;have G5:=Qaa g5;clear g5)
  | fail)
 all_goals
  refine NoPanic.normal ?_
  go_wp2_with fail;exact HK.out _ _ _ _ _ _ _ _ _ _ _ _ _ _ G5.out
set_option maxRecDepth 1000000 in
theorem Q24 (P N R L:Nat) (LS:List Nat) (kb:Nat) (w2:World) (HRC:Hid (Rc w2 kb P N R)) (HL:Hid (LS.length=32))
  (cpw:∀W,Calls Tryz.prog 148 #[.agg #[.int .i64 P,.int .i64 N,.int .i64 R]] W fun e w'=>e=.returned (.agg (pwA LS))/\Old W w')
  (cno:∀W,Old w2 W->Calls Tryz.prog 149 #[.int .i64 (N:Int)] W fun e w'=>e=.returned (.int .i64 (L:Int))/\w'=W)
  (Q:Exit->Act->World->Prop) (K:Act->World->Prop) (s0 s1 s3 s4 s5 s6 s7 s8 s9 s10 s11 s12 s13 s14 s15 s16 s17 s18 s19 s20 s21 s22 s23 s24 s25 s26 s27 s28 s29 s30 s31 s32 s33 s34 s35 s36 s37 s38 s39 s40 s41 s42 s43 s44 s45 s46 s47 s48 s49 s50 s51 s52 s53 s54 s55 s56 s57 s58 s59 s60 s61 s62 s63 s64 s65 s66 s67 s68 s69 s70 s71 s72 s73 s74 s75 s76 s77 s78 s79 s80:Value)
  (HK:Hid (∀(kp:Nat) (W:World) (u19 u20 u21 u22 u23:Value),Old w2 W->Pw W kp LS->w2.heap.size<=kp->K ⟨#[s0,s1,.pointer (some ⟨kb,0,none⟩),s3,s4,s5,.pointer (some ⟨kp,0,none⟩),.int .i64 (L:Int),s8,s9,s10,s11,s12,s13,s14,s15,s16,s17,s18,u19,u20,u21,u22,u23,s24,s25,s26,s27,s28,s29,s30,s31,s32,s33,s34,s35,s36,s37,s38,s39,s40,s41,s42,s43,s44,s45,s46,s47,s48,s49,s50,s51,s52,s53,s54,s55,s56,s57,s58,s59,s60,s61,s62,s63,s64,s65,s66,s67,s68,s69,s70,s71,s72,s73,s74,s75,s76,s77,s78,s79,s80],[]⟩ W)) :
  Code.wp Tryz.prog ((Tryz.f134.body.bind (Qbw 3)).getD .skip) (Exit.then K Q) ⟨#[s0,s1,.pointer (some ⟨kb,0,none⟩),s3,s4,s5,s6,s7,s8,s9,s10,s11,s12,s13,s14,s15,s16,s17,s18,s19,s20,s21,s22,s23,s24,s25,s26,s27,s28,s29,s30,s31,s32,s33,s34,s35,s36,s37,s38,s39,s40,s41,s42,s43,s44,s45,s46,s47,s48,s49,s50,s51,s52,s53,s54,s55,s56,s57,s58,s59,s60,s61,s62,s63,s64,s65,s66,s67,s68,s69,s70,s71,s72,s73,s74,s75,s76,s77,s78,s79,s80],[]⟩ w2:=by
 conv=>arg 2;whnf
 obtain ⟨M,hM,HM⟩:∃M,(∀W,Sem.run Tryz.prog (Go.sizeOf 180) W=.ok M W)/\Hid (M=32):=⟨32,Tryz.sizeOf180,rfl⟩
 have hzs:(pwA LS).size=M:=by rw [HM.out];exact Qce HL.out
 have HAS:Hid (∀W',Old w2 W'->(W'.cell? ⟨kb,0,none⟩=some (.int .i64 (P:Int))/\W'.cell? ⟨kb,1,none⟩=some (.int .i64 (N:Int))/\W'.cell? ⟨kb,2,none⟩=some (.int .i64 (R:Int)))):=fun W' g=>⟨(HRC.out.old g).c0,(HRC.out.old g).c1,(HRC.out.old g).c2⟩
 obtain ⟨z0,z1,z2⟩:=HAS.out w2 (Old.refl _);obtain ⟨x0,x1,x2⟩:=HAS.out (w2.alloc (.cells #[.int .i64 0,.int .i64 0,.int .i64 0,.int .i64 0,.int .i64 0,.int .i64 0,.int .i64 0,.int .i64 0,.int .i64 0,.int .i64 0,.int .i64 0,.int .i64 0,.int .i64 0,.int .i64 0,.int .i64 0,.int .i64 0,.int .i64 0,.int .i64 0,.int .i64 0,.int .i64 0,.int .i64 0,.int .i64 0,.int .i64 0,.int .i64 0,.int .i64 0,.int .i64 0,.int .i64 0,.int .i64 0,.int .i64 0,.int .i64 0,.int .i64 0,.int .i64 0] 180)) ((Old.refl w2).alloc _);refine wp_region_noPanic ?_
 go_region_with (first
  | (go_at_call 148;refine (cpw _).mono ?_;rintro e w3 ⟨rfl,g3⟩;first
    | (have HZ4:Old (w2.alloc (.cells #[.int .i64 0,.int .i64 0,.int .i64 0,.int .i64 0,.int .i64 0,.int .i64 0,.int .i64 0,.int .i64 0,.int .i64 0,.int .i64 0,.int .i64 0,.int .i64 0,.int .i64 0,.int .i64 0,.int .i64 0,.int .i64 0,.int .i64 0,.int .i64 0,.int .i64 0,.int .i64 0,.int .i64 0,.int .i64 0,.int .i64 0,.int .i64 0,.int .i64 0,.int .i64 0,.int .i64 0,.int .i64 0,.int .i64 0,.int .i64 0,.int .i64 0,.int .i64 0] 180)).drew w3:=(by with_reducible exact g3);have HZ3:=Qaa HZ4;clear HZ4;have PZ:=Qaa ((Pw.drw (Qgf w2)).old HZ3.out);have G1:=Qaa (Old.trans (Below.drew ((Old.refl w2).alloc _)) HZ3.out);obtain ⟨y0,y1,y2⟩:=HAS.out w3 G1.out;clear g3 HZ3)
    | (have HZ4:=(by with_reducible exact g3);have HZ3:=Qaa HZ4;clear HZ4;have G1:=Qaa (Old.trans (Below.drew (Old.refl w2)) HZ3.out);obtain ⟨y0,y1,y2⟩:=HAS.out w3 G1.out;obtain ⟨v0,v1,v2⟩:=HAS.out (w3.alloc (.cells #[.int .i64 0,.int .i64 0,.int .i64 0,.int .i64 0,.int .i64 0,.int .i64 0,.int .i64 0,.int .i64 0,.int .i64 0,.int .i64 0,.int .i64 0,.int .i64 0,.int .i64 0,.int .i64 0,.int .i64 0,.int .i64 0,.int .i64 0,.int .i64 0,.int .i64 0,.int .i64 0,.int .i64 0,.int .i64 0,.int .i64 0,.int .i64 0,.int .i64 0,.int .i64 0,.int .i64 0,.int .i64 0,.int .i64 0,.int .i64 0,.int .i64 0,.int .i64 0] 180)) (G1.out.alloc _);clear g3 HZ3))
  | (go_at_call 149;refine (cno _ (by first | with_reducible exact G1.out | with_reducible exact G1.out.alloc _)).mono ?_;rintro e w4 ⟨rfl,hw4⟩;replace hw4:=hw4.symm;subst hw4)
  | (with_reducible refine Qkt PZ.out LS HL.out ?_;go_simp)
  | (with_reducible refine Qkt (Qgf w3) LS HL.out ?_;go_simp)
  | fail)
 all_goals
  refine NoPanic.normal ?_
  go_wp2_with fail
  first
   | exact HK.out _ _ _ _ _ _ _ (Old.rowP G1.out (Nat.le_refl _) _) (PZ.out.row _ HL.out) (Nat.le_refl _)
   | exact HK.out _ _ _ _ _ _ _ (Old.rowP (G1.out.alloc _) G1.out.size _) ((Qgf w3).row _ HL.out) G1.out.size
set_option maxRecDepth 1000000 in
theorem Q05 (P N R L parts part bb w0:Nat) (LS:List Nat) (fa pa:Option Addr) (pn pc:Nat) (kb kp:Nat) (w2:World) (HRC:Hid (Rc w2 kb P N R)) (HPW:Hid (Pw w2 kp LS)) (hN16:N≤16) (hbb:bb≤N) (hw0:LS.getD (2*N - bb) 0=w0) (hb32:2*N - bb<32) (hpp:parts+part≤1000)
  (cpa:∀W,Calls Tryz.prog 151 #[.slice fa N N,.int .i64 (part:Int),.int .i64 (parts:Int)] W fun e w'=>e=.returned (.slice pa pn pc)/\w'=W)
  (cbb:∀W,Calls Tryz.prog 152 #[.int .i64 ((parts+part:Nat):Int),.int .i64 (L:Int)] W fun e w'=>e=.returned (.int .i64 (bb:Int))/\w'=W)
  (PS:World->Prop) (csp:Calls Tryz.prog 150 #[.agg #[.int .i64 P,.int .i64 N,.int .i64 R],.slice pa pn pc,.int .i64 (w0:Int)] w2.drew fun e w'=>e=.returned (.tuple #[])/\PS w')
  (Q:Exit->Act->World->Prop) (K:Act->World->Prop) (s0 s1 s3 s4 s8 s11 s12 s13 s14 s15 s16 s17 s18 s19 s20 s21 s22 s23 s24 s25 s26 s27 s28 s29 s30 s31 s32 s33 s34 s35 s36 s37 s38 s39 s40 s41 s42 s43 s44 s45 s46 s47 s48 s49 s50 s51 s52 s53 s54 s55 s56 s57 s58 s59 s60 s61 s62 s63 s64 s65 s66 s67 s68 s69 s70 s71 s72 s73 s74 s75 s76 s77 s78 s79 s80:Value)
  (HK:Hid (∀(W:World) (u38 u39 u40 u41 u42 u43 u44 u45 u46 u47 u48 u49 u50 u51 u52 u53 u54:Value),PS W->K ⟨#[s0,s1,.pointer (some ⟨kb,0,none⟩),s3,s4,.slice fa N N,.pointer (some ⟨kp,0,none⟩),.int .i64 (L:Int),s8,.int .i64 (parts:Int),.int .i64 (part:Int),s11,s12,s13,s14,s15,s16,s17,s18,s19,s20,s21,s22,s23,s24,s25,s26,s27,s28,s29,s30,s31,s32,s33,s34,s35,s36,s37,u38,u39,u40,u41,u42,u43,u44,u45,u46,u47,u48,u49,u50,u51,u52,u53,u54,s55,s56,s57,s58,s59,s60,s61,s62,s63,s64,s65,s66,s67,s68,s69,s70,s71,s72,s73,s74,s75,s76,s77,s78,s79,s80],[]⟩ W)) :
  Code.wp Tryz.prog ((Tryz.f134.body.bind (Qbw 11)).getD .skip) (Exit.inBlock 3 (Exit.then K Q)) ⟨#[s0,s1,.pointer (some ⟨kb,0,none⟩),s3,s4,.slice fa N N,.pointer (some ⟨kp,0,none⟩),.int .i64 (L:Int),s8,.int .i64 (parts:Int),.int .i64 (part:Int),s11,s12,s13,s14,s15,s16,s17,s18,s19,s20,s21,s22,s23,s24,s25,s26,s27,s28,s29,s30,s31,s32,s33,s34,s35,s36,s37,s38,s39,s40,s41,s42,s43,s44,s45,s46,s47,s48,s49,s50,s51,s52,s53,s54,s55,s56,s57,s58,s59,s60,s61,s62,s63,s64,s65,s66,s67,s68,s69,s70,s71,s72,s73,s74,s75,s76,s77,s78,s79,s80],[]⟩ w2:=by
 conv=>arg 2;whnf
 have z0:=HRC.out.c0;have z1:=HRC.out.c1;have z2:=HRC.out.c2;have c1:=HPW.out.at hb32;rw [hw0] at c1;have tpp:IntKind.i64.wrap ((parts:Int)+(part:Int))=((parts+part:Nat):Int):=by rw [<- Int.natCast_add,IntKind.wrap_i64];omega
 have t2:IntKind.i64.wrap (2*(N:Int))=2*(N:Int):=by rw [IntKind.wrap_i64];omega
 have t3:IntKind.i64.wrap (2*(N:Int) - (bb:Int))=((2*N - bb:Nat):Int):=by rw [IntKind.wrap_i64];omega
 generalize 2*N - bb=b2 at *;have ib:(b2:Int)<32:=by omega
 refine wp_region_noPanic ?_
 go_region_with (first
  | (go_at_call 151;refine (cpa _).mono ?_;rintro e w3 ⟨rfl,hw3⟩;replace hw3:=hw3.symm;subst hw3)
  | (go_at_call 152;refine (cbb _).mono ?_;rintro e w4 ⟨rfl,hw4⟩;replace hw4:=hw4.symm;subst hw4)
  | (go_at_call 150;refine csp.mono ?_;rintro e w5 ⟨rfl,g5⟩;have G5:=Qaa g5;clear g5)
  | fail)
 all_goals
  refine NoPanic.normal ?_
  go_wp2_with fail;exact HK.out _ _ _ _ _ _ _ _ _ _ _ _ _ _ _ _ _ _ G5.out
end Go.Proofs.YthcidnnkakppcaaGreatDoor
