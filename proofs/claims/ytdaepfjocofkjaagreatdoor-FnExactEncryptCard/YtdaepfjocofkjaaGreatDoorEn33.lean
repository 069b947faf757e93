/- Proved: what its theorems say. -/
import Derived.Test.YtdaepfjocofkjaaGreatDoorEn25
import Derived.Test.YtdaepfjocofkjaaGreatDoorEn24
set_option linter.unusedVariables false
set_option linter.unusedSimpArgs false
set_option maxHeartbeats 8000000
set_option maxRecDepth 100000
namespace Go.Proofs.YtdaepfjocofkjaaGreatDoor
open Go.ChangeShapes Go.WideShapes Go.ChangeAt Go.RowKit
theorem Qo1 (p r mp:Int) (n nb:Bool) (Nn uc:Nat) (zs:List Int) (ua ab:Option Addr) (lb cb kb:Nat) (w:World) (hb:StW w kb (.bool nb) (.slice ab lb cb) 67)
 (cm:∀W,Old w W->Calls Tryz.prog 78 #[.agg #[.bool nb,.slice ab lb cb],.int .i64 p] W fun e w'=>e=.returned (.int .i64 mp)/\Old W w')
 (cs:∀W,Old w W->Calls Tryz.prog 77 #[.agg #[.int .i64 p,.int .i64 Nn,.int .i64 r,.bool n,.slice ua Nn uc],.int .i64 mp] W fun e w'=>∃g,e=.returned (.slice (some ⟨g,0,none⟩) Nn Nn)/\Old W w'/\Own w' W.heap.size (.slice (some ⟨g,0,none⟩) Nn Nn) zs) :
 Calls Tryz.prog 76 #[.agg #[.int .i64 p,.int .i64 Nn,.int .i64 r,.bool n,.slice ua Nn uc],.pointer (some ⟨kb,0,none⟩)] w fun e w'=>∃g,e=.returned (.slice (some ⟨g,0,none⟩) Nn Nn)/\Old w w'/\Own w' w.heap.size (.slice (some ⟨g,0,none⟩) Nn Nn) zs:=by
 have HA:Hid (Old w (w.alloc (.cells #[.int .i64 p,.int .i64 Nn,.int .i64 r,.bool n,.slice ua Nn uc] 91))):=(Old.refl w).alloc _
 have HAS:Hid (∀W',Old (w.alloc (.cells #[.int .i64 p,.int .i64 Nn,.int .i64 r,.bool n,.slice ua Nn uc] 91)) W'->(W'.cell? ⟨w.heap.size,0,none⟩=some (.int .i64 p)/\W'.cell? ⟨w.heap.size,1,none⟩=some (.int .i64 Nn)/\W'.cell? ⟨w.heap.size,2,none⟩=some (.int .i64 r)/\W'.cell? ⟨w.heap.size,3,none⟩=some (.bool n)/\W'.cell? ⟨w.heap.size,4,none⟩=some (.slice ua Nn uc)/\W'.cell? ⟨kb,0,none⟩=some (.bool nb)/\W'.cell? ⟨kb,1,none⟩=some (.slice ab lb cb))):=fun W' q=>by
  have s:=hb.old (Old.trans HA.out q);exact ⟨(q.cell (p:=⟨w.heap.size,0,none⟩) (by simp)).trans (Qae _ _ _ _ _ rfl),(q.cell (p:=⟨w.heap.size,1,none⟩) (by simp)).trans (Qae _ _ _ _ _ rfl),(q.cell (p:=⟨w.heap.size,2,none⟩) (by simp)).trans (Qae _ _ _ _ _ rfl),(q.cell (p:=⟨w.heap.size,3,none⟩) (by simp)).trans (Qae _ _ _ _ _ rfl),(q.cell (p:=⟨w.heap.size,4,none⟩) (by simp)).trans (Qae _ _ _ _ _ rfl),s.c0,s.c1⟩
 have hsz:(w.alloc (.cells #[.int .i64 p,.int .i64 Nn,.int .i64 r,.bool n,.slice ua Nn uc] 91)).heap.size=w.heap.size+1:=by simp
 clear hb;go_enter Tryz.func76,Tryz.ntmps76;go_wp2_with fail;generalize (w.alloc (.cells #[.int .i64 p,.int .i64 Nn,.int .i64 r,.bool n,.slice ua Nn uc] 91))=w0 at *;obtain ⟨z0,z1,z2,z3,z4,z5,z6⟩:=HAS.out w0 (Old.refl _)
 go_region_held3 (fun W'=>W'.cell? ⟨w.heap.size,0,none⟩=some (.int .i64 p)/\W'.cell? ⟨w.heap.size,1,none⟩=some (.int .i64 Nn)/\W'.cell? ⟨w.heap.size,2,none⟩=some (.int .i64 r)/\W'.cell? ⟨w.heap.size,3,none⟩=some (.bool n)/\W'.cell? ⟨w.heap.size,4,none⟩=some (.slice ua Nn uc)/\W'.cell? ⟨kb,0,none⟩=some (.bool nb)/\W'.cell? ⟨kb,1,none⟩=some (.slice ab lb cb)) (first | with_reducible exact HAS.out _ G2.out | with_reducible exact HAS.out _ G1.out | with_reducible exact HAS.out _ (Below.drew (Old.refl w0)) | with_reducible exact HAS.out _ (Old.refl w0)) (first
  | (go_at_call 78;refine (cm _ (Below.drew HA.out)).mono ?_;rintro e w1 ⟨rfl,g1⟩;have G1:=Qaa (Old.trans (Below.drew (Old.refl w0)) g1);clear g1)
  | (go_at_call 77;refine (cs _ (Old.trans HA.out G1.out)).mono ?_;rintro e w2 ⟨g5,rfl,g2,o2⟩;have G2:=Qaa (Old.trans G1.out g2);have O2:=Qaa o2;clear g2 o2)
  | fail)
 all_goals
  go_wp2_with fail;go_ret;exact ⟨_,rfl,Old.trans HA.out G2.out,O2.out.low (by have:=G1.out.size;omega)⟩
theorem Qm7 (kb:Nat) (N:Int) (a:Bool) (ps:List Int) (Rf:Nat->Int) (us:Nat->Value) (v:Value) (m:Nat) (w:World) (hr:RdR w v m N a ps Rf us) (hus:∀k,k<m->∃x n c,us k=.slice x n c) (hm:1<=m/\m<=1000) (zss:List (List Int))
 (cj:∀k,k<m->∀W,Old w W->Calls Tryz.prog 76 #[.agg #[.int .i64 (ps.getD k 0),.int .i64 N,.int .i64 (Rf k),.bool a,us k],.pointer (some ⟨kb,0,none⟩)] W fun e w'=>∃v',e=.returned v'/\Old W w'/\Own w' W.heap.size v' (zss.getD k [])) :
 Calls Tryz.prog 75 #[v,.func (.func 76) #[] #[.pointer (some ⟨kb,0,none⟩)]] w fun e w'=>e=.returned (.slice (some ⟨w.heap.size,0,none⟩) m m)/\Old w w'/\Ows (TS 91 5 m (elR N a ps Rf zss)) w' w.heap.size w'.heap.size [.slice (some ⟨w.heap.size,0,none⟩) m m]:=by
 obtain ⟨i0,hi,hz0,hz1,hz2⟩:=info_parts Tryz.infoRingRow;obtain ⟨b,cap,rfl,hb,hc⟩:=hr;have HC:=Qaa hc;have HUS:=Qaa hus;have HCJ:=Qaa cj;have HEL:Hid (∀k,elR N a ps Rf zss k=TR (ps.getD k 0) N (Rf k) a (TI (zss.getD k []))):=fun k=>rfl
 have HGD:=Qaa (Qcv N a ps Rf zss);generalize elR N a ps Rf zss=Es at *;clear hc hus cj;go_enter Tryz.func75,Tryz.ntmps75;go_wp2_with (at_make;refine wpList_make_full _ rfl _ _ 72 rfl 0 91 i0 (.agg #[.int .i64 0,.int .i64 0,.int .i64 0,.bool false,.slice none 0 0]) 5 Tryz.underlying72 hi hz0 hz1 .i64 .i64 _ _ m rfl rfl rfl rfl (by rw [hz2];omega) (by unfold maxLen;omega) (Nat.zero_le _) ?_;intro w1 hown hgrow);have HO:Hid (TSc 91 5 m 0 Es w1 w.heap.size m _ (fun _ _=>False)):=TSc.start hown;have HG:Hid (Old w w1):=Below.grown (Below.refl _ _) hgrow (Nat.le_refl _) (fun _ h=>by cases h);clear hown hgrow
 go_loopw [13,6,7] (fun i _ _ W=>∃(k:Nat) (vs:List Value) (Bs:Nat->Nat->Prop),k<=m/\i=.int .i64 k/\Hid (TSc 91 5 m k Es W w.heap.size m vs Bs)/\Hid (∀j b,j<k->Bs j b->w.heap.size<b)/\Hid (Old w W)) (fun i _ _ _=>m - (intOf i).toNat)
 case atStart=>exact ⟨0,_,_,by omega,rfl,HO,(fun j b hj=>by omega),HG⟩
 case round=>
  obtain ⟨k,vs,Bs,hk,rfl,H1,HB,HG1⟩:=hrel;clear HO HG
  by_cases hlt:k<m
  ·have ilt:(k:Int)<(m:Int):=by omega
   obtain ⟨c0,c1,c2,c3,c4⟩:=HC.out k hlt;obtain ⟨xu,nu,cu,eu⟩:=HUS.out k hlt;have cj:=HCJ.out k hlt;rw [eu] at c4 cj;have q0:=(HG1.out.cell (p:=⟨b,k*5,none⟩) hb).trans c0;have q1:=(HG1.out.cell (p:=⟨b,k*5+1,none⟩) hb).trans c1;have q2:=(HG1.out.cell (p:=⟨b,k*5+2,none⟩) hb).trans c2;have q3:=(HG1.out.cell (p:=⟨b,k*5+3,none⟩) hb).trans c3;have q4:=(HG1.out.cell (p:=⟨b,k*5+4,none⟩) hb).trans c4;have hsr:=Qa1 H1.out.row;have HEK:=Qaa (HEL.out k);clear c0 c1 c2 c3 c4 eu;generalize ps.getD k 0=P at *;generalize Rf k=R at *;generalize zss.getD k []=zs at *
   have HAS5:Hid (∀W',Old (wr.alloc (.cells #[.int .i64 P,.int .i64 N,.int .i64 R,.bool a,.slice xu nu cu] 91)) W'->(W'.cell? ⟨wr.heap.size,0,none⟩=some (.int .i64 P)/\W'.cell? ⟨wr.heap.size,1,none⟩=some (.int .i64 N)/\W'.cell? ⟨wr.heap.size,2,none⟩=some (.int .i64 R)/\W'.cell? ⟨wr.heap.size,3,none⟩=some (.bool a)/\W'.cell? ⟨wr.heap.size,4,none⟩=some (.slice xu nu cu))):=fun W' q=>by
    exact ⟨(q.cell (p:=⟨wr.heap.size,0,none⟩) (by simp)).trans (Qae _ _ _ _ _ rfl),(q.cell (p:=⟨wr.heap.size,1,none⟩) (by simp)).trans (Qae _ _ _ _ _ rfl),(q.cell (p:=⟨wr.heap.size,2,none⟩) (by simp)).trans (Qae _ _ _ _ _ rfl),(q.cell (p:=⟨wr.heap.size,3,none⟩) (by simp)).trans (Qae _ _ _ _ _ rfl),(q.cell (p:=⟨wr.heap.size,4,none⟩) (by simp)).trans (Qae _ _ _ _ _ rfl)⟩
   have HAS6:Hid (∀W' y0 y1 y2 y3 y4,Old (wr.alloc (.cells #[.int .i64 P,.int .i64 N,.int .i64 R,.bool a,.slice xu nu cu] 91)) W'->((fun W'=>W'.cell? ⟨wr.heap.size,0,none⟩=some (.int .i64 P)/\W'.cell? ⟨wr.heap.size,1,none⟩=some (.int .i64 N)/\W'.cell? ⟨wr.heap.size,2,none⟩=some (.int .i64 R)/\W'.cell? ⟨wr.heap.size,3,none⟩=some (.bool a)/\W'.cell? ⟨wr.heap.size,4,none⟩=some (.slice xu nu cu)) (((((W'.setCell ⟨w.heap.size,k*5,none⟩ y0).setCell ⟨w.heap.size,k*5+1,none⟩ y1).setCell ⟨w.heap.size,k*5+2,none⟩ y2).setCell ⟨w.heap.size,k*5+3,none⟩ y3).setCell ⟨w.heap.size,k*5+4,none⟩ y4))):=fun W' y0 y1 y2 y3 y4 q=>by
    obtain ⟨s0,s1,s2,s3,s4⟩:=HAS5.out W' q
    have key:∀(bb j:Nat) (z:Value),bb≠w.heap.size->W'.cell? ⟨bb,j,none⟩=some z->(((((W'.setCell ⟨w.heap.size,k*5,none⟩ y0).setCell ⟨w.heap.size,k*5+1,none⟩ y1).setCell ⟨w.heap.size,k*5+2,none⟩ y2).setCell ⟨w.heap.size,k*5+3,none⟩ y3).setCell ⟨w.heap.size,k*5+4,none⟩ y4).cell? ⟨bb,j,none⟩=some z:=fun bb j z hb hz=>by
     rw [Qbr _ _ _ _ hb,Qbr _ _ _ _ hb,Qbr _ _ _ _ hb,Qbr _ _ _ _ hb,Qbr _ _ _ _ hb];exact hz
    exact ⟨key _ _ _ (by omega) s0,key _ _ _ (by omega) s1,key _ _ _ (by omega) s2,key _ _ _ (by omega) s3,key _ _ _ (by omega) s4⟩
   have HGA:Hid (Old w (wr.alloc (.cells #[.int .i64 P,.int .i64 N,.int .i64 R,.bool a,.slice xu nu cu] 91))):=HG1.out.alloc _
   have HX:Hid (∀w6 y n c Bz,Old (wr.alloc (.cells #[.int .i64 P,.int .i64 N,.int .i64 R,.bool a,.slice xu nu cu] 91)) w6->TI zs w6 Bz [.slice y n c]->(∀b,Bz b->wr.heap.size+1<=b)->(∃vs',TSc 91 5 m (k+1) Es (((((w6.setCell ⟨w.heap.size,k*5,none⟩ (.int .i64 P)).setCell ⟨w.heap.size,k*5+1,none⟩ (.int .i64 N)).setCell ⟨w.heap.size,k*5+2,none⟩ (.int .i64 R)).setCell ⟨w.heap.size,k*5+3,none⟩ (.bool a)).setCell ⟨w.heap.size,k*5+4,none⟩ (.slice y n c)) w.heap.size m vs' (fun q=>if q=k then Bz else Bs q))/\(∀j b,j<k+1->(fun q=>if q=k then Bz else Bs q) j b->w.heap.size<b)/\Old w (((((w6.setCell ⟨w.heap.size,k*5,none⟩ (.int .i64 P)).setCell ⟨w.heap.size,k*5+1,none⟩ (.int .i64 N)).setCell ⟨w.heap.size,k*5+2,none⟩ (.int .i64 R)).setCell ⟨w.heap.size,k*5+3,none⟩ (.bool a)).setCell ⟨w.heap.size,k*5+4,none⟩ (.slice y n c))):=fun w6 y n c Bz g6 hTI hlo=>by
    have g7:=Old.trans ((Old.refl wr).alloc _) g6;refine ⟨(H1.out.old HGD.out g7).store5 HGD.out hlt _ _ _ _ _ (B:=Bz) (fun W' hW'=>?_) (fun hb=>by have:=hlo _ hb;omega) (fun j hj b h1 h2=>?_),fun j b hj hb=>?_,?_⟩
    ·rw [HEK.out];exact ⟨_,rfl,(Qcg zs).far hTI (fun b hb=>hW' b (by have:=hlo b hb;omega))⟩
    ·have h4:=H1.out.lt HGD.out j b hj h1;have:=hlo b h2;omega
    ·by_cases e:j=k
     ·simp only [e,if_true] at hb;have:=hlo b hb;omega
     ·simp only [e,if_false] at hb;exact HB.out j b (by omega) hb
    ·exact (((((Old.trans HG1.out g7).own (p:=⟨w.heap.size,k*5,none⟩) (Nat.le_refl _) _).own (p:=⟨w.heap.size,k*5+1,none⟩) (Nat.le_refl _) _).own (p:=⟨w.heap.size,k*5+2,none⟩) (Nat.le_refl _) _).own (p:=⟨w.heap.size,k*5+3,none⟩) (Nat.le_refl _) _).own (p:=⟨w.heap.size,k*5+4,none⟩) (Nat.le_refl _) _
   have HCE:Hid (∀w6,Old (wr.alloc (.cells #[.int .i64 P,.int .i64 N,.int .i64 R,.bool a,.slice xu nu cu] 91)) w6->∀i,i<5->(∃z,w6.cell? ⟨w.heap.size,k*5+i,none⟩=some z)/\w6.frozen? ⟨w.heap.size,k*5+i,none⟩=false):=fun w6 g6 i hi5=>by
    have H2:=H1.out.old HGD.out (Old.trans ((Old.refl wr).alloc _) g6);have h5:=H2.cell k i hlt hi5;have h6:=Qbm H2.row.1 k hlt;exact ⟨⟨_,h5.trans (List.getElem?_eq_getElem (by omega))⟩,H2.frozen _⟩
   clear H1 HB HEK;go_wp2_with fail
   go_region_held3 (fun W'=>W'.cell? ⟨wr.heap.size,0,none⟩=some (.int .i64 P)/\W'.cell? ⟨wr.heap.size,1,none⟩=some (.int .i64 N)/\W'.cell? ⟨wr.heap.size,2,none⟩=some (.int .i64 R)/\W'.cell? ⟨wr.heap.size,3,none⟩=some (.bool a)/\W'.cell? ⟨wr.heap.size,4,none⟩=some (.slice xu nu cu)) (first | with_reducible exact HAS5.out _ Q6.out | with_reducible exact HAS5.out _ Q5.out | with_reducible exact HAS5.out _ (Below.drew (Old.refl _)) | with_reducible exact HAS6.out _ _ _ _ _ _ Q6.out | with_reducible exact HAS5.out _ (Old.refl _)) (first
    | (go_at_call 76;refine (cj _ (Below.drew HGA.out)).mono ?_;rintro e w5 ⟨v5,rfl,q5,o5⟩;obtain ⟨x5,c5,rfl⟩:=(Own.row o5).slice;have Q5:=Qaa (Old.trans (Below.drew (Old.refl _)) q5);have O5:=Qaa (by simp at o5;exact o5);clear q5 o5)
    | (go_at_call 71;refine (Qku _ _ _ _ _ _ _ _ _ _ _).mono ?_;rintro e w6 ⟨rfl,q6⟩;have Q6:=Qaa (Old.trans Q5.out q6);have O6:=Qaa (O5.out.old q6);clear q6;obtain ⟨⟨z0,hz0⟩,hf0⟩:=HCE.out w6 Q6.out 0 (by omega);obtain ⟨⟨z1,hz1⟩,hf1⟩:=HCE.out w6 Q6.out 1 (by omega);obtain ⟨⟨z2,hz2⟩,hf2⟩:=HCE.out w6 Q6.out 2 (by omega);obtain ⟨⟨z3,hz3⟩,hf3⟩:=HCE.out w6 Q6.out 3 (by omega);obtain ⟨⟨z4,hz4⟩,hf4⟩:=HCE.out w6 Q6.out 4 (by omega);rw [Nat.add_zero] at hz0 hf0)
    | fail)
   all_goals
    obtain ⟨Bz,hTI,hlo⟩:=TI.of O6.out;obtain ⟨⟨vs',n1⟩,n2,n3⟩:=HX.out w6 x5 zs.length c5 Bz Q6.out hTI hlo;have N1:=Qaa n1;have N2:Hid (∀j b,j<k+1->(fun q=>if q=k then Bz else Bs q) j b->w.heap.size<b):=n2;have N3:=Qaa n3;clear n1 n2 n3 hTI hlo HX;go_wp2_with fail;exact ⟨⟨k+1,vs',_,by omega,by go_num,N1,N2,N3⟩,by simp [intOf];omega⟩
  ·have d1:decide ((k:Int)<(m:Int))=false:=by simp;omega
   obtain rfl:k=m:=by omega
   have HE:=Qaa (H1.out.done HGD.out (Nat.le_refl _) (fun j b hj hb=>Nat.le_of_lt (HB.out j b hj hb)));go_wp2_with fail;go_ret;exact ⟨rfl,HG1.out,HE.out⟩
end Go.Proofs.YtdaepfjocofkjaaGreatDoor
namespace Go.Proofs.YtdaepfjocofkjaaGreatDoor
open Go.ChangeShapes Go.WideShapes Go.ChangeAt Go.RowKit
open M1
theorem Qgz (N T E:Int) (ps:List Int) (xs:List Int) (v u1:Value) (w:World) (hv:Row w v ps) (h1:Row w u1 xs) (hps:1<=ps.length/\ps.length<=6) (hxl:1<=xs.length/\xs.length<=16)
 (hr:∀k,k<ps.length->2<=ps.getD k 0/\ps.getD k 0<=268435456) (hxb:∀i,i<xs.length->-1099511627776<=xs.getD i 0/\xs.getD i 0<=1099511627776) :
 Calls Tryz.prog 29 #[.agg #[.int .i64 N,.int .i64 T,.int .i64 E,v],u1] w fun e w'=>∃v',e=.returned v'/\Old w w'/\OwS (smS ps xs) w' w.heap.size w'.heap.size v':=by
 obtain ⟨i0,hi,hz0,hz1,hz2⟩:=info_parts Tryz.infoInt;obtain ⟨j0,ji,jz0,jz1,jz2⟩:=info_parts Tryz.infoInts;have HR:=Qaa hr;have HB:=Qaa hxb;have R1:=Qaa h1;obtain ⟨a0,cap0,ev⟩:=hv.slice;subst ev;rcases hv with ⟨a,cap,e,e'⟩ | ⟨b,o,cap,e,hb,h0,hc⟩
 ·subst e';simp at hps
 rcases h1 with ⟨a,cap,e,e'⟩ | ⟨b3,o3,cap3,e_1,hb3,h03,hc3⟩
 ·subst e';simp at hxl
 simp only [Value.slice.injEq,true_and] at e;obtain ⟨rfl,rfl⟩:=e;subst e_1;have HC:=Qaa hc;have HC3:=Qaa hc3
 have HZ:Hid (∀k,k<ps.length->(smS ps xs).take (k+1)=(smS ps xs).take k++[smR (ps.getD k 0) xs]):=fun k hk=>by
  rw [Qej _ _ (by rw [Qfb];exact hk),Qfc _ _ _ hk]
 have HZL:Hid ((smS ps xs).length=ps.length):=Qfb _ _;generalize smS ps xs=zss at *;clear hc hc3 hr hxb;have HAO:Hid (Old w (w.alloc (.cells #[.int .i64 N,.int .i64 T,.int .i64 E,.slice (some ⟨b,o,none⟩) ps.length cap0] 35))):=(Old.refl w).alloc _;go_enter Tryz.func29,Tryz.ntmps29;go_wp2_with fail
 go_loopw [5,14] (fun x i W=>∃(k:Nat) (a:Option Addr) (cap:Nat),k<=ps.length/\i=.int .i64 k/\x=.slice a k cap/\Hid (OwS (zss.take k) W w.heap.size W.heap.size (.slice a k cap))/\Hid (Old w W)) (fun _ i _=>ps.length - (intOf i).toNat)
 case atStart=>exact ⟨0,none,0,by omega,rfl,rfl,⟨Nat.le_refl _,Or.inl ⟨rfl,by simp⟩⟩,HAO⟩
 case round=>
  obtain ⟨k,a,cap,hk,rfl,rfl,HO,HG⟩:=hrel;have hsr:=HG.out.size
  by_cases hlt:k<ps.length
  ·have r3:=HR.out k hlt;have c0:=(HG.out.cell (p:=⟨b,o+k,none⟩) hb).trans (HC.out k hlt);have HC4:=Qaa (fun j hj=>(HG.out.cell (p:=⟨b3,o3+j,none⟩) hb3).trans (HC3.out j hj))
   have HT:Hid (∀i,i<xs.length->(smR (ps.getD k 0) xs).take (i+1)=(smR (ps.getD k 0) xs).take i++[xs.getD i 0%ps.getD k 0]):=fun i hi'=>by
    rw [Qdj _ _ (by rw [Qfa];exact hi'),Qig _ _ _ hi']
   have HTL:Hid ((smR (ps.getD k 0) xs).length=xs.length):=Qfa _ _;have HZK:=Qaa (HZ.out k hlt);have hbr3:b3<wr.heap.size:=by omega
   generalize smR (ps.getD k 0) xs=zs at *;generalize ps.getD k 0=p at *
   have HEMB:Hid (∀(W:World) (ra:Option Addr) (rc:Nat),Old wr W->Own W wr.heap.size (.slice ra zs.length rc) zs->zs.length<=rc->∃vs,W.ownsRow w.heap.size 22 1 (.slice a k cap) k vs/\(∀v' w',w'.ownsRow w.heap.size 22 1 v' (k+1) (vs++[.slice ra zs.length rc])->W.grownBy w' (Value.slice a k cap).ownBlock->(v'.ownBlock=(Value.slice a k cap).ownBlock∨v'.ownBlock=some W.heap.size)->OwS (zss.take (k+1)) w' w.heap.size w'.heap.size v')):=fun W ra rc g o hc=>by
    have hl:(zss.take k).length=k:=by rw [List.length_take];have:=HZL.out;omega
    have:=OwS.app HO.out hsr g o hc;rw [hl] at this;rw [HZK.out];exact this
   have HOB:Hid (∀p,(Value.slice a k cap).ownBlock=some p->w.heap.size<=p):=fun p hp=>by
    obtain ⟨hh,⟨e,e2⟩ | ⟨p',cap',vs,e,hcap,hl,hhi,_⟩⟩:=HO.out
    ·rw [e] at hp
     cases hp
    ·rw [e] at hp;simp only [Value.ownBlock,Option.some.injEq] at hp;omega
   rename World=>wq
   go_wp2_with fail
   go_loopw [8,20] (fun x i W=>∃(j:Nat) (a:Option Addr) (cap:Nat),j<=xs.length/\i=.int .i64 j/\x=.slice a j cap/\Hid (Own W wq.heap.size (.slice a j cap) (zs.take j))/\Hid (Old wq W)) (fun _ i _=>xs.length - (intOf i).toNat)
   case atStart=>exact ⟨0,none,0,by omega,rfl,rfl,(by exact Qn9 _ _),Old.refl _⟩
   case round=>
    obtain ⟨j,ra,rc,hj,rfl,rfl,HO2,HG2⟩:=hrel;have hs2:=HG2.out.size
    by_cases hjl:j<xs.length
    ·obtain ⟨bx1,bx2⟩:=HB.out j hjl;have HT1:=HT.out j hjl;have k3:=(HG2.out.cell (p:=⟨b3,o3+j,none⟩) hbr3).trans (HC4.out j hjl);have htk:(zs.take j).length=j:=by rw [List.length_take];have:=HTL.out;omega
     have HT2:=Qaa HT1;clear HT1;have hp0:¬p=0:=by omega
     generalize xs.getD j 0=x at *;obtain ⟨q,hq⟩:∃q,x%p=q:=⟨_,rfl⟩
     have hqb:0<=q/\q<268435456:=by
      have g1:=Int.emod_nonneg x (show p≠0 by omega);have g2:=Int.emod_lt_of_pos x (show 0<p by omega);omega
     have cm:=fun W=>Qvj x p W (by omega) (by omega)
     rw [hq] at cm HT2;clear hq;go_wp2_with fail;refine (cm _).mono ?_
     rintro e w4 ⟨rfl,hw4⟩
     replace hw4:=hw4.symm
     subst hw4;go_wp2_with (at_builtin;go_loud (refine wpList_append_own _ rfl _ _ 22 rfl wq.heap.size 3 i0 (.int .i64 0) 1 8 Tryz.underlying22 hi hz0 hz1 hz2 rfl (by decide) _ _ _ rfl (by have:=HO2.out.alloc (.cells #[.int .i64 q] 3);unfold Own at this;rw [htk] at this;exact this) ⟨wr.heap.size,0,none⟩ 1 1 [.int .i64 q] rfl rfl (one_cell _ _ _) (one_one _) (by unfold maxLen;omega) (by omega) (by simp;omega) ?_;intro v5 w5 o5 g5 x5;have O5:Hid (Own w5 wq.heap.size v5 (zs.take (j+1))):=(by have:=HT2.out;show Own _ _ _ _;rw [this];exact Own.snoc (by rw [htk];exact o5));have G5:Hid (Old wq w5):=Below.grown (HG2.out.alloc (.cells #[.int .i64 q] 3)) g5 (HG2.out.alloc (.cells #[.int .i64 q] 3)).size (fun j hj=>(HO2.out.lt j hj).1);clear o5 g5 x5));obtain ⟨a5,cap5,rfl⟩:=(Own.row O5.out).slice;have htk1:(zs.take (j+1)).length=j+1:=by rw [List.length_take];have:=HTL.out;omega
     rw [htk1] at O5 ⊢;exact ⟨⟨j+1,_,_,by omega,by go_num,rfl,O5,G5⟩,by simp [intOf];omega⟩
    ·have d2:decide ((j:Int)<(xs.length:Int))=false:=by simp;omega
     obtain rfl:j=xs.length:=by omega
     have hzl:=HTL.out;have own2:=HO2.out;rw [List.take_of_length_le (by omega)] at own2
     have hrc:xs.length<=rc:=by
      rcases own2.2 with ⟨e,hn⟩ | ⟨_,_,_,e,_,_,hn,_⟩
      ·simp only [Value.slice.injEq] at e;omega
      ·simp only [Value.slice.injEq,true_and] at e;omega
     rw [<- hzl] at own2 hrc;obtain ⟨vs,ov,hem⟩:=HEMB.out (wr.alloc (.cells #[.slice ra zs.length rc] 22)) ra rc (HG2.out.alloc _) (own2.alloc _) hrc;rw [hzl] at ov hem;have OV:=Qaa ov;have HEM:=Qaa hem;have HWW:Hid (Old w (wr.alloc (.cells #[.slice ra xs.length rc] 22))):=(Old.trans HG.out HG2.out).alloc _;clear own2 ov hem hzl hrc HO2;go_wp2_with (at_builtin;(refine wpList_append_own_at _ rfl _ _ 25 rfl w.heap.size 22 j0 (.slice none 0 0) 1 24 Tryz.underlying25 ji jz0 jz1 jz2 rfl (by decide) _ _ _ rfl OV.out ⟨wr.heap.size,0,none⟩ 1 1 [.slice ra xs.length rc] rfl rfl (one_cell _ _ _) (Qqh _ _ _) (by unfold maxLen;omega) (by omega) (by simp;omega) ?_;intro v5 w5 o5 g5 x5 l5;have O5:=Qaa (HEM.out v5 w5 o5 g5 l5);have G5:Hid (Old w w5):=Below.grown HWW.out g5 HWW.out.size (fun j hj=>HOB.out j hj);clear o5 g5 x5 l5));have hl1:(zss.take (k+1)).length=k+1:=by rw [List.length_take];have:=HZL.out;omega
     obtain ⟨a5,cap5,e5⟩:=O5.out.slice;subst e5;rw [hl1] at O5 ⊢;exact ⟨⟨k+1,_,_,by omega,by go_num,rfl,O5,G5⟩,by simp [intOf];omega⟩
  ·have d1:decide ((k:Int)<(ps.length:Int))=false:=by simp;omega
   obtain rfl:k=ps.length:=by omega
   have HF:Hid (OwS zss wr w.heap.size wr.heap.size (.slice a ps.length cap)):=by
    have:=HO.out;rw [List.take_of_length_le (by have:=HZL.out;omega)] at this;exact this
   go_wp2_with fail;go_ret;exact ⟨_,rfl,HG.out,HF.out⟩
end Go.Proofs.YtdaepfjocofkjaaGreatDoor
