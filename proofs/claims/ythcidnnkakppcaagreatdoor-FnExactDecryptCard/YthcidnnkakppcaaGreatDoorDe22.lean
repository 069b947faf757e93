/- Proved: what its theorems say. -/
import Derived.Test.YthcidnnkakppcaaGreatDoorDe27
import Derived.Test.YthcidnnkakppcaaGreatDoorDe15
import Derived.Test.YthcidnnkakppcaaGreatDoorDe30
import Derived.Test.YthcidnnkakppcaaGreatDoorDe33
set_option linter.unusedVariables false
set_option linter.unusedSimpArgs false
set_option maxHeartbeats 8000000
set_option maxRecDepth 100000
namespace Go.Proofs.YthcidnnkakppcaaGreatDoor
open Go.ChangeShapes Go.WideShapes Go.ChangeAt Go.RowKit
theorem Qex {N:Int} {ps:List Int} {xss:List (List Int)} (h:rwB N ps xss=true):xss.length=ps.length/\∀k,k<ps.length->Qcs (ps.getD k 0) N (xss.getD k [])=true:=by
 unfold rwB at h;rw [Bool.and_eq_true] at h;refine ⟨of_decide_eq_true h.1,fun k hk=>?_⟩;have h2:=h.2;unfold rwA at h2;exact of_decide_eq_true h2 k hk (Nat.zero_le _)
theorem Qjr {p N:Int} {xs:List Int} (h:Qcs p N xs=true):(xs.length:Int)=N/\∀i,i<xs.length->0<=xs.getD i 0/\xs.getD i 0<p:=by
 unfold Qcs at h;rw [Bool.and_eq_true] at h;refine ⟨of_decide_eq_true h.1,fun i hi=>?_⟩;have h2:=List.all_eq_true.1 h.2 xs[i] (List.getElem_mem hi);rw [show xs.getD i 0=xs[i] by simp [List.getD,hi]];simp [Qij] at h2;omega
theorem rd_true {m:Nat} {B:Nat->Bool} (h:rdB m B=true):(2<=m/\m<=3)/\∀j,j<m->B j=true:=by
 unfold rdB at h;rw [Bool.and_eq_true] at h;exact ⟨of_decide_eq_true h.1,of_decide_eq_true h.2⟩
def RdX (N:Int) (ps:List Int) (Rf:Nat->Int) (xss:List (List Int)) (W:World) (v:Value):Prop:=∃us:Nat->Value,RdR W v ps.length N false ps Rf us/\∀k,k<ps.length->Row W (us k) (xss.getD k [])/\∃x c,us k=.slice x (xss.getD k []).length c
theorem RdX.old {N:Int} {ps:List Int} {Rf:Nat->Int} {xss:List (List Int)} {W W':World} {v:Value} (h:RdX N ps Rf xss W v) (g:Old W W'):RdX N ps Rf xss W' v:=by
 obtain ⟨us,h1,h2⟩:=h;exact ⟨us,h1.old g,fun k hk=>⟨(h2 k hk).1.old g,(h2 k hk).2⟩⟩
theorem RdX.slice {N:Int} {ps:List Int} {Rf:Nat->Int} {xss:List (List Int)} {W:World} {v:Value} (h:RdX N ps Rf xss W v):∃a c,v=.slice a ps.length c:=by
 obtain ⟨us,⟨b,cap,e,_⟩,_⟩:=h;exact ⟨_,_,e⟩
def OkX (Nn:Nat) (ps:List Int) (xss:List (List Int)):Prop:=∀k,k<ps.length->(xss.getD k []).length=Nn/\∀i,i<Nn->0<=(xss.getD k []).getD i 0/\(xss.getD k []).getD i 0<ps.getD k 0
theorem Q29 {Nn:Nat} {ps:List Int} {xss:List (List Int)} (h:rwB Nn ps xss=true):OkX Nn ps xss:=fun k hk=>by
 obtain ⟨h1,h2⟩:=Qex h;obtain ⟨p1,p2⟩:=Qjr (h2 k hk);exact ⟨by omega,fun i hi=>p2 i (by omega)⟩
theorem Qxb (Nn:Nat) (ps:List Int) (Rf:Nat→Int) (xss yss:List (List Int)) (v1 v2:Value) (w:World) (hN:2≤Nn∧Nn≤16) (hps:1≤ps.length∧ps.length≤6) (hpb:∀k,k<ps.length→2≤ps.getD k 0∧ps.getD k 0≤268435456) (hx:OkX Nn ps xss) (hy:OkX Nn ps yss) (h1:RdX Nn ps Rf xss w v1) (h2:RdX Nn ps Rf yss w v2) :
  Calls Tryz.prog 102 #[v1,v2,.func (.func 104) #[] #[]] w fun e w'=>∃v',e=.returned v'/\Old w w'/\Ows (TS 149 5 ps.length (elR Nn false ps Rf (Qcb Qdd ps xss yss))) w' w.heap.size w'.heap.size [v']:=by
 obtain ⟨us,hr,hus⟩:=h1;obtain ⟨vs,hs,hvs⟩:=h2;refine (Qol Nn false ps Rf us v1 ps Rf false vs v2 ps.length w hr (fun k hk=>?_) hs (fun k hk=>?_) (by omega) (Qcb Qdd ps xss yss) (fun k hk W g=>?_)).mono fun e w' h=>⟨_,h.1,h.2.1,h.2.2⟩
 ·obtain ⟨_,x,c,e⟩:=hus k hk;exact ⟨x,_,c,e⟩
 ·obtain ⟨_,x,c,e⟩:=hvs k hk;exact ⟨x,_,c,e⟩
 ·obtain ⟨r1,x,c,e⟩:=hus k hk;obtain ⟨r2,y,d,f⟩:=hvs k hk;rw [(hx k hk).1] at e;rw [(hy k hk).1] at f;rw [e] at r1 ⊢;rw [f] at r2 ⊢;refine (Qrt (ps.getD k 0) (Rf k) (ps.getD k 0) (Rf k) Nn false false Nn _ _ x y c d W (r1.old g) (r2.old g) (hpb k hk) hN (hx k hk).1 (hy k hk).1 (fun i hi=>⟨(hx k hk).2 i hi,(hy k hk).2 i hi⟩)).mono fun e w' h=>?_
  obtain ⟨g',rfl,g2,o2⟩:=h;refine ⟨_,rfl,g2,?_⟩;rw [Qc6 _ _ _ _ k hk];exact o2
theorem Qo0 (p r p' N' r':Int) (Nn:Nat) (n2:Bool) (zs:List Int) (ua ub:Option Addr) (la ca lb cb:Nat) (w:World) (KC:∀W,Old w W→Calls Tryz.prog 122 #[.agg #[.int .i64 p,.int .i64 Nn,.int .i64 r],.slice ua la ca,.slice ub lb cb] W fun e w'=>∃v',e=.returned v'∧Old W w'∧Own w' W.heap.size v' zs) (hz:zs.length=Nn) (h0:0<Nn) :
  Calls Tryz.prog 103 #[.agg #[.int .i64 p,.int .i64 Nn,.int .i64 r,.bool false,.slice ua la ca],.agg #[.int .i64 p',.int .i64 N',.int .i64 r',.bool n2,.slice ub lb cb]] w fun e w'=>∃v',e=.returned v'/\Old w w'/\Own w' w.heap.size v' zs:=by
 obtain ⟨wB,hwB⟩:∃wB,wB=(w.alloc (.cells #[.int .i64 p,.int .i64 Nn,.int .i64 r,.bool false,.slice ua la ca] 149)).alloc (.cells #[.int .i64 p',.int .i64 N',.int .i64 r',.bool n2,.slice ub lb cb] 149):=⟨_,rfl⟩
 have HWB:Hid (Old w wB):=by rw [hwB];exact ((Old.refl w).alloc _).alloc _
 have kc:=KC wB HWB.out;clear KC;go_enter Tryz.func103,Tryz.ntmps103;go_wp2_with fail;rw [<- hwB];refine kc.mono ?_
 rintro e w2 ⟨v2,rfl,g2,o2⟩;have HG2:=Qaa (Old.trans HWB.out g2);obtain ⟨g,cp,e2,hcp⟩:=Qwy o2 (by omega);rw [hz] at e2 hcp;subst e2;have HO2:=Qaa (o2.low HWB.out.size);clear g2 o2;go_wp2_with fail;go_ret;exact ⟨_,rfl,HG2.out,HO2.out⟩
end Go.Proofs.YthcidnnkakppcaaGreatDoor
namespace Go.Proofs.YthcidnnkakppcaaGreatDoor
open Go.ChangeShapes Go.WideShapes Go.ChangeAt Go.RowKit
open M1
theorem Qjs (ys:List Nat):(toZ ys).map Int.toNat=ys:=by
 rw [toZ,List.map_map];refine (List.map_congr_left fun x hx=>?_).trans (List.map_id ys);simp
def Qdv (N:Nat) (ps:List Int) (xss yss:List (List Int)):List (List Int):=(List.range ps.length).map fun k=>toZ (muO (ps.getD k 0).toNat N ((xss.getD k []).map Int.toNat) ((yss.getD k []).map Int.toNat) N)
theorem Qha (N:Nat) (ps:List Int) (xss yss:List (List Int)):(Qdv N ps xss yss).length=ps.length:=by simp [Qdv]
theorem Qdi (N:Nat) (ps:List Int) (xss yss:List (List Int)) (k:Nat) (hk:k<ps.length):(Qdv N ps xss yss).getD k []=toZ (muO (ps.getD k 0).toNat N ((xss.getD k []).map Int.toNat) ((yss.getD k []).map Int.toNat) N):=by
 simp [Qdv,List.getD,hk]
def RtS (N:Nat) (ps:List Int) (Rf:Nat->Int):Prop:=∀k,k<ps.length->∃P R:Nat,ps.getD k 0=P/\Rf k=R/\R<P/\(2<=P/\P<=268435456)/\P%2=1/\Cg P ((R:Int)^(2*N)) 1/\Cg P ((R:Int)^N) (-1)
def Mx (Nn:Nat) (ps:List Int) (Rf:Nat->Int) (zss:List (List Int)) (base:Nat) (W:World) (v:Value):Prop:=∃hi,Ows (TS 149 5 ps.length (elR Nn false ps Rf zss)) W base hi [v]
theorem Mx.low {Nn:Nat} {ps:List Int} {Rf:Nat->Int} {zss:List (List Int)} {base lo:Nat} {W:World} {v:Value} (h:Mx Nn ps Rf zss base W v) (q:lo<=base):Mx Nn ps Rf zss lo W v:=by
 obtain ⟨hi,h⟩:=h;exact ⟨hi,Ows.low h q (Nat.le_refl _) h.1⟩
theorem Mx.rd {Nn:Nat} {ps:List Int} {Rf:Nat->Int} {zss:List (List Int)} {base:Nat} {W:World} {v:Value} (hm:1<=ps.length) (h:Mx Nn ps Rf zss base W v):RdX Nn ps Rf zss W v:=by
 obtain ⟨hi,h⟩:=h;exact Ows.rd hm h
theorem Qeo {Nn:Nat} {ps:List Int} {xss:List (List Int)} {P:Nat} {k:Nat} (h:OkX Nn ps xss) (hk:k<ps.length) (hP:ps.getD k 0=P):∃ys:List Nat,xss.getD k []=toZ ys/\ys.length=Nn/\∀y∈ys,y<P:=by
 obtain ⟨hl,hb⟩:=h k hk;generalize hx:xss.getD k []=xs at *;refine ⟨xs.map Int.toNat,?_,by simpa using hl,fun y hy=>?_⟩
 ·unfold toZ;rw [List.map_map];refine ((List.map_congr_left fun x hx=>?_).trans (List.map_id xs)).symm;obtain ⟨i,hi,rfl⟩:=List.getElem_of_mem hx;have:=(hb i (by omega)).1;rw [show xs.getD i 0=xs[i] by simp [List.getD,hi]] at this;simp;omega
 ·obtain ⟨x,hx,rfl⟩:=List.mem_map.1 hy;obtain ⟨i,hi,rfl⟩:=List.getElem_of_mem hx;have:=hb i (by omega);rw [show xs.getD i 0=xs[i] by simp [List.getD,hi],hP] at this;omega
theorem Q3a {Nn:Nat} {ps:List Int} {xss:List (List Int)} (h:∀k,k<ps.length->∃(P:Nat) (ys:List Nat),ps.getD k 0=P/\xss.getD k []=toZ ys/\ys.length=Nn/\∀y∈ys,y<P):OkX Nn ps xss:=fun k hk=>by
 obtain ⟨P,ys,e1,e2,hl,hlt⟩:=h k hk;rw [e1,e2];refine ⟨by rw [Qau];exact hl,fun i hi=>?_⟩;have e:(toZ ys).getD i 0=((ys.getD i 0:Nat):Int):=by simp [toZ,List.getD,show i<ys.length by omega]
 have hm:ys.getD i 0∈ys:=by simp [List.getD,show i<ys.length by omega]
 have:=hlt _ hm;rw [e];omega
theorem Qk0 {Nn:Nat} {ps:List Int} {Rf:Nat->Int} {xss yss:List (List Int)} (hrt:RtS Nn ps Rf):OkX Nn ps (Qdv Nn ps xss yss):=Q3a fun k hk=>by
 obtain ⟨P,R,eP,eR,hlt,hP2,ho,t1,t2⟩:=hrt k hk;refine ⟨P,_,eP,by rw [Qdi _ _ _ _ _ hk],Qdo _ _ _ _ _,?_⟩;rw [eP];exact Qqs _ _ _ _ (by omega) _
theorem Qk1 {Nn:Nat} {ps:List Int} {xss yss:List (List Int)} (hpb:∀k,k<ps.length->2<=ps.getD k 0/\ps.getD k 0<=268435456) (hx:OkX Nn ps xss):OkX Nn ps (Qcb Qdd ps xss yss):=fun k hk=>by
 rw [Qc6 _ _ _ _ _ hk,Qfq];refine ⟨(hx k hk).1,fun i hi=>?_⟩;rw [Qhz _ _ _ _ _ (by rw [(hx k hk).1];exact hi)];have:=hpb k hk;exact ⟨Int.emod_nonneg _ (by omega),Int.emod_lt_of_pos _ (by omega)⟩
theorem Qm3 {Nn:Nat} {ps ss:List Int} (hpb:∀k,k<ps.length->2<=ps.getD k 0/\ps.getD k 0<=268435456) (hs:ss.length=Nn):OkX Nn ps (smS ps ss):=fun k hk=>by
 rw [Qow _ _ _ hk,Qkr];refine ⟨hs,fun i hi=>?_⟩;rw [Qou _ _ _ (by omega)];have:=hpb k hk;exact ⟨Int.emod_nonneg _ (by omega),Int.emod_lt_of_pos _ (by omega)⟩
theorem Q4m (Nn:Nat) (ps:List Int) (Rf:Nat→Int) (xss yss:List (List Int)) (v1 v2:Value) (w:World) (hT:Qbb w) (hS:Sz4 Nn) (hps:1≤ps.length∧ps.length≤6) (hrt:RtS Nn ps Rf) (hx:OkX Nn ps xss) (hy:OkX Nn ps yss) (h1:RdX Nn ps Rf xss w v1) (h2:RdX Nn ps Rf yss w v2) :
  Calls Tryz.prog 102 #[v1,v2,.func (.func 103) #[] #[]] w fun e w'=>∃v',e=.returned v'/\Old w w'/\Mx Nn ps Rf (Qdv Nn ps xss yss) w.heap.size w' v':=by
 obtain ⟨us,hr,hus⟩:=h1;obtain ⟨vs,hs,hvs⟩:=h2;have hN:2<=Nn/\Nn<=16:=by unfold Sz4 at hS;omega
 refine (Qmp Nn false ps Rf us v1 ps Rf false vs v2 ps.length w hr (fun k hk=>?_) hs (fun k hk=>?_) (by omega) (Qdv Nn ps xss yss) (fun k hk W g=>?_)).mono fun e w' h=>⟨_,h.1,h.2.1,_,h.2.2⟩
 ·obtain ⟨_,x,c,e⟩:=hus k hk;exact ⟨x,_,c,e⟩
 ·obtain ⟨_,x,c,e⟩:=hvs k hk;exact ⟨x,_,c,e⟩
 ·obtain ⟨r1,x,c,e⟩:=hus k hk;obtain ⟨r2,y,d,f⟩:=hvs k hk;obtain ⟨P,R,eP,eR,hlt,hP2,ho,t1,t2⟩:=hrt k hk;obtain ⟨ys,e4,la,ha⟩:=Qeo hx hk eP;obtain ⟨zs,e5,lb,hb⟩:=Qeo hy hk eP;rw [(hx k hk).1] at e;rw [(hy k hk).1] at f;rw [e] at r1 ⊢;rw [f] at r2 ⊢;rw [Qdi _ _ _ _ _ hk];rw [e4] at r1 ⊢;rw [e5] at r2 ⊢;rw [eP,eR,Qjs,Qjs,show ((P:Int).toNat)=P by omega];refine Qo0 P R P Nn R Nn false _ x y Nn c Nn d W (fun W' g'=>?_) (by rw [Qau,Qdo]) (by omega);exact Qm0 P Nn R ys zs _ _ W' (hT.old (Old.trans g g')) (r1.old (Old.trans g g')) (r2.old (Old.trans g g')) hP2 ho hS hlt la lb ha hb t1 t2
theorem Q4n (Nn:Nat) (ps:List Int) (Rf:Nat→Int) (xss yss:List (List Int)) (v1 v2:Value) (w:World) (hN:2≤Nn∧Nn≤16) (hps:1≤ps.length∧ps.length≤6) (hpb:∀k,k<ps.length→2≤ps.getD k 0∧ps.getD k 0≤268435456) (hx:OkX Nn ps xss) (hy:OkX Nn ps yss) (h1:RdX Nn ps Rf xss w v1) (h2:RdX Nn ps Rf yss w v2) :
  Calls Tryz.prog 102 #[v1,v2,.func (.func 104) #[] #[]] w fun e w'=>∃v',e=.returned v'/\Old w w'/\Mx Nn ps Rf (Qcb Qdd ps xss yss) w.heap.size w' v':=
 (Qxb Nn ps Rf xss yss v1 v2 w hN hps hpb hx hy h1 h2).mono fun e w' h=>by
  obtain ⟨v',e1,g,o⟩:=h;exact ⟨v',e1,g,_,o⟩
def ppL (Nn:Nat) (ps:List Int) (xss yss zss:List (List Int)):List (List Int):=Qcb Qdd ps xss (Qdv Nn ps yss zss)
theorem Qd4 (Nn:Nat) (ps:List Int) (Rf:Nat→Int) (xss yss zss:List (List Int)) (v0 v1 v2:Value) (w:World) (hT:Qbb w) (hS:Sz4 Nn) (hps:1≤ps.length∧ps.length≤6) (hpb:∀k,k<ps.length→2≤ps.getD k 0∧ps.getD k 0≤268435456) (hrt:RtS Nn ps Rf) (hx:OkX Nn ps xss) (hy:OkX Nn ps yss) (hz:OkX Nn ps zss) (h0:RdX Nn ps Rf xss w v0) (h1:RdX Nn ps Rf yss w v1) (h2:RdX Nn ps Rf zss w v2) :
  Calls Tryz.prog 67 #[v0,v1,v2] w fun e w'=>∃v',e=.returned v'/\Old w w'/\Mx Nn ps Rf (ppL Nn ps xss yss zss) w.heap.size w' v':=by
 have hN:2<=Nn/\Nn<=16:=by unfold Sz4 at hS;omega
 have K1:=Qaa (Q4m Nn ps Rf yss zss v1 v2 w hT hS hps hrt hy hz h1 h2);have K2:=Qaa (fun W v (g:Old w W) (h:RdX Nn ps Rf (Qdv Nn ps yss zss) W v)=>Q4n Nn ps Rf xss (Qdv Nn ps yss zss) v0 v W hN hps hpb hx (Qk0 hrt) (h0.old g) h);obtain ⟨a0,c0,rfl⟩:=h0.slice;obtain ⟨a1,c1,rfl⟩:=h1.slice;obtain ⟨a2,c2,rfl⟩:=h2.slice;have hm:=Qaa hps.1;clear hT hS hps hpb hrt hx hy hz h0 h1 h2 hN;go_enter Tryz.func67,Tryz.ntmps67;go_wp2_with fail;refine K1.out.mono ?_
 rintro e w1 ⟨v',rfl,g1,o1⟩;have G1:=Qaa g1;have M1':=Qaa (o1.rd hm.out);obtain ⟨a3,c3,rfl⟩:=M1'.out.slice;clear g1 o1 K1;go_wp2_with fail;refine (K2.out _ _ G1.out M1'.out).mono ?_
 rintro e w2 ⟨v',rfl,g2,o2⟩;have G2:=Qaa (Old.trans G1.out g2);have M2':=Qaa (o2.low G1.out.size);obtain ⟨a4,c4,rfl⟩:=(o2.rd hm.out).slice;clear g2 o2 K2;go_wp2_with fail;go_ret;exact ⟨_,rfl,G2.out,M2'.out⟩
theorem Q4o (L:Nat) (g0 g1:Option Addr) (W:World):Sem.run Tryz.prog (Instr.typeAssert (if2 L g0 g1) 71 114 true) W=.ok (.tuple #[.agg #[.slice g0 L L,.slice g1 L L],.bool true]) W:=by kernel_rfl
theorem Q4p (L:Nat) (g0 g1 g2:Option Addr) (W:World):Sem.run Tryz.prog (Instr.typeAssert (if3 L g0 g1 g2) 71 114 true) W=.ok (.tuple #[.agg #[.slice none 0 0,.slice none 0 0],.bool false]) W:=by kernel_rfl
theorem Q4q (L:Nat) (g0 g1 g2:Option Addr) (W:World):Sem.run Tryz.prog (Instr.typeAssert (if3 L g0 g1 g2) 71 112 true) W=.ok (.tuple #[.agg #[.slice g0 L L,.slice g1 L L,.slice g2 L L],.bool true]) W:=by kernel_rfl
def Qie (Nn:Nat) (ps:List Int) (xsss:List (List (List Int))) (sss:List (List Int)):List (List Int):=
 if xsss.length=3 then ppL Nn ps (xsss.getD 0 []) (ppL Nn ps (xsss.getD 1 []) (xsss.getD 2 []) sss) sss else ppL Nn ps (xsss.getD 0 []) (xsss.getD 1 []) sss
theorem Qxc (Nn:Nat) (ps:List Int) (Rf:Nat→Int) (xss yss sss:List (List Int)) (g0 g1:Option Addr) (v:Value) (w:World) (hT:Qbb w) (hS:Sz4 Nn) (hps:1≤ps.length∧ps.length≤6) (hpb:∀k,k<ps.length→2≤ps.getD k 0∧ps.getD k 0≤268435456) (hrt:RtS Nn ps Rf) (hx:OkX Nn ps xss) (hy:OkX Nn ps yss) (hz:OkX Nn ps sss) (h0:RdX Nn ps Rf xss w (.slice g0 ps.length ps.length)) (h1:RdX Nn ps Rf yss w (.slice g1 ps.length ps.length)) (h2:RdX Nn ps Rf sss w v) :
  Calls Tryz.prog 35 #[if2 ps.length g0 g1,v] w fun e w'=>∃v',e=.returned v'/\Old w w'/\Mx Nn ps Rf (ppL Nn ps xss yss sss) w.heap.size w' v':=by
 have K:=Qaa (fun W (g:Old w W)=>Qd4 Nn ps Rf xss yss sss (.slice g0 ps.length ps.length) (.slice g1 ps.length ps.length) v W (hT.old g) hS hps hpb hrt hx hy hz (h0.old g) (h1.old g) (h2.old g));obtain ⟨a2,c2,rfl⟩:=h2.slice;have hm:=Qaa hps.1;clear hT hS hps hpb hrt hx hy hz h0 h1 h2;obtain ⟨B,hB⟩:∃B:World,w.alloc (.cells #[.slice g0 ps.length ps.length,.slice g1 ps.length ps.length] 114)=B:=⟨_,rfl⟩
 have O:Hid (Old w B):=by rw [<- hB];exact (Old.refl w).alloc _
 have X:Hid (Bk B w.heap.size #[.slice g0 ps.length ps.length,.slice g1 ps.length ps.length] 114):=by rw [<- hB];exact Bk.new' w _ _ rfl
 have x0:=X.out.c (i:=0) rfl;have x1:=X.out.c (i:=1) rfl;have t1:=Q4o ps.length g0 g1;go_enter Tryz.func35,Tryz.ntmps35;go_wp2_with fail;refine (K.out _ O.out).mono ?_
 rintro e w2 ⟨v',rfl,g2,o2⟩;have G2:=Qaa (Old.trans O.out g2);have M2':=Qaa (o2.low O.out.size);obtain ⟨a4,c4,rfl⟩:=(o2.rd hm.out).slice;clear g2 o2 K x0 x1 X hB;go_wp2_with fail;go_ret;exact ⟨_,rfl,G2.out,M2'.out⟩
theorem Qxd (Nn:Nat) (ps:List Int) (Rf:Nat→Int) (xss yss zss sss:List (List Int)) (g0 g1 g2:Option Addr) (v:Value) (w:World) (hT:Qbb w) (hS:Sz4 Nn) (hps:1≤ps.length∧ps.length≤6) (hpb:∀k,k<ps.length→2≤ps.getD k 0∧ps.getD k 0≤268435456) (hrt:RtS Nn ps Rf) (hx:OkX Nn ps xss) (hy:OkX Nn ps yss) (hz:OkX Nn ps zss) (hs:OkX Nn ps sss) (h0:RdX Nn ps Rf xss w (.slice g0 ps.length ps.length)) (h1:RdX Nn ps Rf yss w (.slice g1 ps.length ps.length)) (h2:RdX Nn ps Rf zss w (.slice g2 ps.length ps.length)) (h3:RdX Nn ps Rf sss w v) :
  Calls Tryz.prog 35 #[if3 ps.length g0 g1 g2,v] w fun e w'=>∃v',e=.returned v'/\Old w w'/\Mx Nn ps Rf (ppL Nn ps xss (ppL Nn ps yss zss sss) sss) w.heap.size w' v':=by
 have K1:=Qaa (fun W (g:Old w W)=>(Qd4 Nn ps Rf yss zss sss (.slice g1 ps.length ps.length) (.slice g2 ps.length ps.length) v W (hT.old g) hS hps hpb hrt hy hz hs (h1.old g) (h2.old g) (h3.old g)).mono fun e w' h=>(by
  obtain ⟨u,e1,q,o⟩:=h;obtain ⟨a,c,rfl⟩:=(o.rd hps.1).slice;exact ⟨a,c,e1,q,o.rd hps.1⟩:∃a c,e=.returned (.slice a ps.length c)/\Old W w'/\RdX Nn ps Rf (ppL Nn ps yss zss sss) w' (.slice a ps.length c)))
 have K2:=Qaa (fun W u (g:Old w W) (hu:RdX Nn ps Rf (ppL Nn ps yss zss sss) W u)=>Qd4 Nn ps Rf xss (ppL Nn ps yss zss sss) sss (.slice g0 ps.length ps.length) u v W (hT.old g) hS hps hpb hrt hx (Qk1 hpb hy) hs (h0.old g) hu (h3.old g));obtain ⟨a2,c2,rfl⟩:=h3.slice;have hm:=Qaa hps.1;clear hT hS hps hpb hrt hx hy hz h0 h1 h2 h3 hs;obtain ⟨B,hB⟩:∃B:World,w.alloc (.cells #[.slice g0 ps.length ps.length,.slice g1 ps.length ps.length,.slice g2 ps.length ps.length] 112)=B:=⟨_,rfl⟩
 have O:Hid (Old w B):=by rw [<- hB];exact (Old.refl w).alloc _
 have X:Hid (Bk B w.heap.size #[.slice g0 ps.length ps.length,.slice g1 ps.length ps.length,.slice g2 ps.length ps.length] 112):=by rw [<- hB];exact Bk.new' w _ _ rfl
 obtain ⟨kb,hkb⟩:∃kb,w.heap.size=kb:=⟨_,rfl⟩
 rw [hkb] at X;have t1:=Q4p ps.length g0 g1 g2;have t2:=Q4q ps.length g0 g1 g2;go_enter Tryz.func35,Tryz.ntmps35;go_wp2_with fail;have HAS:Hid (∀W',Old B W'->W'.cell? ⟨kb,0,none⟩=some (.slice g0 ps.length ps.length)/\W'.cell? ⟨kb,1,none⟩=some (.slice g1 ps.length ps.length)/\W'.cell? ⟨kb,2,none⟩=some (.slice g2 ps.length ps.length)):=fun W' q=>⟨(X.out.old q).c (i:=0) rfl,(X.out.old q).c (i:=1) rfl,(X.out.old q).c (i:=2) rfl⟩
 obtain ⟨v0,v1,v2⟩:=HAS.out _ (Old.refl B)
 go_region_held3 (fun W'=>W'.cell? ⟨kb,0,none⟩=some (.slice g0 ps.length ps.length)/\W'.cell? ⟨kb,1,none⟩=some (.slice g1 ps.length ps.length)/\W'.cell? ⟨kb,2,none⟩=some (.slice g2 ps.length ps.length)) (first | with_reducible exact HAS.out _ GB.out | with_reducible exact HAS.out _ GA.out | with_reducible exact HAS.out _ (Below.drew (Old.refl B)) | with_reducible exact HAS.out _ (Old.refl B) | fail) (first
  | (go_at_call 67;refine (K2.out _ _ (Old.trans O.out GA.out) VA.out).mono ?_;rintro e wb ⟨ub,rfl,gb,ob⟩;obtain ⟨_,_,rfl⟩:=(ob.rd hm.out).slice;have GB:=Qaa (Old.trans GA.out gb);have VB:=Qaa (ob.low (Nat.le_trans O.out.size GA.out.size));clear gb ob)
  | (go_at_call 67;refine (K1.out _ (Old.trans O.out (Below.drew (Old.refl B)))).mono ?_;rintro e wa ⟨_,_,rfl,ga,ra⟩;have GA:=Qaa (Old.trans (Below.drew (Old.refl B)) ga);have VA:=Qaa ra;clear ga ra)
  | fail)
 have G2:=Qaa (Old.trans O.out GB.out);clear K1 K2 X hB hkb HAS GA GB v0 v1 v2;go_wp2_with fail;go_ret;exact ⟨_,rfl,G2.out,VB.out⟩
end Go.Proofs.YthcidnnkakppcaaGreatDoor
namespace Go.Proofs.YthcidnnkakppcaaGreatDoor
open Go.ChangeShapes Go.WideShapes Go.ChangeAt Go.RowKit
theorem Q1c {base Nn:Nat} {ps:List Int} {Rf:Nat->Int} {uf:Nat->Nat->Option Addr} {cf:Nat->Nat} {j:Nat} {W:World} {gp:Option Addr} {v2:Value} {xss:List (List Int)} (hN:2<=Nn/\Nn<=16) (hph:PhG base Nn ps Rf uf j W gp) (hra:Qgr W v2 ps xss (uf j) cf) (hrw:rwB Nn ps xss=true):RdX Nn ps Rf xss W (.slice gp ps.length ps.length):=by
 obtain ⟨gn,rfl,_,hrr⟩:=hph;obtain ⟨bb,cc,_,hbb,hrow⟩:=hra;obtain ⟨hxl,hpoly⟩:=Qex hrw;refine ⟨_,hrr.rd,fun k hk=>?_⟩;obtain ⟨q1,q2⟩:=Qjr (hpoly k hk);have hlx:(xss.getD k []).length=Nn:=by omega
 obtain ⟨_,hcf,r2⟩:=hrow k (by omega);rw [hlx] at r2;rw [show ((Nn:Int).toNat)=Nn by omega,hlx];exact ⟨r2.recap (by intro h;rw [h] at hlx;simp at hlx;omega),_,_,rfl⟩
def CiF (Nn:Nat) (ps:List Int) (Rf:Nat->Int) (xsss:List (List (List Int))) (W:World) (IF:Value):Prop:=
 (xsss.length=2/\∃g0 g1,IF=if2 ps.length g0 g1/\RdX Nn ps Rf (xsss.getD 0 []) W (.slice g0 ps.length ps.length)/\RdX Nn ps Rf (xsss.getD 1 []) W (.slice g1 ps.length ps.length))∨
 (xsss.length=3/\∃g0 g1 g2,IF=if3 ps.length g0 g1 g2/\RdX Nn ps Rf (xsss.getD 0 []) W (.slice g0 ps.length ps.length)/\RdX Nn ps Rf (xsss.getD 1 []) W (.slice g1 ps.length ps.length)/\RdX Nn ps Rf (xsss.getD 2 []) W (.slice g2 ps.length ps.length))
theorem CiF.old {Nn:Nat} {ps:List Int} {Rf:Nat->Int} {xsss:List (List (List Int))} {W W':World} {IF:Value} (h:CiF Nn ps Rf xsss W IF) (q:Old W W'):CiF Nn ps Rf xsss W' IF:=by
 rcases h with ⟨h,g0,g1,e,r0,r1⟩ | ⟨h,g0,g1,g2,e,r0,r1,r2⟩
 ·exact .inl ⟨h,g0,g1,e,r0.old q,r1.old q⟩
 ·exact .inr ⟨h,g0,g1,g2,e,r0.old q,r1.old q,r2.old q⟩
def CiI (xsss:List (List (List Int))) (ps:List Int) (w:World) (a1:Option Addr) (au:Nat->Option Addr) (cu:Nat->Nat) (uf:Nat->Nat->Option Addr) (cf:Nat->Nat->Nat):Prop:=0<xsss.length->∃b,a1=some ⟨b,0,none⟩/\PaT w b ps xsss au cu uf cf
theorem CiI.old {xsss:List (List (List Int))} {ps:List Int} {w W:World} {a1:Option Addr} {au:Nat->Option Addr} {cu:Nat->Nat} {uf:Nat->Nat->Option Addr} {cf:Nat->Nat->Nat} (h:CiI xsss ps w a1 au cu uf cf) (q:Old w W):CiI xsss ps W a1 au cu uf cf:=fun h0=>by
 obtain ⟨b,e,hp⟩:=h h0;exact ⟨b,e,hp.old q⟩
theorem CiI.of {xsss:List (List (List Int))} {w:World} {lo hi:Nat} {a1:Option Addr} {c1:Nat} (ps:List Int) (hu:Ows (TTT xsss) w lo hi [.slice a1 xsss.length c1]):∃au cu uf cf,CiI xsss ps w a1 au cu uf cf:=by
 rcases Nat.eq_zero_or_pos xsss.length with h0 | h0
 ·exact ⟨fun _=>none,fun _=>0,fun _ _=>none,fun _ _=>0,fun h=>by omega⟩
 ·obtain ⟨_,B,hT,_⟩:=hu;obtain ⟨b,cap,au,cu,uf,cf,e,hp⟩:=TTT.at ps hT h0;simp only [Value.slice.injEq,true_and] at e;exact ⟨au,cu,uf,cf,fun _=>⟨b,e.1,hp⟩⟩
def RcA (Nn:Nat) (ps:List Int) (Rf:Nat->Int) (xsss:List (List (List Int))) (w:World) (e:Ending) (w':World):Prop:=
 Old w w'/\((ciB Nn ps xsss=false/\e=.returned (.tuple #[.nilIface,.bool false]))∨(ciB Nn ps xsss=true/\∃IF,e=.returned (.tuple #[IF,.bool true])/\CiF Nn ps Rf xsss w' IF))
theorem Qxe (Nn:Nat) (T E:Int) (a3:Option Addr) (l3 c3:Nat) (gr:Nat) (b5:Bool) (a6:Option Addr) (l6 c6:Nat) (a1:Option Addr) (cap1:Nat) (w:World) (ps:List Int) (Rf:Nat→Int) (xsss:List (List (List Int))) (au:Nat→Option Addr) (cu:Nat→Nat) (uf:Nat→Nat→Option Addr) (cf:Nat→Nat→Nat)
  (hm:xsss.length<=1048576) (hr:∀r∈xsss,r.length<=1048576/\∀q∈r,q.length<=1048576) (hpa:CiI xsss ps w a1 au cu uf cf)
  (hrg:Rgs w gr Nn ps Rf ps.length) (hsp:spB Nn ps=true) (hN:2<=Nn/\Nn<=16) (hps:1<=ps.length/\ps.length<=6) :
  Calls Tryz.prog 32 #[.agg #[.int .i64 Nn,.int .i64 T,.int .i64 E,.slice a3 l3 c3,.slice (some ⟨gr,0,none⟩) ps.length ps.length,.bool b5,.slice a6 l6 c6],.agg #[.slice a1 xsss.length cap1]] w (RcA Nn ps Rf xsss w):=by
 refine (Qug Nn T E a3 l3 c3 gr b5 a6 l6 c6 a1 cap1 w ps Rf xsss au cu uf cf hm hr hpa hrg hsp).mono fun e w' h=>?_
 obtain ⟨g,h⟩:=h;refine ⟨g,?_⟩
 have key:∀j gp,j<xsss.length->rdB xsss.length (fun j=>rwB Nn ps (xsss.getD j []))=true->PhG w.heap.size Nn ps Rf uf j w' gp->RdX Nn ps Rf (xsss.getD j []) w' (.slice gp ps.length ps.length):=fun j gp hj hC hph=>by
  have hrw:=(rd_true hC).2 j hj;obtain ⟨b,_,hp⟩:=hpa (by omega);have hxl:=(Qex hrw).1;have hat:=(hp.2 j hj).2 (by omega);exact Q1c hN hph (hat.old g) hrw
 rcases h with ⟨hC,e1⟩ | ⟨hC,hm2,g0,g1,e1,p0,p1⟩ | ⟨hC,hm3,g0,g1,g2,e1,p0,p1,p2⟩
 ·exact .inl ⟨hC,e1⟩
 ·exact .inr ⟨hC,_,e1,.inl ⟨hm2,g0,g1,rfl,key 0 g0 (by omega) hC p0,key 1 g1 (by omega) hC p1⟩⟩
 ·exact .inr ⟨hC,_,e1,.inr ⟨hm3,g0,g1,g2,rfl,key 0 g0 (by omega) hC p0,key 1 g1 (by omega) hC p1,key 2 g2 (by omega) hC p2⟩⟩
theorem Qep {Nn:Nat} {ps:List Int} {xsss:List (List (List Int))} (h:ciB Nn ps xsss=true) (j:Nat) (hj:j<xsss.length):OkX Nn ps (xsss.getD j []):=Q29 ((rd_true h).2 j hj)
theorem Qr2 (Nn:Nat) (ps:List Int) (Rf:Nat→Int) (xsss:List (List (List Int))) (sss:List (List Int)) (IF v:Value) (w:World) (hT:Qbb w) (hS:Sz4 Nn) (hps:1≤ps.length∧ps.length≤6) (hpb:∀k,k<ps.length→2≤ps.getD k 0∧ps.getD k 0≤268435456) (hrt:RtS Nn ps Rf) (hC:ciB Nn ps xsss=true) (hs:OkX Nn ps sss) (h:CiF Nn ps Rf xsss w IF) (h2:RdX Nn ps Rf sss w v) :
  Calls Tryz.prog 35 #[IF,v] w fun e w'=>∃v',e=.returned v'/\Old w w'/\Mx Nn ps Rf (Qie Nn ps xsss sss) w.heap.size w' v':=by
 unfold Qie;rcases h with ⟨hm,g0,g1,rfl,r0,r1⟩ | ⟨hm,g0,g1,g2,rfl,r0,r1,r2⟩
 ·rw [if_neg (by omega)];exact Qxc Nn ps Rf _ _ sss g0 g1 v w hT hS hps hpb hrt (Qep hC 0 (by omega)) (Qep hC 1 (by omega)) hs r0 r1 h2
 ·rw [if_pos hm];exact Qxd Nn ps Rf _ _ _ sss g0 g1 g2 v w hT hS hps hpb hrt (Qep hC 0 (by omega)) (Qep hC 1 (by omega)) (Qep hC 2 (by omega)) hs r0 r1 r2 h2
theorem Qus {Nn:Nat} {ps:List Int} {xsss:List (List (List Int))} {sss:List (List Int)} (hpb:∀k,k<ps.length->2<=ps.getD k 0/\ps.getD k 0<=268435456) (hC:ciB Nn ps xsss=true):OkX Nn ps (Qie Nn ps xsss sss):=by
 have hm:=(rd_true hC).1;unfold Qie;split
 ·exact Qk1 hpb (Qep hC 0 (by omega))
 ·exact Qk1 hpb (Qep hC 0 (by omega))
theorem Qqv {Nn:Nat} {ps:List Int} {xsss:List (List (List Int))} {sss:List (List Int)}:(Qie Nn ps xsss sss).length=ps.length:=by
 unfold Qie ppL;split <;> rw [Qcp]
end Go.Proofs.YthcidnnkakppcaaGreatDoor
namespace Go.Proofs.YthcidnnkakppcaaGreatDoor
open Go.ChangeShapes Go.WideShapes Go.ChangeAt Go.RowKit
open M1
theorem Qk2 (ys:List Nat):(toZ ys).map Int.toNat=ys:=by
 rw [toZ,List.map_map];refine (List.map_congr_left fun x hx=>?_).trans (List.map_id ys);simp
theorem Qyr {N:Nat} {ps:List Int} {Rf:Nat->Int} (hR:∀k,RingOk (ps.getD k 0) N->((0<=Rf k/\Rf k<ps.getD k 0)/\(∀W,Qe0 W->Qbb W->Calls Tryz.prog 116 #[.int .i64 (ps.getD k 0),.int .i64 N] W fun e w'=>e=.returned (.tuple #[.agg #[.int .i64 (ps.getD k 0),.int .i64 N,.int .i64 (Rf k)],.bool true])/\Old W w'))/\∃P M R:Nat,ps.getD k 0=P/\(N:Int)=M/\Rf k=R/\R<P/\RingOk P M/\(F1.Pr P->Rt P (2*M) R)) (h:spB N ps=true):RtS N ps Rf:=fun k hk=>by
 obtain ⟨s1,s2,s3⟩:=Qdm h;obtain ⟨_,P,M,R,e1,e2,e3,hlt,hok,hrt⟩:=hR k (s3 k hk);obtain rfl:N=M:=by omega
 have b1:=Qb0 hok.md;have hP:2<=P/\P<=268435456:=by omega
 obtain ⟨r1,r2⟩:=(hrt (Qz3 hok)).cg hP.1;refine ⟨P,R,e1,e3,hlt,hP,?_,r1,r2⟩;have q1:=hok.dv;have q2:=hok.sz;rcases q2 with e | e | e | e <;> rw [e] at q1 <;> omega
def addN (P:Nat) (xs ys:List Nat):List Nat:=(List.range xs.length).map fun i=>(xs.getD i 0+ys.getD i 0)%P
theorem Qf0 (P:Nat) (xs ys:List Nat):(addN P xs ys).length=xs.length:=by simp [addN]
theorem Qxf (P:Nat) (xs ys:List Nat) (i:Nat) (h:i<xs.length):(addN P xs ys).getD i 0=(xs.getD i 0+ys.getD i 0)%P:=by simp [addN,List.getD,h]
theorem Qut (P:Nat) (xs ys:List Nat) (hP:0<P):∀z∈addN P xs ys,z<P:=fun z hz=>by
 unfold addN at hz;obtain ⟨i,_,rfl⟩:=List.mem_map.1 hz;exact Nat.mod_lt _ hP
theorem Qk3 (P:Nat) (xs ys:List Nat) (X:Int):∀h,h<=xs.length->Cg P (evI (fun i=>(((addN P xs ys).getD i 0:Nat):Int)) X h) (evI (fun i=>((xs.getD i 0:Nat):Int)) X h+evI (fun i=>((ys.getD i 0:Nat):Int)) X h):=fun h hh=>by
 have h1:=Qkm (fun i=>((xs.getD i 0:Nat):Int)) (fun i=>((ys.getD i 0:Nat):Int)) 1 X h;rw [Int.one_mul] at h1;rw [<- h1];refine Qqi X h (fun i hi=>?_);rw [Qxf P xs ys i (by omega),Int.one_mul];have:=Cg.mod P (xs.getD i 0+ys.getD i 0)
 rwa [Int.natCast_add] at this
theorem Q1d {P N R:Nat} {xs ys:List Nat} (hS:Sz4 N) (hP:2≤P) (ho:P%2=1) (r1:Cg P ((R:Int)^(2*N)) 1) (r2:Cg P ((R:Int)^N) (-1)) (lx:xs.length=N) (ly:ys.length=N) (hx:∀x∈xs,x<P) (hy:∀y∈ys,y<P)
  (h:∀k,k<N->Cg P (evI (fun i=>((xs.getD i 0:Nat):Int)) ((R:Int)^(2*Qai (lg N) k 0+1)) N) (evI (fun i=>((ys.getD i 0:Nat):Int)) ((R:Int)^(2*Qai (lg N) k 0+1)) N)):xs=ys:=by
 rw [<- Qoy P N R xs hS lx hP ho hx r1 r2,<- Qoy P N R ys hS ly hP ho hy r1 r2]
 congr 1
 refine List.ext_getElem (by rw [Qdh,Qdh]) fun k h1 h2=>?_
 have hk:k<N:=by rw [Qdh] at h1;exact h1
 have e1:=Qjo P N R xs k hk;have e2:=Qjo P N R ys k hk;have h3:=Cg.eq_of_lt (e1.trans ((h k hk).trans e2.symm)) (Qky P N R xs (by omega) _ (by simp [List.getD,h1])) (Qky P N R ys (by omega) _ (by simp [List.getD,h2]))
 simpa [List.getD,h1,h2] using h3
theorem Q3b {P N R:Nat} (r2:Cg P ((R:Int)^N) (-1)) (j:Nat):Cg P (((R:Int)^(2*j+1))^N) (-1):=by
 rw [<- Int.pow_mul,Nat.mul_comm,Int.pow_mul];refine (Cg.pow r2 _).trans ?_
 have h:((-1:Int))^(2*j+1) = -1:=by
  rw [Int.pow_succ,Int.pow_mul,show ((-1:Int))^2=1 from rfl,Int.one_pow];rfl
 rw [h];exact Cg.refl _ _
theorem Qey (P:Nat) (xs ys:List Nat) (h:xs.length=ys.length):Qef Qdd P (toZ xs) (toZ ys)=toZ (addN P xs ys):=by
 unfold Qef addN toZ;rw [List.map_map];rw [List.length_map];refine List.map_congr_left fun i hi=>?_
 have hi':i<xs.length:=by simpa using hi
 have hj':i<ys.length:=by omega
 simp [Qdd,List.getD,hi',hj']
theorem Qxg {P N R:Nat} {av bs cs ss:List Nat} (hS:Sz4 N) (hP:2≤P) (ho:P%2=1) (r1:Cg P ((R:Int)^(2*N)) 1) (r2:Cg P ((R:Int)^N) (-1)) (la:av.length=N) (lb:bs.length=N) (lc:cs.length=N) (ls:ss.length=N) :
  addN P (addN P av (muO P N bs ss N)) (muO P N (muO P N cs ss N) ss N)=addN P av (muO P N (addN P bs (muO P N cs ss N)) ss N):=by
 have hp:0<P:=by omega
 refine Q1d hS hP ho r1 r2 (by rw [Qf0,Qf0];exact la) (by rw [Qf0];exact la) (Qut _ _ _ hp) (Qut _ _ _ hp) (fun k hk=>?_);obtain ⟨X,hX⟩:∃X,(R:Int)^(2*Qai (lg N) k 0+1)=X:=⟨_,rfl⟩
 have hN:Cg P (X^N) (-1):=by rw [<- hX];exact Q3b r2 _
 rw [hX];have e1:=(Qk3 P (addN P av (muO P N bs ss N)) (muO P N (muO P N cs ss N) ss N) X N (by rw [Qf0];omega)).trans (((Qk3 P av (muO P N bs ss N) X N (by omega)).trans (Cg.add (Cg.refl _ _) (Qib P N bs ss hp X hN N (Nat.le_refl _)))).add ((Qib P N (muO P N cs ss N) ss hp X hN N (Nat.le_refl _)).trans (Cg.mul (Qib P N cs ss hp X hN N (Nat.le_refl _)) (Cg.refl _ _))));have e2:=(Qk3 P av (muO P N (addN P bs (muO P N cs ss N)) ss N) X N (by omega)).trans (Cg.add (Cg.refl _ _) ((Qib P N (addN P bs (muO P N cs ss N)) ss hp X hN N (Nat.le_refl _)).trans (Cg.mul ((Qk3 P bs (muO P N cs ss N) X N (by omega)).trans (Cg.add (Cg.refl _ _) (Qib P N cs ss hp X hN N (Nat.le_refl _)))) (Cg.refl _ _))));refine e1.trans (Cg.trans ?_ e2.symm);generalize evI (fun i=>((av.getD i 0:Nat):Int)) X N=A;generalize evI (fun i=>((bs.getD i 0:Nat):Int)) X N=B;generalize evI (fun i=>((cs.getD i 0:Nat):Int)) X N=C;generalize evI (fun i=>((ss.getD i 0:Nat):Int)) X N=S;rw [show A+B*S+C*S*S=A+(B+C*S)*S by rw [Int.add_mul,Int.add_assoc]];exact Cg.refl _ _
theorem Qxh {Nn:Nat} {ps:List Int} {Rf:Nat→Int} {x0 x1 x2 ss:List (List Int)} (hS:Sz4 Nn) (hrt:RtS Nn ps Rf) (h0:OkX Nn ps x0) (h1:OkX Nn ps x1) (h2:OkX Nn ps x2) (hs:OkX Nn ps ss) :
  Qcb Qdd ps (Qcb Qdd ps x0 (Qdv Nn ps x1 ss)) (Qdv Nn ps (Qdv Nn ps x2 ss) ss)=ppL Nn ps x0 (ppL Nn ps x1 x2 ss) ss:=by
 unfold ppL;refine List.ext_getElem (by rw [Qcp,Qcp]) fun k g1 g2=>?_
 rw [Qcp] at g1
 have key:(Qcb Qdd ps (Qcb Qdd ps x0 (Qdv Nn ps x1 ss)) (Qdv Nn ps (Qdv Nn ps x2 ss) ss)).getD k []=(Qcb Qdd ps x0 (Qdv Nn ps (Qcb Qdd ps x1 (Qdv Nn ps x2 ss)) ss)).getD k []:=by
  obtain ⟨P,R,eP,eR,hlt,hP2,ho,t1,t2⟩:=hrt k g1;obtain ⟨av,e0,la,ha⟩:=Qeo h0 g1 eP;obtain ⟨bs,e1,lb,hb⟩:=Qeo h1 g1 eP;obtain ⟨cs,e2,lc,hc⟩:=Qeo h2 g1 eP;obtain ⟨ds,e3,ld,hd⟩:=Qeo hs g1 eP;rw [Qc6 _ _ _ _ _ g1,Qc6 _ _ _ _ _ g1,Qc6 _ _ _ _ _ g1,Qdi _ _ _ _ _ g1,Qdi _ _ _ _ _ g1,Qdi _ _ _ _ _ g1,Qdi _ _ _ _ _ g1,Qc6 _ _ _ _ _ g1,Qdi _ _ _ _ _ g1];rw [eP,e0,e1,e2,e3];simp only [Qjs,show ((P:Int).toNat)=P by omega];rw [Qey P av _ (by rw [Qdo];exact la),Qey P bs _ (by rw [Qdo];exact lb),Qjs,Qey P _ _ (by rw [Qf0,Qdo];exact la),Qey P av _ (by rw [Qdo];exact la)];rw [Qxg hS hP2.1 ho t1 t2 la lb lc ld]
 have q1:k<(Qcb Qdd ps (Qcb Qdd ps x0 (Qdv Nn ps x1 ss)) (Qdv Nn ps (Qdv Nn ps x2 ss) ss)).length:=by rw [Qcp];exact g1
 simpa [List.getD,q1,g2] using key
theorem Qm4 (N T E:Int) (ps:List Int) (xs:List Int) (v u1:Value) (w:World) (hv:Row w v ps) (h1:Row w u1 xs) (hps:1≤ps.length∧ps.length≤6) (hxl:1≤xs.length∧xs.length≤16)
  (hr:∀k,k<ps.length->2<=ps.getD k 0/\ps.getD k 0<=268435456) (hxb:∀i,i<xs.length->-1099511627776<=xs.getD i 0/\xs.getD i 0<=1099511627776) :
  Calls Tryz.prog 49 #[.agg #[.int .i64 N,.int .i64 T,.int .i64 E,v],u1] w fun e w'=>∃v',e=.returned v'/\Old w w'/\OwS (smS ps xs) w' w.heap.size w'.heap.size v':=by
 obtain ⟨i0,hi,hz0,hz1,hz2⟩:=info_parts Tryz.infoInt;obtain ⟨j0,ji,jz0,jz1,jz2⟩:=info_parts Tryz.infoInts;have HR:=Qaa hr;have HB:=Qaa hxb;have R1:=Qaa h1;obtain ⟨a0,cap0,ev⟩:=hv.slice;subst ev;rcases hv with ⟨a,cap,e,e'⟩ | ⟨b,o,cap,e,hb,h0,hc⟩
 ·subst e';simp at hps
 rcases h1 with ⟨a,cap,e,e'⟩ | ⟨b3,o3,cap3,e_1,hb3,h03,hc3⟩
 ·subst e';simp at hxl
 simp only [Value.slice.injEq,true_and] at e;obtain ⟨rfl,rfl⟩:=e;subst e_1;have HC:=Qaa hc;have HC3:=Qaa hc3
 have HZ:Hid (∀k,k<ps.length->(smS ps xs).take (k+1)=(smS ps xs).take k++[smR (ps.getD k 0) xs]):=fun k hk=>by
  rw [Qga _ _ (by rw [Qov];exact hk),Qow _ _ _ hk]
 have HZL:Hid ((smS ps xs).length=ps.length):=Qov _ _;generalize smS ps xs=zss at *;clear hc hc3 hr hxb;have HAO:Hid (Old w (w.alloc (.cells #[.int .i64 N,.int .i64 T,.int .i64 E,.slice (some ⟨b,o,none⟩) ps.length cap0] 32))):=(Old.refl w).alloc _;go_enter Tryz.func49,Tryz.ntmps49;go_wp2_with fail
 go_loopw [5,14] (fun x i W=>∃(k:Nat) (a:Option Addr) (cap:Nat),k<=ps.length/\i=.int .i64 k/\x=.slice a k cap/\Hid (OwS (zss.take k) W w.heap.size W.heap.size (.slice a k cap))/\Hid (Old w W)) (fun _ i _=>ps.length - (intOf i).toNat)
 case atStart=>exact ⟨0,none,0,by omega,rfl,rfl,⟨Nat.le_refl _,Or.inl ⟨rfl,by simp⟩⟩,HAO⟩
 case round=>
  obtain ⟨k,a,cap,hk,rfl,rfl,HO,HG⟩:=hrel;have hsr:=HG.out.size
  by_cases hlt:k<ps.length
  ·have r3:=HR.out k hlt;have c0:=(HG.out.cell (p:=⟨b,o+k,none⟩) hb).trans (HC.out k hlt);have HC4:=Qaa (fun j hj=>(HG.out.cell (p:=⟨b3,o3+j,none⟩) hb3).trans (HC3.out j hj))
   have HT:Hid (∀i,i<xs.length->(smR (ps.getD k 0) xs).take (i+1)=(smR (ps.getD k 0) xs).take i++[xs.getD i 0%ps.getD k 0]):=fun i hi'=>by
    rw [Qeq _ _ (by rw [Qkr];exact hi'),Qou _ _ _ hi']
   have HTL:Hid ((smR (ps.getD k 0) xs).length=xs.length):=Qkr _ _;have HZK:=Qaa (HZ.out k hlt);have hbr3:b3<wr.heap.size:=by omega
   generalize smR (ps.getD k 0) xs=zs at *;generalize ps.getD k 0=p at *
   have HEMB:Hid (∀(W:World) (ra:Option Addr) (rc:Nat),Old wr W->Own W wr.heap.size (.slice ra zs.length rc) zs->zs.length<=rc->∃vs,W.ownsRow w.heap.size 22 1 (.slice a k cap) k vs/\(∀v' w',w'.ownsRow w.heap.size 22 1 v' (k+1) (vs++[.slice ra zs.length rc])->W.grownBy w' (Value.slice a k cap).ownBlock->(v'.ownBlock=(Value.slice a k cap).ownBlock∨v'.ownBlock=some W.heap.size)->OwS (zss.take (k+1)) w' w.heap.size w'.heap.size v')):=fun W ra rc g o hc=>by
    have hl:(zss.take k).length=k:=by rw [List.length_take];have:=HZL.out;omega
    have:=OwS.app HO.out hsr g o hc;rw [hl] at this;rw [HZK.out];exact this
   have HOB:Hid (∀p,(Value.slice a k cap).ownBlock=some p->w.heap.size<=p):=fun p hp=>by
    obtain ⟨hh,⟨e,e2⟩ | ⟨p',cap',vs,e,hcap,hl,hhi,_⟩⟩:=HO.out
    ·rw [e] at hp
     cases hp
    ·rw [e] at hp;simp only [Value.ownBlock,Option.some.injEq] at hp;omega
   rename World=>wq
   go_wp2_with fail
   go_loopw [8,20] (fun x i W=>∃(j:Nat) (a:Option Addr) (cap:Nat),j<=xs.length/\i=.int .i64 j/\x=.slice a j cap/\Hid (Own W wq.heap.size (.slice a j cap) (zs.take j))/\Hid (Old wq W)) (fun _ i _=>xs.length - (intOf i).toNat)
   case atStart=>exact ⟨0,none,0,by omega,rfl,rfl,(by exact Qd1 _ _),Old.refl _⟩
   case round=>
    obtain ⟨j,ra,rc,hj,rfl,rfl,HO2,HG2⟩:=hrel;have hs2:=HG2.out.size
    by_cases hjl:j<xs.length
    ·obtain ⟨bx1,bx2⟩:=HB.out j hjl;have HT1:=HT.out j hjl;have k3:=(HG2.out.cell (p:=⟨b3,o3+j,none⟩) hbr3).trans (HC4.out j hjl);have htk:(zs.take j).length=j:=by rw [List.length_take];have:=HTL.out;omega
     have HT2:=Qaa HT1;clear HT1;have hp0:¬p=0:=by omega
     generalize xs.getD j 0=x at *;obtain ⟨q,hq⟩:∃q,x%p=q:=⟨_,rfl⟩
     have hqb:0<=q/\q<268435456:=by
      have g1:=Int.emod_nonneg x (show p≠0 by omega);have g2:=Int.emod_lt_of_pos x (show 0<p by omega);omega
     have cm:=fun W=>Qj4 x p W (by omega) (by omega)
     rw [hq] at cm HT2;clear hq;go_wp2_with fail;refine (cm _).mono ?_
     rintro e w4 ⟨rfl,hw4⟩
     replace hw4:=hw4.symm
     subst hw4;go_wp2_with (at_builtin;go_loud (refine wpList_append_own _ rfl _ _ 22 rfl wq.heap.size 3 i0 (.int .i64 0) 1 8 Tryz.underlying22 hi hz0 hz1 hz2 rfl (by decide) _ _ _ rfl (by have:=HO2.out.alloc (.cells #[.int .i64 q] 3);unfold Own at this;rw [htk] at this;exact this) ⟨wr.heap.size,0,none⟩ 1 1 [.int .i64 q] rfl rfl (one_cell _ _ _) (one_one _) (by unfold maxLen;omega) (by omega) (by simp;omega) ?_;intro v5 w5 o5 g5 x5;have O5:Hid (Own w5 wq.heap.size v5 (zs.take (j+1))):=(by have:=HT2.out;show Own _ _ _ _;rw [this];exact Own.snoc (by rw [htk];exact o5));have G5:Hid (Old wq w5):=Below.grown (HG2.out.alloc (.cells #[.int .i64 q] 3)) g5 (HG2.out.alloc (.cells #[.int .i64 q] 3)).size (fun j hj=>(HO2.out.lt j hj).1);clear o5 g5 x5));obtain ⟨a5,cap5,rfl⟩:=(Own.row O5.out).slice;have htk1:(zs.take (j+1)).length=j+1:=by rw [List.length_take];have:=HTL.out;omega
     rw [htk1] at O5 ⊢;exact ⟨⟨j+1,_,_,by omega,by go_num,rfl,O5,G5⟩,by simp [intOf];omega⟩
    ·have d2:decide ((j:Int)<(xs.length:Int))=false:=by simp;omega
     obtain rfl:j=xs.length:=by omega
     have hzl:=HTL.out;have own2:=HO2.out;rw [List.take_of_length_le (by omega)] at own2
     have hrc:xs.length<=rc:=by
      rcases own2.2 with ⟨e,hn⟩ | ⟨_,_,_,e,_,_,hn,_⟩
      ·simp only [Value.slice.injEq] at e;omega
      ·simp only [Value.slice.injEq,true_and] at e;omega
     rw [<- hzl] at own2 hrc;obtain ⟨vs,ov,hem⟩:=HEMB.out (wr.alloc (.cells #[.slice ra zs.length rc] 22)) ra rc (HG2.out.alloc _) (own2.alloc _) hrc;rw [hzl] at ov hem;have OV:=Qaa ov;have HEM:=Qaa hem;have HWW:Hid (Old w (wr.alloc (.cells #[.slice ra xs.length rc] 22))):=(Old.trans HG.out HG2.out).alloc _;clear own2 ov hem hzl hrc HO2;go_wp2_with (at_builtin;(refine wpList_append_own_at _ rfl _ _ 54 rfl w.heap.size 22 j0 (.slice none 0 0) 1 24 Tryz.underlying54 ji jz0 jz1 jz2 rfl (by decide) _ _ _ rfl OV.out ⟨wr.heap.size,0,none⟩ 1 1 [.slice ra xs.length rc] rfl rfl (one_cell _ _ _) (Qui _ _ _) (by unfold maxLen;omega) (by omega) (by simp;omega) ?_;intro v5 w5 o5 g5 x5 l5;have O5:=Qaa (HEM.out v5 w5 o5 g5 l5);have G5:Hid (Old w w5):=Below.grown HWW.out g5 HWW.out.size (fun j hj=>HOB.out j hj);clear o5 g5 x5 l5));have hl1:(zss.take (k+1)).length=k+1:=by rw [List.length_take];have:=HZL.out;omega
     obtain ⟨a5,cap5,e5⟩:=O5.out.slice;subst e5;rw [hl1] at O5 ⊢;exact ⟨⟨k+1,_,_,by omega,by go_num,rfl,O5,G5⟩,by simp [intOf];omega⟩
  ·have d1:decide ((k:Int)<(ps.length:Int))=false:=by simp;omega
   obtain rfl:k=ps.length:=by omega
   have HF:Hid (OwS zss wr w.heap.size wr.heap.size (.slice a ps.length cap)):=by
    have:=HO.out;rw [List.take_of_length_le (by have:=HZL.out;omega)] at this;exact this
   go_wp2_with fail;go_ret;exact ⟨_,rfl,HG.out,HF.out⟩
theorem Qo1 (Nn:Nat) (ps:List Int) (Rf:Nat→Int) (xss yss:List (List Int)) (v u1 u2:Value) (w:World) (hv:Row w v ps) (h1:Qdq w u1 xss) (h2:Qdq w u2 yss) (hS:Sz4 Nn) (hps:1≤ps.length∧ps.length≤6) (hrt:RtS Nn ps Rf) (lx:xss.length=ps.length) (ly:yss.length=ps.length) (hx:OkX Nn ps xss) (hy:OkX Nn ps yss) :
  Calls Tryz.prog 51 #[.agg #[.int .i64 Nn,v],u1,u2] w fun e w'=>∃v',e=.returned v'/\Old w w'/\OwS (Qdv Nn ps xss yss) w' w.heap.size w'.heap.size v':=by
 refine Qr1 Nn ps xss yss (Qdv Nn ps xss yss) v u1 u2 w hv h1 h2 hps lx ly (Qha _ _ _ _) (fun k hk W u t hu ht=>?_);obtain ⟨P,R,eP,eR,hlt,hP2,ho,t1,t2⟩:=hrt k hk;obtain ⟨ys,e4,la,ha⟩:=Qeo hx hk eP;obtain ⟨zs,e5,lb,hb⟩:=Qeo hy hk eP;rw [e4] at hu;rw [e5] at ht;rw [Qdi _ _ _ _ _ hk,eP,e4,e5,Qjs,Qjs,show ((P:Int).toNat)=P by omega];exact Qrw P Nn 0 ys zs u t W hu ht hP2 (by unfold Sz4 at hS;omega) la lb ha hb
theorem Quu (Nn:Nat) (ps:List Int) (xss yss:List (List Int)) (v u1 u2:Value) (w:World) (hv:Row w v ps) (h1:Qdq w u1 xss) (h2:Qdq w u2 yss) (hN:Nn≤16) (hps:1≤ps.length∧ps.length≤6) (hpb:∀k,k<ps.length→2≤ps.getD k 0∧ps.getD k 0≤268435456) (lx:xss.length=ps.length) (ly:yss.length=ps.length) (hx:OkX Nn ps xss) (hy:OkX Nn ps yss) :
  Calls Tryz.prog 50 #[.agg #[.int .i64 Nn,v],u1,u2] w fun e w'=>∃v',e=.returned v'/\Old w w'/\OwS (Qcb Qdd ps xss yss) w' w.heap.size w'.heap.size v':=by
 refine Qru Nn ps xss yss v u1 u2 w hv h1 h2 hps lx ly (fun k hk=>?_);obtain ⟨a1,a2⟩:=hx k hk;obtain ⟨b1,b2⟩:=hy k hk;have hp:=hpb k hk;refine ⟨by omega,by omega,hp,fun i hi=>?_⟩;have h3:=a2 i (by omega);have h4:=b2 i (by omega);omega
theorem TTT.atS {xsss:List (List (List Int))} {w:World} {lo hi:Nat} {v:Value} (h:Ows (TTT xsss) w lo hi [v]) (h0:0<xsss.length):∃b cap,∃us:Nat->Value,v=.slice (some ⟨b,0,none⟩) xsss.length cap/\b<w.heap.size/\∀j,j<xsss.length->w.cell? ⟨b,j,none⟩=some (us j)/\Qdq w (us j) (xsss.getD j []):=by
 have hr:=h.rowT;obtain ⟨_,B,hT,_⟩:=h;obtain ⟨b,cap,au,cu,uf,cf,e,hp⟩:=TTT.at [] hT h0;rcases hr with ⟨a,c,e1,e2⟩ | ⟨b2,o2,cap2,us,e1,hb,_,hc⟩
 ·rw [e2] at h0;simp at h0
 ·rw [e] at e1;simp only [Value.slice.injEq,Option.some.injEq,Addr.mk.injEq] at e1;obtain ⟨⟨rfl,rfl,_⟩,_,rfl⟩:=e1;refine ⟨b,cap,us,e,hb,fun j hj=>?_⟩;have:=hc j hj;rw [Nat.zero_add] at this;exact this
theorem OwS.rs {xss:List (List Int)} {W:World} {lo hi:Nat} {v:Value} (h:OwS xss W lo hi v):Qdq W v xss:=h.rowS
theorem Qm5 (Nn:Nat) (T E:Int) (ps:List Int) (Rf:Nat→Int) (xsss:List (List (List Int))) (ss:List Int) (v u u2:Value) (w:World) (lo hi:Nat) (hv:Row w v ps) (hu:Ows (TTT xsss) w lo hi [u]) (hu2:Row w u2 ss) (hS:Sz4 Nn) (hps:1≤ps.length∧ps.length≤6) (hpb:∀k,k<ps.length→2≤ps.getD k 0∧ps.getD k 0≤268435456) (hrt:RtS Nn ps Rf) (hC:ciB Nn ps xsss=true) (hsl:ss.length=Nn) (hsv:∀i,i<ss.length→-268435456≤ss.getD i 0∧ss.getD i 0≤268435456) :
  Calls Tryz.prog 25 #[.agg #[.int .i64 (Nn:Int),.int .i64 T,.int .i64 E,v],u2,.agg #[u]] w fun e w'=>∃v',e=.returned v'/\Old w w'/\OwS (Qie Nn ps xsss (smS ps ss)) w' w.heap.size w'.heap.size v':=by
 have hN:2<=Nn/\Nn<=16:=by unfold Sz4 at hS;omega
 have hm:=(rd_true hC).1;have hrw:=(rd_true hC).2;obtain ⟨b,cap,us,eu,hb,hc⟩:=TTT.atS hu (by omega);have okS:=Qm3 (ss:=ss) hpb hsl;have lS:(smS ps ss).length=ps.length:=Qov _ _;have ok0:=Qep hC 0 (by omega);have ok1:=Qep hC 1 (by omega);have l0:=(Qex (hrw 0 (by omega))).1;have l1:=(Qex (hrw 1 (by omega))).1;obtain ⟨cc0,r0⟩:=hc 0 (by omega);obtain ⟨cc1,r1⟩:=hc 1 (by omega);have K1:=Qaa (fun W (g:Old w W)=>Qm4 (Nn:Int) T E ps ss v u2 W (hv.old g) (hu2.old g) hps (by omega) hpb (fun i hi=>by have:=hsv i hi;omega));have K2:=Qaa (fun W u (g:Old w W) (h:Qdq W u (smS ps ss))=>Qo1 Nn ps Rf (xsss.getD 1 []) (smS ps ss) v (us 1) u W (hv.old g) (r1.old g) h hS hps hrt l1 lS ok1 okS);have K3:=Qaa (fun W u (g:Old w W) (h:Qdq W u (Qdv Nn ps (xsss.getD 1 []) (smS ps ss)))=>Quu Nn ps (xsss.getD 0 []) (Qdv Nn ps (xsss.getD 1 []) (smS ps ss)) v (us 0) u W (hv.old g) (r0.old g) h hN.2 hps hpb l0 (Qha _ _ _ _) ok0 (Qk0 hrt));have K4:=Qaa (fun (h3:xsss.length=3) W u (g:Old w W) (h:Qdq W u (smS ps ss))=>Qo1 Nn ps Rf (xsss.getD 2 []) (smS ps ss) v (us 2) u W (hv.old g) ((hc 2 (by omega)).2.old g) h hS hps hrt (Qex (hrw 2 (by omega))).1 lS (Qep hC 2 (by omega)) okS);have K5:=Qaa (fun W u u' (g:Old w W) (h:Qdq W u (Qdv Nn ps (xsss.getD 2 []) (smS ps ss))) (h':Qdq W u' (smS ps ss))=>Qo1 Nn ps Rf (Qdv Nn ps (xsss.getD 2 []) (smS ps ss)) (smS ps ss) v u u' W (hv.old g) h h' hS hps hrt (Qha _ _ _ _) lS (Qk0 hrt) okS);have K6:=Qaa (fun W u u' (g:Old w W) (h:Qdq W u (Qcb Qdd ps (xsss.getD 0 []) (Qdv Nn ps (xsss.getD 1 []) (smS ps ss)))) (h':Qdq W u' (Qdv Nn ps (Qdv Nn ps (xsss.getD 2 []) (smS ps ss)) (smS ps ss)))=>Quu Nn ps (Qcb Qdd ps (xsss.getD 0 []) (Qdv Nn ps (xsss.getD 1 []) (smS ps ss))) (Qdv Nn ps (Qdv Nn ps (xsss.getD 2 []) (smS ps ss)) (smS ps ss)) v u u' W (hv.old g) h h' hN.2 hps hpb (Qcp _ _ _ _) (Qha _ _ _ _) (Qk1 hpb ok0) (Qk0 hrt))
 have HE3:Hid (xsss.length=3->Qie Nn ps xsss (smS ps ss)=Qcb Qdd ps (Qcb Qdd ps (xsss.getD 0 []) (Qdv Nn ps (xsss.getD 1 []) (smS ps ss))) (Qdv Nn ps (Qdv Nn ps (xsss.getD 2 []) (smS ps ss)) (smS ps ss))):=fun h3=>by
  unfold Qie;rw [if_pos h3];exact (Qxh hS hrt ok0 ok1 (Qep hC 2 (by omega)) okS).symm
 have HE2:Hid (xsss.length≠3->Qie Nn ps xsss (smS ps ss)=Qcb Qdd ps (xsss.getD 0 []) (Qdv Nn ps (xsss.getD 1 []) (smS ps ss))):=fun h3=>by
  unfold Qie;rw [if_neg h3];rfl
 have HC0:Hid (∃a l c,us 0=.slice a l c):=by
  obtain ⟨a,c,e⟩:=r0.slice;exact ⟨a,_,c,e⟩
 have HC1:Hid (∃a l c,us 1=.slice a l c):=by
  obtain ⟨a,c,e⟩:=r1.slice;exact ⟨a,_,c,e⟩
 have HC2:Hid (xsss.length=3->∃a l c,us 2=.slice a l c/\w.cell? ⟨b,2,none⟩=some (.slice a l c)):=fun h3=>by
  obtain ⟨c2,r2⟩:=hc 2 (by omega);obtain ⟨a,c,e⟩:=r2.slice;rw [e] at c2;exact ⟨a,_,c,e,c2⟩
 have HM:=Qaa hm;obtain ⟨a3,c3,rfl⟩:=hv.slice;obtain ⟨sa,sc,rfl⟩:=hu2.slice;subst eu;obtain ⟨u0,n0,e0,eu0⟩:=HC0.out;obtain ⟨u1,n1,e1,eu1⟩:=HC1.out;rw [eu0] at cc0 K3;rw [eu1] at cc1 K2;have HB:=Qaa hb;have HX0:=Qaa cc0;have HX1:=Qaa cc1;generalize hMS:Qdv Nn ps (xsss.getD 1 []) (smS ps ss)=M1s at *;generalize hM2:Qdv Nn ps (xsss.getD 2 []) (smS ps ss)=M2s at *;generalize hM3:Qdv Nn ps M2s (smS ps ss)=M3s at *;generalize hA1:Qcb Qdd ps (xsss.getD 0 []) M1s=A1s at *;generalize hA2:Qcb Qdd ps A1s M3s=A2s at *;generalize Qie Nn ps xsss (smS ps ss)=UL at *;generalize smS ps ss=SS at *;clear hv hu2 hS hps hpb hrt hC hsl hsv hm hrw hc okS lS ok0 ok1 l0 l1 r0 r1 HC0 HC1 cc0 cc1 hMS hM2 hM3 hA1 hA2 hu eu0 eu1;obtain ⟨lx,hlx⟩:∃l,xsss.length=l:=⟨_,rfl⟩
 have HLX:=Qaa hlx;rw [hlx];clear hlx;obtain ⟨B1,hB1⟩:∃B:World,(w.alloc (.cells #[.int .i64 (Nn:Int),.int .i64 T,.int .i64 E,.slice a3 ps.length c3] 32)).alloc (.cells #[.slice (some ⟨b,0,none⟩) lx cap] 35)=B:=⟨_,rfl⟩
 have O1:Hid (Old w B1):=by rw [<- hB1];exact ((Old.refl w).alloc _).alloc _
 have P1:Hid (Bk B1 w.heap.size #[.int .i64 (Nn:Int),.int .i64 T,.int .i64 E,.slice a3 ps.length c3] 32):=by rw [<- hB1];exact (Bk.new' w _ _ rfl).alloc _
 have C1:Hid (Bk B1 (w.heap.size+1) #[.slice (some ⟨b,0,none⟩) lx cap] 35):=by rw [<- hB1];exact Bk.new' _ _ _ (by simp)
 obtain ⟨kp,hkp⟩:∃kp,w.heap.size=kp:=⟨_,rfl⟩
 have HKP:=Qaa hkp;rw [hkp] at P1 C1;have x0:=P1.out.c (i:=0) rfl;have x1:=P1.out.c (i:=1) rfl;have x2:=P1.out.c (i:=2) rfl;have x3:=P1.out.c (i:=3) rfl;have KS:=Qaa (fun W=>Qbu (Nn:Int) T E a3 ps.length c3 W);go_enter Tryz.func25,Tryz.ntmps25;go_wp2_with fail;refine (KS.out _).mono ?_
 rintro e w2 ⟨rfl,g2⟩;obtain ⟨B2,hB2⟩:∃B:World,w2.alloc (.cells #[.int .i64 (Nn:Int),.slice a3 ps.length c3] 52)=B:=⟨_,rfl⟩
 have O2:Hid (Old B1 B2):=by rw [<- hB2];exact g2.alloc _
 have G2:=Qaa (Old.trans O1.out O2.out);have P2:=Qaa (P1.out.old O2.out);have C2:=Qaa (C1.out.old O2.out);have S2:Hid (Bk B2 w2.heap.size #[.int .i64 (Nn:Int),.slice a3 ps.length c3] 52):=by rw [<- hB2];exact Bk.new' w2 _ _ rfl
 obtain ⟨ks,hks⟩:∃k,w2.heap.size=k:=⟨_,rfl⟩
 rw [hks] at S2;clear g2 x0 x1 x2 x3 P1 C1 O1 hB1 KS hkp;have x0:=P2.out.c (i:=0) rfl;have x1:=P2.out.c (i:=1) rfl;have x2:=P2.out.c (i:=2) rfl;have x3:=P2.out.c (i:=3) rfl;go_wp2_with fail;refine (K1.out _ G2.out).mono ?_
 rintro e w3 ⟨k3,rfl,g3,o3⟩;have RS3:=Qaa o3.rs;obtain ⟨ka,kc,rfl⟩:=o3.rs.slice;obtain ⟨kl,hkl⟩:∃k,SS.length=k:=⟨_,rfl⟩
 rw [hkl] at RS3 ⊢;have G3:=Qaa (Old.trans G2.out g3);have C3:=Qaa (C2.out.old g3);have S3:=Qaa (S2.out.old g3);clear g3 o3 hkl x0 x1 x2 x3 P2 C2 S2 G2 K1 hB2 hks O2;have hm0:(0:Int)<(lx:Int):=by have:=HM.out;have:=HLX.out;omega
 have hm1:(1:Int)<(lx:Int):=by have:=HM.out;have:=HLX.out;omega
 have hn0:0<lx:=by omega
 have hn1:1<lx:=by omega
 go_wp2_with fail;have HAS:Hid (∀W',Old w3 W'->W'.cell? ⟨kp+1,0,none⟩=some (.slice (some ⟨b,0,none⟩) lx cap)/\W'.cell? ⟨ks,0,none⟩=some (.int .i64 (Nn:Int))/\W'.cell? ⟨ks,1,none⟩=some (.slice a3 ps.length c3)/\W'.cell? ⟨b,0,none⟩=some (.slice u0 n0 e0)/\W'.cell? ⟨b,1,none⟩=some (.slice u1 n1 e1)):=fun W' q=>⟨(C3.out.old q).c (i:=0) rfl,(S3.out.old q).c (i:=0) rfl,(S3.out.old q).c (i:=1) rfl,((Old.trans G3.out q).cell (p:=⟨b,0,none⟩) HB.out).trans HX0.out,((Old.trans G3.out q).cell (p:=⟨b,1,none⟩) HB.out).trans HX1.out⟩
 obtain ⟨v0,v1,v2,v3,v4⟩:=HAS.out _ (Old.refl w3)
 go_region_held3 (fun W'=>W'.cell? ⟨kp+1,0,none⟩=some (.slice (some ⟨b,0,none⟩) lx cap)/\W'.cell? ⟨ks,0,none⟩=some (.int .i64 (Nn:Int))/\W'.cell? ⟨ks,1,none⟩=some (.slice a3 ps.length c3)/\W'.cell? ⟨b,0,none⟩=some (.slice u0 n0 e0)/\W'.cell? ⟨b,1,none⟩=some (.slice u1 n1 e1)) (first | with_reducible exact HAS.out _ GY.out | with_reducible exact HAS.out _ GX.out | with_reducible exact HAS.out _ (Below.drew (Old.refl w3)) | with_reducible exact HAS.out _ (Old.refl w3) | fail) (first
  | (go_at_call 50;refine (K3.out _ _ (Old.trans G3.out GX.out) VX.out).mono ?_;rintro e w4 ⟨v',rfl,g4,o4⟩;obtain ⟨oa,oc,rfl⟩:=o4.rs.slice;have GY:=Qaa (Old.trans GX.out g4);have HO4:=Qaa (o4.low (Nat.le_trans G3.out.size GX.out.size));clear g4 o4)
  | (go_at_call 51;refine (K2.out _ _ (Old.trans G3.out (Below.drew (Old.refl w3))) (RS3.out.old (Below.drew (Old.refl w3)))).mono ?_;rintro e wx ⟨ux,rfl,gx,ox⟩;obtain ⟨_,_,rfl⟩:=ox.rs.slice;have GX:=Qaa (Old.trans (Below.drew (Old.refl w3)) gx);have VX:=Qaa ox.rs;clear gx ox)
  | fail)
 have G4:=Qaa (Old.trans G3.out GY.out);have C4:=Qaa (C3.out.old GY.out);have S4:=Qaa (S3.out.old GY.out);have RS4:=Qaa (RS3.out.old GY.out);obtain ⟨ol,hol⟩:∃k,A1s.length=k:=⟨_,rfl⟩
 rw [hol] at HO4 ⊢;have y0:=C4.out.c (i:=0) rfl;clear hol K2 K3 C3 S3 RS3 G3 HX0 HX1 HAS GX GY VX v0 v1 v2 v3 v4
 by_cases h3:lx=3
 ·have d3:((lx:Int)==3)=true:=by simp;omega
  have hx3:=HLX.out.trans h3;obtain ⟨u2,n2,e2,eu2,cc2⟩:=HC2.out hx3;have K4':=Qaa (K4.out hx3);have HU:=Qaa (HE3.out hx3);rw [eu2] at K4';have HX2:=Qaa cc2;have hm2:(2:Int)<(lx:Int):=by omega
  have hn2:2<lx:=by omega
  clear K4 HE3 HE2 HC2 eu2 cc2 h3 hx3;go_wp2_with fail;have HAS:Hid (∀W',Old w4 W'->W'.cell? ⟨kp+1,0,none⟩=some (.slice (some ⟨b,0,none⟩) lx cap)/\W'.cell? ⟨ks,0,none⟩=some (.int .i64 (Nn:Int))/\W'.cell? ⟨ks,1,none⟩=some (.slice a3 ps.length c3)/\W'.cell? ⟨b,2,none⟩=some (.slice u2 n2 e2)):=fun W' q=>⟨(C4.out.old q).c (i:=0) rfl,(S4.out.old q).c (i:=0) rfl,(S4.out.old q).c (i:=1) rfl,((Old.trans G4.out q).cell (p:=⟨b,2,none⟩) HB.out).trans HX2.out⟩
  obtain ⟨v0,v1,v2,v3⟩:=HAS.out _ (Old.refl w4)
  go_region_held3 (fun W'=>W'.cell? ⟨kp+1,0,none⟩=some (.slice (some ⟨b,0,none⟩) lx cap)/\W'.cell? ⟨ks,0,none⟩=some (.int .i64 (Nn:Int))/\W'.cell? ⟨ks,1,none⟩=some (.slice a3 ps.length c3)/\W'.cell? ⟨b,2,none⟩=some (.slice u2 n2 e2)) (first | with_reducible exact HAS.out _ GC.out | with_reducible exact HAS.out _ GB.out | with_reducible exact HAS.out _ GA.out | with_reducible exact HAS.out _ (Below.drew (Old.refl w4)) | with_reducible exact HAS.out _ (Old.refl w4) | fail) (first
   | (go_at_call 50;refine (K6.out _ _ _ (Old.trans G4.out GB.out) (HO4.out.rs.old GB.out) VB.out).mono ?_;rintro e wc ⟨uc,rfl,gc,oc'⟩;obtain ⟨_,_,rfl⟩:=oc'.rs.slice;have GC:=Qaa (Old.trans GB.out gc);have HO5:=Qaa (oc'.low (Nat.le_trans G4.out.size GB.out.size));clear gc oc')
   | (go_at_call 51;refine (K5.out _ _ _ (Old.trans G4.out GA.out) VA.out (RS4.out.old GA.out)).mono ?_;rintro e wb ⟨ub,rfl,gb,ob⟩;obtain ⟨_,_,rfl⟩:=ob.rs.slice;have GB:=Qaa (Old.trans GA.out gb);have VB:=Qaa ob.rs;clear gb ob)
   | (go_at_call 51;refine (K4'.out _ _ (Old.trans G4.out (Below.drew (Old.refl w4))) (RS4.out.old (Below.drew (Old.refl w4)))).mono ?_;rintro e wa ⟨ua,rfl,ga,oa'⟩;obtain ⟨_,_,rfl⟩:=oa'.rs.slice;have GA:=Qaa (Old.trans (Below.drew (Old.refl w4)) ga);have VA:=Qaa oa'.rs;clear ga oa')
   | fail)
  have G5:=Qaa (Old.trans G4.out GC.out);clear K4' K5 K6 C4 S4 RS4 HO4 G4 y0 HAS GA GB GC VA VB v0 v1 v2 v3;go_wp2_with fail;go_ret;refine ⟨_,rfl,G5.out,?_⟩;rw [HU.out];exact HO5.out
 ·have d3:((lx:Int)==3)=false:=by simp;omega
  have HU:=Qaa (HE2.out (by have:=HLX.out;omega));clear K4 HE3 HE2 HC2 h3;go_wp2_with fail;go_ret;refine ⟨_,rfl,G4.out,?_⟩;rw [HU.out];exact HO4.out
end Go.Proofs.YthcidnnkakppcaaGreatDoor
namespace Go.Proofs.YthcidnnkakppcaaGreatDoor
open Go.ChangeShapes Go.WideShapes Go.ChangeAt Go.RowKit
open M2
theorem Tryz.infoL2W:(Tryz.prog.info? 57).map (fun i=>(i.zero,i.size,i.bytes))=some (some (.agg #[.bool false,.slice none 0 0]),2,32):=by kernel_rfl
theorem Qxi (w:World) (x y:Value) (t:TypeId) {k:Nat} (hk:w.heap.size=k) (j:Nat) (u:Value) (h:[x,y][j]? = some u):(w.alloc (.cells #[x,y] t)).cell? ((⟨k,0,none⟩:Addr).add j)=some u:=by
 have hb:Bk (w.alloc (.cells #[x,y] t)) k #[x,y] t:=Bk.new' w _ _ hk
 match j with
 | 0=>
   simp at h;subst h;exact hb.c (i:=0) rfl
 | 1=>
   simp at h;subst h;exact hb.c (i:=1) rfl
 | j+2=>simp at h
end Go.Proofs.YthcidnnkakppcaaGreatDoor
