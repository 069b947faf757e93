/- Proved: what its theorems say. -/
import Derived.Test.YtdaepfjocofkjaaGreatDoorEn31
import Derived.Test.YtdaepfjocofkjaaGreatDoorEn34
import Derived.Test.YtdaepfjocofkjaaGreatDoorEn40
set_option linter.unusedVariables false
set_option linter.unusedSimpArgs false
set_option maxHeartbeats 8000000
set_option maxRecDepth 100000
namespace Go.Proofs.YtdaepfjocofkjaaGreatDoor
open Go.ChangeShapes Go.WideShapes Go.ChangeAt Go.RowKit
theorem Qem {N:Int} {ps:List Int} {xss:List (List Int)} (h:rwB N ps xss=true):xss.length=ps.length/\∀k,k<ps.length->Qbe (ps.getD k 0) N (xss.getD k [])=true:=by
 unfold rwB at h;rw [Bool.and_eq_true] at h;refine ⟨of_decide_eq_true h.1,fun k hk=>?_⟩;have h2:=h.2;unfold rwA at h2;exact of_decide_eq_true h2 k hk (Nat.zero_le _)
theorem Qen {p N:Int} {xs:List Int} (h:Qbe p N xs=true):(xs.length:Int)=N/\∀i,i<xs.length->0<=xs.getD i 0/\xs.getD i 0<p:=by
 unfold Qbe at h;rw [Bool.and_eq_true] at h;refine ⟨of_decide_eq_true h.1,fun i hi=>?_⟩;have h2:=List.all_eq_true.1 h.2 xs[i] (List.getElem_mem hi);rw [show xs.getD i 0=xs[i] by simp [List.getD,hi]];simp [Qg3] at h2;omega
theorem XC.nil2 {W:World} {lo hi:Nat} (h:hi<=W.heap.size):XC [] W lo hi #[.slice none 0 0]:=⟨none,0,rfl,Ows.nil h⟩
theorem Qew {W:World} {k:Nat} {x:Value} {t:TypeId} (h:Bk W k #[x] t) (y:Value):Bk (W.setCell ⟨k,0,none⟩ y) k #[y] t:=(heap_setCell_same W k 0 _ _ y h).trans rfl
def RdX (N:Int) (ps:List Int) (Rf:Nat->Int) (xss:List (List Int)) (W:World) (v:Value):Prop:=∃us:Nat->Value,RdR W v ps.length N false ps Rf us/\∀k,k<ps.length->Row W (us k) (xss.getD k [])/\∃x c,us k=.slice x (xss.getD k []).length c
theorem RdX.old {N:Int} {ps:List Int} {Rf:Nat->Int} {xss:List (List Int)} {W W':World} {v:Value} (h:RdX N ps Rf xss W v) (g:Old W W'):RdX N ps Rf xss W' v:=by
 obtain ⟨us,h1,h2⟩:=h;exact ⟨us,h1.old g,fun k hk=>⟨(h2 k hk).1.old g,(h2 k hk).2⟩⟩
theorem RdX.slice {N:Int} {ps:List Int} {Rf:Nat->Int} {xss:List (List Int)} {W:World} {v:Value} (h:RdX N ps Rf xss W v):∃a c,v=.slice a ps.length c:=by
 obtain ⟨us,⟨b,cap,e,_⟩,_⟩:=h;exact ⟨_,_,e⟩
def OkX (Nn:Nat) (ps:List Int) (xss:List (List Int)):Prop:=∀k,k<ps.length->(xss.getD k []).length=Nn/\∀i,i<Nn->0<=(xss.getD k []).getD i 0/\(xss.getD k []).getD i 0<ps.getD k 0
theorem Qqp {Nn:Nat} {ps:List Int} {xss:List (List Int)} (h:rwB Nn ps xss=true):OkX Nn ps xss:=fun k hk=>by
 obtain ⟨h1,h2⟩:=Qem h;obtain ⟨p1,p2⟩:=Qen (h2 k hk);exact ⟨by omega,fun i hi=>p2 i (by omega)⟩
theorem Qqq (Nn:Nat) (ps:List Int) (Rf:Nat->Int) (xss yss:List (List Int)) (v1 v2:Value) (w:World) (hN:2<=Nn/\Nn<=16) (hps:1<=ps.length/\ps.length<=6) (hpb:∀k,k<ps.length->2<=ps.getD k 0/\ps.getD k 0<=268435456) (hx:OkX Nn ps xss) (hy:OkX Nn ps yss) (h1:RdX Nn ps Rf xss w v1) (h2:RdX Nn ps Rf yss w v2) :
 Calls Tryz.prog 39 #[v1,v2,.func (.func 42) #[] #[]] w fun e w'=>∃v',e=.returned v'/\Old w w'/\Ows (TS 91 5 ps.length (elR Nn false ps Rf (Qb4 Qd3 ps xss yss))) w' w.heap.size w'.heap.size [v']:=by
 obtain ⟨us,hr,hus⟩:=h1;obtain ⟨vs,hs,hvs⟩:=h2;refine (Qol Nn false ps Rf us v1 ps Rf false vs v2 ps.length w hr (fun k hk=>?_) hs (fun k hk=>?_) (by omega) (Qb4 Qd3 ps xss yss) (fun k hk W g=>?_)).mono fun e w' h=>⟨_,h.1,h.2.1,h.2.2⟩
 ·obtain ⟨_,x,c,e⟩:=hus k hk;exact ⟨x,_,c,e⟩
 ·obtain ⟨_,x,c,e⟩:=hvs k hk;exact ⟨x,_,c,e⟩
 ·obtain ⟨r1,x,c,e⟩:=hus k hk;obtain ⟨r2,y,d,f⟩:=hvs k hk;rw [(hx k hk).1] at e;rw [(hy k hk).1] at f;rw [e] at r1 ⊢;rw [f] at r2 ⊢;refine (Qrf (ps.getD k 0) (Rf k) (ps.getD k 0) (Rf k) Nn false false Nn _ _ x y c d W (r1.old g) (r2.old g) (hpb k hk) hN (hx k hk).1 (hy k hk).1 (fun i hi=>⟨(hx k hk).2 i hi,(hy k hk).2 i hi⟩)).mono fun e w' h=>?_
  obtain ⟨g',rfl,g2,o2⟩:=h;refine ⟨_,rfl,g2,?_⟩;rw [Qdo _ _ _ _ k hk];exact o2
end Go.Proofs.YtdaepfjocofkjaaGreatDoor
namespace Go.Proofs.YtdaepfjocofkjaaGreatDoor
open Go.ChangeShapes Go.WideShapes Go.ChangeAt Go.RowKit
open M1
theorem Qik (ys:List Nat):(toZ ys).map Int.toNat=ys:=by
 rw [toZ,List.map_map];refine (List.map_congr_left fun x hx=>?_).trans (List.map_id ys);simp
def Qi2 (N:Nat) (ps:List Int) (xss yss:List (List Int)):List (List Int):=(List.range ps.length).map fun k=>toZ (muO (ps.getD k 0).toNat N ((xss.getD k []).map Int.toNat) ((yss.getD k []).map Int.toNat) N)
theorem Qlb (N:Nat) (ps:List Int) (xss yss:List (List Int)):(Qi2 N ps xss yss).length=ps.length:=by simp [Qi2]
theorem Qlc (N:Nat) (ps:List Int) (xss yss:List (List Int)) (k:Nat) (hk:k<ps.length):(Qi2 N ps xss yss).getD k []=toZ (muO (ps.getD k 0).toNat N ((xss.getD k []).map Int.toNat) ((yss.getD k []).map Int.toNat) N):=by
 simp [Qi2,List.getD,hk]
def RtS (N:Nat) (ps:List Int) (Rf:Nat->Int):Prop:=∀k,k<ps.length->∃P R:Nat,ps.getD k 0=P/\Rf k=R/\R<P/\(2<=P/\P<=268435456)/\P%2=1/\Cg P ((R:Int)^(2*N)) 1/\Cg P ((R:Int)^N) (-1)
def Mx (Nn:Nat) (ps:List Int) (Rf:Nat->Int) (zss:List (List Int)) (base:Nat) (W:World) (v:Value):Prop:=∃hi,Ows (TS 91 5 ps.length (elR Nn false ps Rf zss)) W base hi [v]
theorem Mx.low {Nn:Nat} {ps:List Int} {Rf:Nat->Int} {zss:List (List Int)} {base lo:Nat} {W:World} {v:Value} (h:Mx Nn ps Rf zss base W v) (q:lo<=base):Mx Nn ps Rf zss lo W v:=by
 obtain ⟨hi,h⟩:=h;exact ⟨hi,Ows.low h q (Nat.le_refl _) h.1⟩
theorem Mx.rd {Nn:Nat} {ps:List Int} {Rf:Nat->Int} {zss:List (List Int)} {base:Nat} {W:World} {v:Value} (hm:1<=ps.length) (h:Mx Nn ps Rf zss base W v):RdX Nn ps Rf zss W v:=by
 obtain ⟨hi,h⟩:=h;exact Ows.rd hm h
theorem Qld {Nn:Nat} {ps:List Int} {xss:List (List Int)} {P:Nat} {k:Nat} (h:OkX Nn ps xss) (hk:k<ps.length) (hP:ps.getD k 0=P):∃ys:List Nat,xss.getD k []=toZ ys/\ys.length=Nn/\∀y∈ys,y<P:=by
 obtain ⟨hl,hb⟩:=h k hk;generalize hx:xss.getD k []=xs at *;refine ⟨xs.map Int.toNat,?_,by simpa using hl,fun y hy=>?_⟩
 ·unfold toZ;rw [List.map_map];refine ((List.map_congr_left fun x hx=>?_).trans (List.map_id xs)).symm;obtain ⟨i,hi,rfl⟩:=List.getElem_of_mem hx;have:=(hb i (by omega)).1;rw [show xs.getD i 0=xs[i] by simp [List.getD,hi]] at this;simp;omega
 ·obtain ⟨x,hx,rfl⟩:=List.mem_map.1 hy;obtain ⟨i,hi,rfl⟩:=List.getElem_of_mem hx;have:=hb i (by omega);rw [show xs.getD i 0=xs[i] by simp [List.getD,hi],hP] at this;omega
theorem Q2n {Nn:Nat} {ps:List Int} {xss:List (List Int)} (h:∀k,k<ps.length->∃(P:Nat) (ys:List Nat),ps.getD k 0=P/\xss.getD k []=toZ ys/\ys.length=Nn/\∀y∈ys,y<P):OkX Nn ps xss:=fun k hk=>by
 obtain ⟨P,ys,e1,e2,hl,hlt⟩:=h k hk;rw [e1,e2];refine ⟨by rw [Qbf];exact hl,fun i hi=>?_⟩;have e:(toZ ys).getD i 0=((ys.getD i 0:Nat):Int):=by simp [toZ,List.getD,show i<ys.length by omega]
 have hm:ys.getD i 0∈ys:=by simp [List.getD,show i<ys.length by omega]
 have:=hlt _ hm;rw [e];omega
theorem Qo2 {Nn:Nat} {ps:List Int} {Rf:Nat->Int} {xss yss:List (List Int)} (hrt:RtS Nn ps Rf):OkX Nn ps (Qi2 Nn ps xss yss):=Q2n fun k hk=>by
 obtain ⟨P,R,eP,eR,hlt,hP2,ho,t1,t2⟩:=hrt k hk;refine ⟨P,_,eP,by rw [Qlc _ _ _ _ _ hk],Qgq _ _ _ _ _,?_⟩;rw [eP];exact Qqn _ _ _ _ (by omega) _
theorem Qil {Nn:Nat} {ps:List Int} {xss yss:List (List Int)} (hpb:∀k,k<ps.length->2<=ps.getD k 0/\ps.getD k 0<=268435456) (hx:OkX Nn ps xss):OkX Nn ps (Qb4 Qd3 ps xss yss):=fun k hk=>by
 rw [Qdo _ _ _ _ _ hk,Qcp];refine ⟨(hx k hk).1,fun i hi=>?_⟩;rw [Qdn _ _ _ _ _ (by rw [(hx k hk).1];exact hi)];have:=hpb k hk;exact ⟨Int.emod_nonneg _ (by omega),Int.emod_lt_of_pos _ (by omega)⟩
theorem Qcq {Nn:Nat} {ps ss:List Int} (hpb:∀k,k<ps.length->2<=ps.getD k 0/\ps.getD k 0<=268435456) (hs:ss.length=Nn):OkX Nn ps (smS ps ss):=fun k hk=>by
 rw [Qfc _ _ _ hk,Qfa];refine ⟨hs,fun i hi=>?_⟩;rw [Qig _ _ _ (by omega)];have:=hpb k hk;exact ⟨Int.emod_nonneg _ (by omega),Int.emod_lt_of_pos _ (by omega)⟩
theorem Q3r (Nn:Nat) (ps:List Int) (Rf:Nat->Int) (xss yss:List (List Int)) (v1 v2:Value) (w:World) (hT:Qbh w) (hS:Sz4 Nn) (hps:1<=ps.length/\ps.length<=6) (hrt:RtS Nn ps Rf) (hx:OkX Nn ps xss) (hy:OkX Nn ps yss) (h1:RdX Nn ps Rf xss w v1) (h2:RdX Nn ps Rf yss w v2) :
 Calls Tryz.prog 39 #[v1,v2,.func (.func 72) #[] #[]] w fun e w'=>∃v',e=.returned v'/\Old w w'/\Mx Nn ps Rf (Qi2 Nn ps xss yss) w.heap.size w' v':=by
 obtain ⟨us,hr,hus⟩:=h1;obtain ⟨vs,hs,hvs⟩:=h2;have hN:2<=Nn/\Nn<=16:=by unfold Sz4 at hS;omega
 refine (Qmr Nn false ps Rf us v1 ps Rf false vs v2 ps.length w hr (fun k hk=>?_) hs (fun k hk=>?_) (by omega) (Qi2 Nn ps xss yss) (fun k hk W g=>?_)).mono fun e w' h=>⟨_,h.1,h.2.1,_,h.2.2⟩
 ·obtain ⟨_,x,c,e⟩:=hus k hk;exact ⟨x,_,c,e⟩
 ·obtain ⟨_,x,c,e⟩:=hvs k hk;exact ⟨x,_,c,e⟩
 ·obtain ⟨r1,x,c,e⟩:=hus k hk;obtain ⟨r2,y,d,f⟩:=hvs k hk;obtain ⟨P,R,eP,eR,hlt,hP2,ho,t1,t2⟩:=hrt k hk;obtain ⟨ys,e4,la,ha⟩:=Qld hx hk eP;obtain ⟨zs,e5,lb,hb⟩:=Qld hy hk eP;rw [(hx k hk).1] at e;rw [(hy k hk).1] at f;rw [e] at r1 ⊢;rw [f] at r2 ⊢;rw [Qlc _ _ _ _ _ hk];rw [e4] at r1 ⊢;rw [e5] at r2 ⊢;rw [eP,eR,Qik,Qik,show ((P:Int).toNat)=P by omega];refine Qo0 P R P Nn R Nn false _ x y Nn c Nn d W (fun W' g'=>?_) (by rw [Qbf,Qgq]) (by omega);exact Qm6 P Nn R ys zs _ _ W' (hT.old (Old.trans g g')) (r1.old (Old.trans g g')) (r2.old (Old.trans g g')) hP2 ho hS hlt la lb ha hb t1 t2
theorem Q3s (Nn:Nat) (ps:List Int) (Rf:Nat->Int) (xss yss:List (List Int)) (v1 v2:Value) (w:World) (hN:2<=Nn/\Nn<=16) (hps:1<=ps.length/\ps.length<=6) (hpb:∀k,k<ps.length->2<=ps.getD k 0/\ps.getD k 0<=268435456) (hx:OkX Nn ps xss) (hy:OkX Nn ps yss) (h1:RdX Nn ps Rf xss w v1) (h2:RdX Nn ps Rf yss w v2) :
 Calls Tryz.prog 39 #[v1,v2,.func (.func 42) #[] #[]] w fun e w'=>∃v',e=.returned v'/\Old w w'/\Mx Nn ps Rf (Qb4 Qd3 ps xss yss) w.heap.size w' v':=
 (Qqq Nn ps Rf xss yss v1 v2 w hN hps hpb hx hy h1 h2).mono fun e w' h=>by
  obtain ⟨v',e1,g,o⟩:=h;exact ⟨v',e1,g,_,o⟩
def ppL (Nn:Nat) (ps:List Int) (xss yss zss:List (List Int)):List (List Int):=Qb4 Qd3 ps xss (Qi2 Nn ps yss zss)
theorem Qf4 (Nn:Nat) (ps:List Int) (Rf:Nat->Int) (xss yss zss:List (List Int)) (v0 v1 v2:Value) (w:World) (hT:Qbh w) (hS:Sz4 Nn) (hps:1<=ps.length/\ps.length<=6) (hpb:∀k,k<ps.length->2<=ps.getD k 0/\ps.getD k 0<=268435456) (hrt:RtS Nn ps Rf) (hx:OkX Nn ps xss) (hy:OkX Nn ps yss) (hz:OkX Nn ps zss) (h0:RdX Nn ps Rf xss w v0) (h1:RdX Nn ps Rf yss w v1) (h2:RdX Nn ps Rf zss w v2) :
 Calls Tryz.prog 40 #[v0,v1,v2] w fun e w'=>∃v',e=.returned v'/\Old w w'/\Mx Nn ps Rf (ppL Nn ps xss yss zss) w.heap.size w' v':=by
 have hN:2<=Nn/\Nn<=16:=by unfold Sz4 at hS;omega
 have K1:=Qaa (Q3r Nn ps Rf yss zss v1 v2 w hT hS hps hrt hy hz h1 h2);have K2:=Qaa (fun W v (g:Old w W) (h:RdX Nn ps Rf (Qi2 Nn ps yss zss) W v)=>Q3s Nn ps Rf xss (Qi2 Nn ps yss zss) v0 v W hN hps hpb hx (Qo2 hrt) (h0.old g) h);obtain ⟨a0,c0,rfl⟩:=h0.slice;obtain ⟨a1,c1,rfl⟩:=h1.slice;obtain ⟨a2,c2,rfl⟩:=h2.slice;have hm:=Qaa hps.1;clear hT hS hps hpb hrt hx hy hz h0 h1 h2 hN;go_enter Tryz.func40,Tryz.ntmps40;go_wp2_with fail;refine K1.out.mono ?_
 rintro e w1 ⟨v',rfl,g1,o1⟩;have G1:=Qaa g1;have M1':=Qaa (o1.rd hm.out);obtain ⟨a3,c3,rfl⟩:=M1'.out.slice;clear g1 o1 K1;go_wp2_with fail;refine (K2.out _ _ G1.out M1'.out).mono ?_
 rintro e w2 ⟨v',rfl,g2,o2⟩;have G2:=Qaa (Old.trans G1.out g2);have M2':=Qaa (o2.low G1.out.size);obtain ⟨a4,c4,rfl⟩:=(o2.rd hm.out).slice;clear g2 o2 K2;go_wp2_with fail;go_ret;exact ⟨_,rfl,G2.out,M2'.out⟩
end Go.Proofs.YtdaepfjocofkjaaGreatDoor
namespace Go.Proofs.YtdaepfjocofkjaaGreatDoor
open Go.ChangeShapes Go.WideShapes Go.ChangeAt Go.RowKit
def lfL (m:Int->Int) (ps ss:List Int):List (List Int):=Qb4 (Qhc m) ps (smS ps ss) (smS ps ss)
theorem Qt0 (Nn:Nat) (ps ss ds:List Int) (Rf:Nat->Int) (m:Int->Int) (ld:Nat) (hps:1<=ps.length/\ps.length<=6) (hN:2<=Nn/\Nn<=16) (hl:ss.length=Nn) (hp:∀k,k<ps.length->2<=ps.getD k 0/\ps.getD k 0<=268435456)
 (KM:∀W a c k,k<ps.length->Row W (.slice a ld c) ds->Calls Tryz.prog 78 #[.agg #[.bool false,.slice a ld c],.int .i64 (ps.getD k 0)] W fun e w'=>e=.returned (.int .i64 (m (ps.getD k 0)))/\Old W w') (hm:∀k,k<ps.length->0<=m (ps.getD k 0)/\m (ps.getD k 0)<=268435456)
 (W:World) (kb g lo hi:Nat) (a1:Option Addr) (c1:Nat) (hb:W.heap[kb]? = some (.cells #[.bool false,.slice a1 ld c1] 67 (0,0))) (hd:Row W (.slice a1 ld c1) ds) (ho:Ows (TS 91 5 ps.length (elR Nn false ps Rf (smS ps ss))) W lo hi [.slice (some ⟨g,0,none⟩) ps.length ps.length]) :
 Calls Tryz.prog 75 #[.slice (some ⟨g,0,none⟩) ps.length ps.length,.func (.func 76) #[] #[.pointer (some ⟨kb,0,none⟩)]] W fun e w'=>e=.returned (.slice (some ⟨W.heap.size,0,none⟩) ps.length ps.length)/\Old W w'/\Ows (TS 91 5 ps.length (elR Nn false ps Rf (lfL m ps ss))) w' W.heap.size w'.heap.size [.slice (some ⟨W.heap.size,0,none⟩) ps.length ps.length]:=by
 obtain ⟨us,hr,hus⟩:=Ows.rd (by omega) ho;refine Qm7 kb Nn false ps Rf us _ ps.length W hr (fun k hk=>?_) (by omega) (lfL m ps ss) (fun k hk W' g'=>?_)
 ·obtain ⟨_,x,c,e⟩:=hus k hk;exact ⟨x,_,c,e⟩
 ·obtain ⟨r1,x,c,e⟩:=hus k hk;have hlz:((smS ps ss).getD k []).length=Nn:=by rw [Qfc _ _ _ hk,Qfa];exact hl
  rw [hlz] at e;rw [e] at r1 ⊢;have hpk:=hp k hk;unfold lfL;rw [Qdo _ _ _ _ _ hk];refine (Qo1 (ps.getD k 0) (Rf k) (m (ps.getD k 0)) false false Nn c (Qco (Qhc m) (ps.getD k 0) ((smS ps ss).getD k []) ((smS ps ss).getD k [])) x a1 ld c1 kb W' ((show StW W kb (.bool false) (.slice a1 ld c1) 67 from hb).old g') (fun W2 g2=>KM W2 a1 c1 k hk (hd.old (Old.trans g' g2))) (fun W2 g2=>?_)).mono fun e w' h=>?_
  ·exact Qm3 (ps.getD k 0) (Rf k) (m (ps.getD k 0)) false Nn c ((smS ps ss).getD k []) x W2 (r1.old (Old.trans g' g2)) (hm k hk) hpk hN hlz (fun i hi=>by
    rw [Qfc _ _ _ hk,Qig _ _ _ (by omega)];exact ⟨Int.emod_nonneg _ (by omega),Int.emod_lt_of_pos _ (by omega)⟩)
  ·obtain ⟨g3,e3,q3,o3⟩:=h;exact ⟨_,e3,q3,o3⟩
theorem Qt1 (Nn:Nat) (T E:Int) (ps ss ts ds:List Int) (Rf:Nat->Int) (m:Int->Int) (lt ld:Nat) (a3:Option Addr) (l3 c3 gr:Nat) (a6:Option Addr) (l6 c6:Nat) (v:Value) (w:World) (hps:1<=ps.length/\ps.length<=6) (hN:2<=Nn/\Nn<=16) (hl:ss.length=Nn) (hp:∀k,k<ps.length->2<=ps.getD k 0/\ps.getD k 0<=268435456)
 (hr:Rgs w gr Nn ps Rf ps.length) (hv:Row w v ss) (hs:∀i,i<ss.length->-9223372036854775808<=ss.getD i 0/\ss.getD i 0<=9223372036854775807)
 (KW:∀W,Old w W->Calls Tryz.prog 74 #[.int .i64 T] W fun e w'=>∃v',e=.returned v'/\Old W w'/\∃a c,v'=.agg #[.bool false,.slice a lt c]/\Own w' W.heap.size (.slice a lt c) ts)
 (KD:∀W a c,Old w W->Row W (.slice a lt c) ts->Calls Tryz.prog 73 #[.agg #[.bool false,.slice a6 l6 c6],.agg #[.bool false,.slice a lt c]] W fun e w'=>∃v',e=.returned v'/\Old W w'/\∃a1 c1 a2 l2 c2,v'=.tuple #[.agg #[.bool false,.slice a1 ld c1],.agg #[.bool false,.slice a2 l2 c2],.bool true]/\Own w' W.heap.size (.slice a1 ld c1) ds)
 (KM:∀W a c k,k<ps.length->Row W (.slice a ld c) ds->Calls Tryz.prog 78 #[.agg #[.bool false,.slice a ld c],.int .i64 (ps.getD k 0)] W fun e w'=>e=.returned (.int .i64 (m (ps.getD k 0)))/\Old W w') (hm:∀k,k<ps.length->0<=m (ps.getD k 0)/\m (ps.getD k 0)<=268435456) :
 Calls Tryz.prog 41 #[.agg #[.int .i64 Nn,.int .i64 T,.int .i64 E,.slice a3 l3 c3,.slice (some ⟨gr,0,none⟩) ps.length ps.length,.bool false,.slice a6 l6 c6],v] w fun e w'=>∃g,w.heap.size<=g/\e=.returned (.slice (some ⟨g,0,none⟩) ps.length ps.length)/\Old w w'/\Ows (TS 91 5 ps.length (elR Nn false ps Rf (lfL m ps ss))) w' w.heap.size w'.heap.size [.slice (some ⟨g,0,none⟩) ps.length ps.length]:=by
 obtain ⟨sa,sc,ev⟩:=hv.slice;subst ev;have HKS:=Qaa (fun W q=>Qev Nn ps ss Rf gr _ W (hr.old q) (by omega) (hv.old q) (by omega) hs (fun k hk=>by have:=hp k hk;omega));have HKC:=Qaa (Qt0 Nn ps ss ds Rf m ld hps hN hl hp KM hm);generalize hA:w.alloc (.cells #[.int .i64 Nn,.int .i64 T,.int .i64 E,.slice a3 l3 c3,.slice (some ⟨gr,0,none⟩) ps.length ps.length,.bool false,.slice a6 l6 c6] 69)=wA;have HOA:Hid (Old w wA):=by show Old w wA;rw [<- hA];exact (Old.refl w).alloc _
 have BA:Hid (Bk wA w.heap.size #[.int .i64 Nn,.int .i64 T,.int .i64 E,.slice a3 l3 c3,.slice (some ⟨gr,0,none⟩) ps.length ps.length,.bool false,.slice a6 l6 c6] 69):=by show Bk _ _ _ _;rw [<- hA];exact Bk.new' w _ _ rfl
 have HKW:=Qaa (fun W q=>KW W (Old.trans HOA.out q));have HKD:=Qaa (fun W a c q=>KD W a c (Old.trans HOA.out q));generalize lfL m ps ss=Z at *;clear KW KD KM hm hp hr hv hs hl;go_enter Tryz.func41,Tryz.ntmps41;go_wp2_with fail;refine Q2l wA w.heap.size T a6 l6 c6 lt ld ts ds (BA.out.c (i:=1) rfl) (BA.out.c (i:=5) rfl) (BA.out.c (i:=6) rfl) HKW.out HKD.out _ _ ?_ ?_ ?_
 iterate 2 (·exact rfl)
 intro us W g a1 c1 q1 hg h11 hb o1;have B1:=Qaa (BA.out.old q1);have HQ:=Qaa (Old.trans HOA.out q1);have HB:=Qaa hb;have HO1:=Qaa (Own.row o1);have x4:=B1.out.c (i:=4) rfl;simp only [Qah,Act.put,Qg0,List.range,List.range.loop,List.map_cons,List.map_nil,List.getD_cons_zero,List.getD_cons_succ,List.setIfInBounds_toArray,List.set_cons_succ,List.set_cons_zero,h11];clear q1 hb o1 h11 BA HKW HKD hA HOA;go_wp2_with fail;refine (HKS.out W HQ.out).mono ?_
 rintro e w2 ⟨g2,hg2,rfl,q2,o2⟩;have HQ2:=Qaa (Old.trans HQ.out q2);have HK2:=HKC.out w2 g g2 _ _ a1 c1 ((q2.block g (lt_of_some HB.out)).trans HB.out) (HO1.out.old q2) o2;clear q2 o2 x4 HKS HKC;go_wp2_with fail;refine HK2.mono ?_
 rintro e w3 ⟨rfl,q3,o3⟩;have HQ3:=Qaa (Old.trans HQ2.out q3);have HO3:=Qaa (o3.low HQ2.out.size (Nat.le_refl _) (Nat.le_refl _));clear q3 o3;go_wp2_with fail;go_ret;exact ⟨w2.heap.size,HQ2.out.size,rfl,HQ3.out,HO3.out⟩
theorem Qx2 {Nn:Nat} {ps ss:List Int} (m:Int->Int) (hl:ss.length=Nn) (hp:∀k,k<ps.length->2<=ps.getD k 0/\ps.getD k 0<=268435456):OkX Nn ps (lfL m ps ss):=fun k hk=>by
 unfold lfL;have hz:((smS ps ss).getD k []).length=Nn:=by rw [Qfc _ _ _ hk,Qfa];exact hl
 rw [Qdo _ _ _ _ _ hk,Qcp];refine ⟨hz,fun i hi=>?_⟩;rw [Qdn _ _ _ _ _ (by omega)];have:=hp k hk;unfold Qhc;exact ⟨Int.emod_nonneg _ (by omega),Int.emod_lt_of_pos _ (by omega)⟩
end Go.Proofs.YtdaepfjocofkjaaGreatDoor
namespace Go.Proofs.YtdaepfjocofkjaaGreatDoor
open Go.ChangeShapes Go.WideShapes Go.ChangeAt Go.RowKit
open M1
theorem OwS.ats {xss:List (List Int)} {W:World} {lo hi:Nat} {v:Value} (ps:List Int) (h:OwS xss W lo hi v):∃us cs,0<xss.length->Qd4 W v ps xss us cs:=by
 rcases Nat.eq_zero_or_pos xss.length with h0 | h0
 ·exact ⟨fun _=>none,fun _=>0,fun h=>by omega⟩
 ·obtain ⟨us,cs,h⟩:=h.at ps h0;exact ⟨us,cs,fun _=>h⟩
end Go.Proofs.YtdaepfjocofkjaaGreatDoor
namespace Go.Proofs.YtdaepfjocofkjaaGreatDoor
open Go.ChangeShapes Go.WideShapes Go.ChangeAt Go.RowKit
theorem Qt2 {base Nn:Nat} {ps:List Int} {Rf:Nat->Int} {uf:Nat->Nat->Option Addr} {cf:Nat->Nat} {j:Nat} {W:World} {gp:Option Addr} {v2:Value} {xss:List (List Int)} (hN:2<=Nn/\Nn<=16) (hph:PhG base Nn ps Rf uf j W gp) (hra:Qd4 W v2 ps xss (uf j) cf) (hrw:rwB Nn ps xss=true):RdX Nn ps Rf xss W (.slice gp ps.length ps.length):=by
 obtain ⟨gn,rfl,_,hrr⟩:=hph;obtain ⟨bb,cc,_,hbb,hrow⟩:=hra;obtain ⟨hxl,hpoly⟩:=Qem hrw;refine ⟨_,hrr.rd,fun k hk=>?_⟩;obtain ⟨q1,q2⟩:=Qen (hpoly k hk);have hlx:(xss.getD k []).length=Nn:=by omega
 obtain ⟨_,hcf,r2⟩:=hrow k (by omega);rw [hlx] at r2;rw [show ((Nn:Int).toNat)=Nn by omega,hlx];exact ⟨r2.recap (by intro h;rw [h] at hlx;simp at hlx;omega),_,_,rfl⟩
theorem Qim (N T E:Int) (ps:List Int) (xss yss:List (List Int)) (a0:Option Addr) (c0:Nat) (aA aB:Option Addr) (cA cB:Nat) (w:World) (hv:Row w (.slice a0 ps.length c0) ps) (hx:Qci w (.slice aA xss.length cA) xss) (hy:Qci w (.slice aB yss.length cB) yss) (hlx:xss.length<=1048576) (hrx:∀r∈xss,r.length<=1048576) (hly:yss.length<=1048576) (hry:∀r∈yss,r.length<=1048576) (hs:spB N ps=true) :
 Calls Tryz.prog 23 #[.agg #[.int .i64 N,.int .i64 T,.int .i64 E,.slice a0 ps.length c0],.agg #[.slice aA xss.length cA,.slice aB yss.length cB]] w fun e w'=>e=.returned (.bool (rwB N ps xss&&rwB N ps yss))/\Old w w':=by
 have K1:=Qaa (fun W=>Qbu N T E a0 ps.length c0 W);have K2:=Qaa (fun W (q:Old w W)=>Qh8 N ps xss _ _ W (hv.old q) (hx.old q) hlx hrx hs);have K3:=Qaa (fun W (q:Old w W)=>Qh8 N ps yss _ _ W (hv.old q) (hy.old q) hly hry hs);have HA:Hid (Old w ((w.alloc (.cells #[.int .i64 N,.int .i64 T,.int .i64 E,.slice a0 ps.length c0] 35)).alloc (.cells #[.slice aA xss.length cA,.slice aB yss.length cB] 37))):=((Old.refl w).alloc _).alloc _;have BP:Hid (Bk ((w.alloc (.cells #[.int .i64 N,.int .i64 T,.int .i64 E,.slice a0 ps.length c0] 35)).alloc (.cells #[.slice aA xss.length cA,.slice aB yss.length cB] 37)) (w.heap.size+1) #[.slice aA xss.length cA,.slice aB yss.length cB] 37):=Bk.new' _ _ _ (by simp);clear hv hx hy hrx hry hs;generalize rwB N ps xss=b1 at *;generalize rwB N ps yss=b2 at *
 cases b1
 all_goals
  go_enter Tryz.func23,Tryz.ntmps23;go_wp2_with fail;refine (K1.out _).mono ?_
  rintro e w1 ⟨rfl,g1⟩;obtain ⟨B1,hB1⟩:∃B:World,w1.alloc (.cells #[.int .i64 N,.slice a0 ps.length c0] 60)=B:=⟨_,rfl⟩
  have O1:Old w1 B1:=by rw [<- hB1];exact (Old.refl w1).alloc _
  have X1:Hid (Bk B1 w1.heap.size #[.int .i64 N,.slice a0 ps.length c0] 60):=by rw [<- hB1];exact Bk.new' w1 _ _ rfl
  have HG1:=Qaa (Old.trans HA.out (Old.trans g1 O1));have P1:=Qaa (BP.out.old (Old.trans g1 O1));obtain ⟨k1,hk1⟩:∃k,w1.heap.size=k:=⟨_,rfl⟩
  rw [hk1] at X1;have z0:=P1.out.c (i:=0) rfl;have x0:=X1.out.c (i:=0) rfl;have x1:=X1.out.c (i:=1) rfl;clear g1 O1 K1 HA BP;go_wp2_with fail;refine (K2.out _ HG1.out).mono ?_
  rintro e w2 ⟨rfl,g2⟩;have HG2:=Qaa (Old.trans HG1.out g2);have P2:=Qaa (P1.out.old g2);have X2:=Qaa (X1.out.old g2);clear z0 x0 x1 g2 K2 P1 X1 hB1 hk1;have z1:=P2.out.c (i:=1) rfl;have x0:=X2.out.c (i:=0) rfl;have x1:=X2.out.c (i:=1) rfl;go_wp2_with fail
 ·go_ret;exact ⟨rfl,HG2.out⟩
 ·refine (K3.out _ HG2.out).mono ?_
  rintro e w3 ⟨rfl,g3⟩;have HG3:=Qaa (Old.trans HG2.out g3);clear g3;go_wp2_with fail;go_ret;exact ⟨by simp,HG3.out⟩
def Qf5 (i:Nat):Nat:=[8,9,10,11,12,13,7,14,15,5,6].getD i 0
theorem Qt3:∀i,i<11->Qf5 i<24:=by decide
theorem Qj9:∀i,i<11->∀j,j<11->Qf5 i=Qf5 j->i=j:=by decide
theorem Qt4:∀s,s<4->∀i,i<11->Qf5 i≠s:=by decide
def qDa (N T E:Int) (a0:Option Addr) (l0 c0 bx lq lt ld:Nat) (qs ts ds:List Int) (i:Nat) (W:World) (x:Value):Prop:=
 match i with
 | 0=>x=.agg #[.int .i64 N,.int .i64 T,.int .i64 E,.slice a0 l0 c0]
 | 1=>∃a c,x=.slice a lq c/\Row W (.slice a lq c) qs
 | 2=>x=.pointer (some ⟨bx,1,none⟩)
 | 3=>x=.int .i64 T
 | 4=>∃a c,x=.slice a lt c/\Row W (.slice a lt c) ts
 | 5=>∃a1 c1 a2 l2 c2,x=.tuple #[.slice a1 ld c1,.slice a2 l2 c2]/\Row W (.slice a1 ld c1) ds
 | 6=>∃a1 c1 a2 l2 c2,x=.tuple #[.slice a1 ld c1,.slice a2 l2 c2]/\Row W (.slice a1 ld c1) ds
 | 7=>∃a c,x=.slice a ld c/\Row W (.slice a ld c) ds
 | 8=>∃a l c,x=.slice a l c
 | 9=>∃a c,x=.slice a ld c/\Row W (.slice a ld c) ds
 | 10=>∃a l c,x=.slice a l c
 | _=>True
theorem Q0s (N T E:Int) (a0:Option Addr) (l0 c0 bx lq lt ld:Nat) (qs ts ds:List Int) (i:Nat) (W W':World) (x:Value) (h:qDa N T E a0 l0 c0 bx lq lt ld qs ts ds i W x) (q:Old W W'):qDa N T E a0 l0 c0 bx lq lt ld qs ts ds i W' x:=by
 unfold qDa at h ⊢;split at h
 case h_2=>
  obtain ⟨a,c,e,o⟩:=h;exact ⟨a,c,e,o.old q⟩
 case h_5=>
  obtain ⟨a,c,e,o⟩:=h;exact ⟨a,c,e,o.old q⟩
 case h_6=>
  obtain ⟨a1,c1,a2,l2,c2,e,o⟩:=h;exact ⟨a1,c1,a2,l2,c2,e,o.old q⟩
 case h_7=>
  obtain ⟨a1,c1,a2,l2,c2,e,o⟩:=h;exact ⟨a1,c1,a2,l2,c2,e,o.old q⟩
 case h_8=>
  obtain ⟨a,c,e,o⟩:=h;exact ⟨a,c,e,o.old q⟩
 case h_10=>
  obtain ⟨a,c,e,o⟩:=h;exact ⟨a,c,e,o.old q⟩
 all_goals first | exact h | trivial
theorem Q2o (w0:World) (N T E:Int) (a0:Option Addr) (l0 c0 bx lq lt ld:Nat) (qs ts ds:List Int) (bX:w0.heap[bx]? = some (.cells #[.int .i64 N,.int .i64 T,.int .i64 E,.slice a0 l0 c0] 35 (0,0)))
 (KQ:∀W,Old w0 W->Calls Tryz.prog 58 #[.agg #[.int .i64 N,.int .i64 T,.int .i64 E,.slice a0 l0 c0]] W fun e w'=>∃v,e=.returned v/\Old W w'/\∃a c,v=.slice a lq c/\Row w' (.slice a lq c) qs)
 (KO:∀W,Old w0 W->Calls Tryz.prog 59 #[.int .i64 T] W fun e w'=>∃v,e=.returned v/\Old W w'/\∃a c,v=.slice a lt c/\Row w' (.slice a lt c) ts)
 (KD:∀W a c a' c',Old w0 W->Row W (.slice a lq c) qs->Row W (.slice a' lt c') ts->Calls Tryz.prog 57 #[.slice a lq c,.slice a' lt c'] W fun e w'=>∃v,e=.returned v/\Old W w'/\∃a1 c1 a2 l2 c2,v=.tuple #[.slice a1 ld c1,.slice a2 l2 c2]/\Row w' (.slice a1 ld c1) ds)
 (Q:Exit->Act->World->Prop) (b0:Act) (hsz:b0.tmps.size=24) (ha2:b0.eval (.tmp 2)=.pointer (some ⟨bx,0,none⟩))
 (HK:Hid (∀(us:Nat->Value) W a c,Old w0 W->us 9=.slice a ld c->Row W (.slice a ld c) ds->Q .normal (Qah b0 ((List.range 11).map fun i=>(Qf5 i,us i))) W)) :
 Code.wp Tryz.prog ((Tryz.f32.body.bind (Qa0 1)).getD .skip) Q b0 w0:=by
 conv=>arg 2;whnf
 have un:=Qt4;have px:∀W,Old w0 W->W.heap[bx]? = some (.cells #[.int .i64 N,.int .i64 T,.int .i64 E,.slice a0 l0 c0] 35 (0,0)):=fun W g=>(g.block bx (lt_of_some bX)).trans bX
 have pT:∀W,Old w0 W->W.cell? ⟨bx,1,none⟩=some (.int .i64 T):=fun W g=>cell_of_row W bx 1 _ _ (0,0) (px W g)
 refine Qdv (by kernel_rfl) (by kernel_rfl) (by kernel_rfl) Qf5 (fun i hi=>by rw [hsz];exact Qt3 i hi) (fun i j hi hj=>Qj9 i hi j hj) (qDa N T E a0 l0 c0 bx lq lt ld qs ts ds) (Q0s N T E a0 l0 c0 bx lq lt ld qs ts ds) ?_ ?_
 ·refine ⟨?_,?_,?_,?_,?_,?_,?_,?_,?_,?_,?_,trivial⟩
  ·intro a W g hF hd;refine Qcr (k:=bx) ((hF.same 2 (un 2 (by decide))).trans ha2) (px W g) Tryz.underlying35 rfl (by kernel_rfl) ?_
   exact ⟨_,rfl,Old.refl _,rfl⟩
  ·intro a W g hF hd;have h0:a.eval (.tmp 8)=.agg #[.int .i64 N,.int .i64 T,.int .i64 E,.slice a0 l0 c0]:=hd ⟨0,.data⟩ (by simp) rfl;refine Qal Tryz.call58 (vs:=#[.agg #[.int .i64 N,.int .i64 T,.int .i64 E,.slice a0 l0 c0]]) (by simp [h0]) (KQ W g) ?_
   rintro x w' ⟨g',r⟩;exact ⟨_,rfl,g',r⟩
  ·intro a W g hF hd;have g2:=(hF.same 2 (un 2 (by decide))).trans ha2;obtain ⟨ρ,hρ⟩:∃ρ,a.eval=ρ:=⟨_,rfl⟩
   rw [hρ] at g2;refine Qai ρ hρ (.pointer (some ⟨bx,1,none⟩)) ?_ ⟨_,rfl,Old.refl _,rfl⟩
   clear g hF hd hρ ha2 HK un KQ KO KD px bX pT
   go_simp
  ·intro a W g hF hd;have h2:a.eval (.tmp 10)=.pointer (some ⟨bx,1,none⟩):=hd ⟨2,.data⟩ (by simp) rfl;have kT:=pT W g;obtain ⟨ρ,hρ⟩:∃ρ,a.eval=ρ:=⟨_,rfl⟩
   rw [hρ] at h2;refine Qai ρ hρ (.int .i64 T) ?_ ⟨_,rfl,Old.refl _,rfl⟩
   clear g hF hd hρ ha2 HK un KQ KO KD px bX pT
   go_simp
  ·intro a W g hF hd;have h3:a.eval (.tmp 11)=.int .i64 T:=hd ⟨3,.data⟩ (by simp) rfl;refine Qal Tryz.call59 (vs:=#[.int .i64 T]) (by simp [h3]) (KO W g) ?_
   rintro x w' ⟨g',r⟩;exact ⟨_,rfl,g',r⟩
  ·intro a W g hF hd;obtain ⟨a1,c1,h1,o1⟩:∃a' c,a.eval (.tmp 9)=.slice a' lq c∧Row W (.slice a' lq c) qs:=hd ⟨1,.data⟩ (by simp) rfl
   obtain ⟨a4,c4,h4,o4⟩:∃a' c,a.eval (.tmp 12)=.slice a' lt c/\Row W (.slice a' lt c) ts:=hd ⟨4,.data⟩ (by simp) rfl
   refine Qal Tryz.call57 (vs:=#[.slice a1 lq c1,.slice a4 lt c4]) (by simp [h1,h4]) (KD W a1 c1 a4 c4 g o1 o4) ?_
   rintro x w' ⟨g',r⟩;exact ⟨_,rfl,g',r⟩
  ·intro a W g hF hd;refine Qbo ?_
   exact ⟨_,rfl,Old.refl _,hd ⟨5,.data⟩ (by simp) rfl⟩
  ·intro a W g hF hd;obtain ⟨a1,c1,a2,l2,c2,h6,o6⟩:∃a1 c1 a2 l2 c2,a.eval (.tmp 7)=.tuple #[.slice a1 ld c1,.slice a2 l2 c2]∧Row W (.slice a1 ld c1) ds:=hd ⟨6,.data⟩ (by simp) rfl
   exact Qbj h6 rfl ⟨_,rfl,Old.refl _,⟨a1,c1,rfl,o6⟩⟩
  ·intro a W g hF hd;obtain ⟨a1,c1,a2,l2,c2,h6,o6⟩:∃a1 c1 a2 l2 c2,a.eval (.tmp 7)=.tuple #[.slice a1 ld c1,.slice a2 l2 c2]∧Row W (.slice a1 ld c1) ds:=hd ⟨6,.data⟩ (by simp) rfl
   exact Qbj h6 rfl ⟨_,rfl,Old.refl _,⟨a2,l2,c2,rfl⟩⟩
  ·intro a W g hF hd;refine Qbi ?_
   exact ⟨_,rfl,Old.refl _,hd ⟨7,.data⟩ (by simp) rfl⟩
  ·intro a W g hF hd;refine Qbi ?_
   exact ⟨_,rfl,Old.refl _,hd ⟨8,.data⟩ (by simp) rfl⟩
 ·intro a W g hF hq;obtain ⟨da,dc,h9,o9⟩:∃a' c,a.eval (.tmp 5)=.slice a' ld c∧Row W (.slice a' ld c) ds:=hq 9 (by decide)
  have hp:=Qda (show Fram 11 Qf5 b0 a from hF) (fun i j hi hj=>Qj9 i hi j hj);have hk:=HK.out (fun i=>a.eval (.tmp (Qf5 i))) W da dc g h9 o9;rw [<- hp] at hk;exact hk
def Qex (i:Nat):Nat:=[16,17,18,19,20,21,22,23,4].getD i 0
theorem Qt5:∀i,i<9->Qex i<24:=by decide
theorem Qka:∀i,i<9->∀j,j<9->Qex i=Qex j->i=j:=by decide
theorem Qt6:∀s,s<4->∀i,i<9->Qex i≠s:=by decide
def qDb (N T E:Int) (a0:Option Addr) (l0 c0:Nat) (mv:Value) (da:Option Addr) (ld dc:Nat) (PM PO:World->Value->Prop) (i:Nat) (W:World) (x:Value):Prop:=
 match i with
 | 0=>x=.agg #[.int .i64 N,.int .i64 T,.int .i64 E,.slice a0 l0 c0]
 | 1=>x=.agg #[.int .i64 N,.slice a0 l0 c0]
 | 2=>x=.agg #[.int .i64 N,.int .i64 T,.int .i64 E,.slice a0 l0 c0]
 | 3=>x=mv
 | 4=>PM W x
 | 5=>x=.slice da ld dc
 | 6=>x=.agg #[.bool false,.slice da ld dc]
 | 7=>PO W x
 | 8=>PO W x
 | _=>True
theorem Q0t (N T E:Int) (a0:Option Addr) (l0 c0:Nat) (mv:Value) (da:Option Addr) (ld dc:Nat) (PM PO:World->Value->Prop) (hM:∀W W' v,PM W v->Old W W'->PM W' v) (hO:∀W W' v,PO W v->Old W W'->PO W' v) (i:Nat) (W W':World) (x:Value) (h:qDb N T E a0 l0 c0 mv da ld dc PM PO i W x) (q:Old W W'):qDb N T E a0 l0 c0 mv da ld dc PM PO i W' x:=by
 unfold qDb at h ⊢;split at h
 case h_5=>exact hM _ _ _ h q
 case h_8=>exact hO _ _ _ h q
 case h_9=>exact hO _ _ _ h q
 all_goals first | exact h | trivial
theorem Qrn:∀i,i<9->Qex i≠5:=by decide
theorem Q2p (w0:World) (bx:Nat) (N T E:Int) (a0:Option Addr) (l0 c0:Nat) (mv:Value) (da:Option Addr) (ld dc:Nat) (PM PO:World->Value->Prop) (hM:∀W W' v,PM W v->Old W W'->PM W' v) (hO:∀W W' v,PO W v->Old W W'->PO W' v) (bX:w0.heap[bx]? = some (.cells #[.int .i64 N,.int .i64 T,.int .i64 E,.slice a0 l0 c0] 35 (0,0)))
 (KP:∀W,Old w0 W->Calls Tryz.prog 28 #[.agg #[.int .i64 N,.int .i64 T,.int .i64 E,.slice a0 l0 c0]] W fun e w'=>∃v,e=.returned v/\Old W w'/\v=.agg #[.int .i64 N,.slice a0 l0 c0])
 (KM:∀W,Old w0 W->Calls Tryz.prog 29 #[.agg #[.int .i64 N,.int .i64 T,.int .i64 E,.slice a0 l0 c0],mv] W fun e w'=>∃v,e=.returned v/\Old W w'/\PM w' v)
 (KS:∀W u,Old w0 W->PM W u->Calls Tryz.prog 60 #[.agg #[.int .i64 N,.slice a0 l0 c0],u,.agg #[.bool false,.slice da ld dc]] W fun e w'=>∃v,e=.returned v/\Old W w'/\PO w' v)
 (Q:Exit->Act->World->Prop) (b0:Act) (hsz:b0.tmps.size=24) (ha2:b0.eval (.tmp 2)=.pointer (some ⟨bx,0,none⟩)) (ha1:b0.eval (.tmp 1)=mv) (ha5:b0.eval (.tmp 5)=.slice da ld dc)
 (HK:Hid (∀(us:Nat->Value) W,Old w0 W->PO W (us 8)->Q .normal (Qah b0 ((List.range 9).map fun i=>(Qex i,us i))) W)) :
 Code.wp Tryz.prog ((Tryz.f32.body.bind (Qa0 2)).getD .skip) Q b0 w0:=by
 conv=>arg 2;whnf
 have un:=Qt6;have px:∀W,Old w0 W->W.heap[bx]? = some (.cells #[.int .i64 N,.int .i64 T,.int .i64 E,.slice a0 l0 c0] 35 (0,0)):=fun W g=>(g.block bx (lt_of_some bX)).trans bX
 refine Qdv (by kernel_rfl) (by kernel_rfl) (by kernel_rfl) Qex (fun i hi=>by rw [hsz];exact Qt5 i hi) (fun i j hi hj=>Qka i hi j hj) (qDb N T E a0 l0 c0 mv da ld dc PM PO) (Q0t N T E a0 l0 c0 mv da ld dc PM PO hM hO) ?_ ?_
 ·refine ⟨?_,?_,?_,?_,?_,?_,?_,?_,?_,trivial⟩
  ·intro a W g hF hd;refine Qcr (k:=bx) ((hF.same 2 (un 2 (by decide))).trans ha2) (px W g) Tryz.underlying35 rfl (by kernel_rfl) ?_
   exact ⟨_,rfl,Old.refl _,rfl⟩
  ·intro a W g hF hd;have h0:a.eval (.tmp 16)=.agg #[.int .i64 N,.int .i64 T,.int .i64 E,.slice a0 l0 c0]:=hd ⟨0,.data⟩ (by simp) rfl;refine Qal Tryz.call28 (vs:=#[.agg #[.int .i64 N,.int .i64 T,.int .i64 E,.slice a0 l0 c0]]) (by simp [h0]) (KP W g) ?_
   rintro x w' ⟨g',r⟩;exact ⟨_,rfl,g',r⟩
  ·intro a W g hF hd;refine Qcr (k:=bx) ((hF.same 2 (un 2 (by decide))).trans ha2) (px W g) Tryz.underlying35 rfl (by kernel_rfl) ?_
   exact ⟨_,rfl,Old.refl _,rfl⟩
  ·intro a W g hF hd;refine Qbo ?_
   exact ⟨_,rfl,Old.refl _,(hF.same 1 (un 1 (by decide))).trans ha1⟩
  ·intro a W g hF hd;have h2:a.eval (.tmp 18)=.agg #[.int .i64 N,.int .i64 T,.int .i64 E,.slice a0 l0 c0]:=hd ⟨2,.data⟩ (by simp) rfl;have h3:a.eval (.tmp 19)=mv:=hd ⟨3,.data⟩ (by simp) rfl;refine Qal Tryz.call29 (vs:=#[.agg #[.int .i64 N,.int .i64 T,.int .i64 E,.slice a0 l0 c0],mv]) (by simp [h2,h3]) (KM W g) ?_
   rintro x w' ⟨g',r⟩;exact ⟨_,rfl,g',r⟩
  ·intro a W g hF hd;refine Qbo ?_
   exact ⟨_,rfl,Old.refl _,(hF.same 5 Qrn).trans ha5⟩
  ·intro a W g hF hd;have h5:a.eval (.tmp 21)=.slice da ld dc:=hd ⟨5,.data⟩ (by simp) rfl;have hc:a.eval (.const (.bool false))=.bool false:=rfl;obtain ⟨ρ,hρ⟩:∃ρ,a.eval=ρ:=⟨_,rfl⟩
   rw [hρ] at h5 hc;refine Qai ρ hρ (.agg #[.bool false,.slice da ld dc]) ?_ ⟨_,rfl,Old.refl _,rfl⟩
   clear g hF hd hρ ha2 HK un KP KM KS px bX ha1 ha5
   go_simp
  ·intro a W g hF hd;have h1:a.eval (.tmp 17)=.agg #[.int .i64 N,.slice a0 l0 c0]:=hd ⟨1,.data⟩ (by simp) rfl;have h4:PM W (a.eval (.tmp 20)):=hd ⟨4,.data⟩ (by simp) rfl;have h6:a.eval (.tmp 22)=.agg #[.bool false,.slice da ld dc]:=hd ⟨6,.data⟩ (by simp) rfl;refine Qal Tryz.call60 (vs:=#[.agg #[.int .i64 N,.slice a0 l0 c0],a.eval (.tmp 20),.agg #[.bool false,.slice da ld dc]]) (by simp [h1,h6]) (KS W _ g h4) ?_
   rintro x w' ⟨g',r⟩;exact ⟨_,rfl,g',r⟩
  ·intro a W g hF hd;refine Qbi ?_
   exact ⟨_,rfl,Old.refl _,hd ⟨7,.data⟩ (by simp) rfl⟩
 ·intro a W g hF hq;have hp:=Qda (show Fram 9 Qex b0 a from hF) (fun i j hi hj=>Qka i hi j hj);have hk:=HK.out (fun i=>a.eval (.tmp (Qex i))) W g (hq 8 (by decide));rw [<- hp] at hk;exact hk
end Go.Proofs.YtdaepfjocofkjaaGreatDoor
namespace Go.Proofs.YtdaepfjocofkjaaGreatDoor
open Go.ChangeShapes Go.WideShapes Go.ChangeAt Go.RowKit
open M1
theorem Qx3 {N:Nat} {ps:List Int} {Rf:Nat->Int} (hR:∀k,RingOk (ps.getD k 0) N->((0<=Rf k/\Rf k<ps.getD k 0)/\(∀W,Qer W->Qbh W->Calls Tryz.prog 122 #[.int .i64 (ps.getD k 0),.int .i64 N] W fun e w'=>e=.returned (.tuple #[.agg #[.int .i64 (ps.getD k 0),.int .i64 N,.int .i64 (Rf k)],.bool true])/\Old W w'))/\∃P M R:Nat,ps.getD k 0=P/\(N:Int)=M/\Rf k=R/\R<P/\RingOk P M/\(F1.Pr P->Rt P (2*M) R)) (h:spB N ps=true):RtS N ps Rf:=fun k hk=>by
 obtain ⟨s1,s2,s3⟩:=Qc3 h;obtain ⟨_,P,M,R,e1,e2,e3,hlt,hok,hrt⟩:=hR k (s3 k hk);obtain rfl:N=M:=by omega
 have b1:=Qbq hok.md;have hP:2<=P/\P<=268435456:=by omega
 obtain ⟨r1,r2⟩:=(hrt (Qzg hok)).cg hP.1;refine ⟨P,R,e1,e3,hlt,hP,?_,r1,r2⟩;have q1:=hok.dv;have q2:=hok.sz;rcases q2 with e | e | e | e <;> rw [e] at q1 <;> omega
def addN (P:Nat) (xs ys:List Nat):List Nat:=(List.range xs.length).map fun i=>(xs.getD i 0+ys.getD i 0)%P
theorem Qt7 (Nn:Nat) (ps:List Int) (Rf:Nat->Int) (xss yss:List (List Int)) (v u1 u2:Value) (w:World) (hv:Row w v ps) (h1:Qci w u1 xss) (h2:Qci w u2 yss) (hS:Sz4 Nn) (hps:1<=ps.length/\ps.length<=6) (hrt:RtS Nn ps Rf) (lx:xss.length=ps.length) (ly:yss.length=ps.length) (hx:OkX Nn ps xss) (hy:OkX Nn ps yss) :
 Calls Tryz.prog 31 #[.agg #[.int .i64 Nn,v],u1,u2] w fun e w'=>∃v',e=.returned v'/\Old w w'/\OwS (Qi2 Nn ps xss yss) w' w.heap.size w'.heap.size v':=by
 refine Qrl Nn ps xss yss (Qi2 Nn ps xss yss) v u1 u2 w hv h1 h2 hps lx ly (Qlb _ _ _ _) (fun k hk W u t hu ht=>?_);obtain ⟨P,R,eP,eR,hlt,hP2,ho,t1,t2⟩:=hrt k hk;obtain ⟨ys,e4,la,ha⟩:=Qld hx hk eP;obtain ⟨zs,e5,lb,hb⟩:=Qld hy hk eP;rw [e4] at hu;rw [e5] at ht;rw [Qlc _ _ _ _ _ hk,eP,e4,e5,Qik,Qik,show ((P:Int).toNat)=P by omega];exact Qri P Nn 0 ys zs u t W hu ht hP2 (by unfold Sz4 at hS;omega) la lb ha hb
theorem Qo3 (Nn:Nat) (ps:List Int) (xss yss:List (List Int)) (v u1 u2:Value) (w:World) (hv:Row w v ps) (h1:Qci w u1 xss) (h2:Qci w u2 yss) (hN:Nn<=16) (hps:1<=ps.length/\ps.length<=6) (hpb:∀k,k<ps.length->2<=ps.getD k 0/\ps.getD k 0<=268435456) (lx:xss.length=ps.length) (ly:yss.length=ps.length) (hx:OkX Nn ps xss) (hy:OkX Nn ps yss) :
 Calls Tryz.prog 30 #[.agg #[.int .i64 Nn,v],u1,u2] w fun e w'=>∃v',e=.returned v'/\Old w w'/\OwS (Qb4 Qd3 ps xss yss) w' w.heap.size w'.heap.size v':=by
 refine Qrg Nn ps xss yss v u1 u2 w hv h1 h2 hps lx ly (fun k hk=>?_);obtain ⟨a1,a2⟩:=hx k hk;obtain ⟨b1,b2⟩:=hy k hk;have hp:=hpb k hk;refine ⟨by omega,by omega,hp,fun i hi=>?_⟩;have h3:=a2 i (by omega);have h4:=b2 i (by omega);omega
end Go.Proofs.YtdaepfjocofkjaaGreatDoor
