/- Proved: what its theorems say. -/
import Derived.Test.YtanijpekdnkicaaGreatDoorTc21
import Derived.Handy
import Derived.Test.YtanijpekdnkicaaGreatDoorTc15
import Derived.Test.YtanijpekdnkicaaGreatDoorTc25
import Derived.Test.YtanijpekdnkicaaGreatDoorTc10
import Derived.Deep.RegionHeld3
import Derived.Test.YtanijpekdnkicaaGreatDoorTc19
import Derived.Test.YtanijpekdnkicaaGreatDoorTc22
import Derived.Test.YtanijpekdnkicaaGreatDoorTc28
import Derived.Test.YtanijpekdnkicaaGreatDoorTc03
import Derived.Test.YtanijpekdnkicaaGreatDoorTc13
import Derived.KernelRfl
import Derived.Test.YtanijpekdnkicaaGreatDoorTc16
import Derived.Test.YtanijpekdnkicaaGreatDoorTc00
import Derived.Test.YtanijpekdnkicaaGreatDoorTc01
import Derived.Deep.RegionWith
import Derived.Deep.RegionLawGrows
import Derived.Test.YtanijpekdnkicaaGreatDoorTc02
import Derived.Test.YtanijpekdnkicaaGreatDoorTc14
import Derived.Test.YtanijpekdnkicaaGreatDoorTc11
import Derived.Maps.AppendAt
import Derived.Test.YtanijpekdnkicaaGreatDoorTc29
import Derived.Test.YtanijpekdnkicaaGreatDoorTc32
namespace Go.Proofs.YtanijpekdnkicaaGreatDoor
open Go.ChangeShapes Go.WideShapes Go.ChangeAt Go.RowKit
set_option linter.unusedVariables false
set_option linter.unusedSimpArgs false
theorem rw_parts {N:Int} {ps:List Int} {xss:List (List Int)} (h:rwB N ps xss=true):xss.length=ps.length∧∀k,k<ps.length→polyB (ps.getD k 0) N (xss.getD k [])=true:=by
 unfold rwB at h
 rw [Bool.and_eq_true] at h
 refine ⟨of_decide_eq_true h.1,fun k hk=>?_⟩
 have h2:=h.2
 unfold rwA at h2
 exact of_decide_eq_true h2 k hk (Nat.zero_le _)
theorem poly_parts {p N:Int} {xs:List Int} (h:polyB p N xs=true):(xs.length:Int)=N∧∀i,i<xs.length→0≤xs.getD i 0∧xs.getD i 0<p:=by
 unfold polyB at h
 rw [Bool.and_eq_true] at h
 refine ⟨of_decide_eq_true h.1,fun i hi=>?_⟩
 have h2:=List.all_eq_true.1 h.2 xs[i] (List.getElem_mem hi)
 rw [show xs.getD i 0=xs[i] by simp [List.getD,hi]]
 simp [resB] at h2
 omega
def CiA (zsss:List (List (List Int))) (ok:Bool) (w:World) (e:Ending) (w':World):Prop:=∃r0,e=.returned (.tuple #[.agg r0,.bool ok])∧Old w w'∧XC zsss w' w.heap.size w'.heap.size r0
theorem XC.nil2 {W:World} {lo hi:Nat} (h:hi≤W.heap.size):XC [] W lo hi #[.slice none 0 0]:=⟨none,0,rfl,Ows.nil h⟩
theorem ci_put {W:World} {k:Nat} {x:Value} {t:TypeId} (h:Bk W k #[x] t) (y:Value):Bk (W.setCell ⟨k,0,none⟩ y) k #[y] t:=(heap_setCell_same W k 0 _ _ y h).trans rfl
theorem rd_true {m:Nat} {B:Nat→Bool} (h:rdB m B=true):(2≤m∧m≤3)∧∀j,j<m→B j=true:=by
 unfold rdB at h
 rw [Bool.and_eq_true] at h
 exact ⟨of_decide_eq_true h.1,of_decide_eq_true h.2⟩
def RdX (N:Int) (ps:List Int) (Rf:Nat→Int) (xss:List (List Int)) (W:World) (v:Value):Prop:=∃us:Nat→Value,RdR W v ps.length N false ps Rf us∧∀k,k<ps.length→Row W (us k) (xss.getD k [])∧∃x c,us k=.slice x (xss.getD k []).length c
theorem RdX.old {N:Int} {ps:List Int} {Rf:Nat→Int} {xss:List (List Int)} {W W':World} {v:Value} (h:RdX N ps Rf xss W v) (g:Old W W'):RdX N ps Rf xss W' v:=by
 obtain ⟨us,h1,h2⟩:=h
 exact ⟨us,h1.old g,fun k hk=>⟨(h2 k hk).1.old g,(h2 k hk).2⟩⟩
theorem RdX.slice {N:Int} {ps:List Int} {Rf:Nat→Int} {xss:List (List Int)} {W:World} {v:Value} (h:RdX N ps Rf xss W v):∃a c,v=.slice a ps.length c:=by
 obtain ⟨us,⟨b,cap,e,_⟩,_⟩:=h
 exact ⟨_,_,e⟩
def OkX (Nn:Nat) (ps:List Int) (xss:List (List Int)):Prop:=∀k,k<ps.length→(xss.getD k []).length=Nn∧∀i,i<Nn→0≤(xss.getD k []).getD i 0∧(xss.getD k []).getD i 0<ps.getD k 0
theorem okX_rw {Nn:Nat} {ps:List Int} {xss:List (List Int)} (h:rwB Nn ps xss=true):OkX Nn ps xss:=fun k hk=>by
 obtain ⟨h1,h2⟩:=rw_parts h
 obtain ⟨p1,p2⟩:=poly_parts (h2 k hk)
 exact ⟨by omega,fun i hi=>p2 i (by omega)⟩
theorem zero_get (Nn:Nat) (ps:List Int) (k i:Nat) (hk:k<ps.length) (hi:i<Nn):((smS ps (List.replicate Nn 0)).getD k []).getD i 0=0:=by
 rw [smS_get _ _ _ hk,smR_get _ _ _ (by simpa using hi)]
 simp [List.getD,List.getElem?_replicate,hi]
theorem okX_zero {Nn:Nat} {ps:List Int} (hp:∀k,k<ps.length→2≤ps.getD k 0∧ps.getD k 0≤268435456):OkX Nn ps (smS ps (List.replicate Nn 0)):=fun k hk=>by
 refine ⟨by rw [smS_get _ _ _ hk,smR_len];simp,fun i hi=>?_⟩
 rw [zero_get Nn ps k i hk hi]
 have:=hp k hk
 omega
theorem add_part (Nn:Nat) (ps:List Int) (Rf:Nat→Int) (xss yss:List (List Int)) (v1 v2:Value) (w:World) (hN:2≤Nn∧Nn≤16) (hps:1≤ps.length∧ps.length≤6) (hpb:∀k,k<ps.length→2≤ps.getD k 0∧ps.getD k 0≤268435456) (hx:OkX Nn ps xss) (hy:OkX Nn ps yss) (h1:RdX Nn ps Rf xss w v1) (h2:RdX Nn ps Rf yss w v2) :
 Calls Tryz.prog 119 #[v1,v2,.func (.func 121) #[] #[]] w fun e w'=>∃v',e=.returned v'∧Old w w'∧Ows (TS 146 5 ps.length (elR Nn false ps Rf (pairL addF ps xss yss))) w' w.heap.size w'.heap.size [v']:=by
 obtain ⟨us,hr,hus⟩:=h1
 obtain ⟨vs,hs,hvs⟩:=h2
 refine (joined_plus Nn false ps Rf us v1 ps Rf false vs v2 ps.length w hr (fun k hk=>?_) hs (fun k hk=>?_) (by omega) (pairL addF ps xss yss) (fun k hk W g=>?_)).mono fun e w' h=>⟨_,h.1,h.2.1,h.2.2⟩
 ·obtain ⟨_,x,c,e⟩:=hus k hk
  exact ⟨x,_,c,e⟩
 ·obtain ⟨_,x,c,e⟩:=hvs k hk
  exact ⟨x,_,c,e⟩
 ·obtain ⟨r1,x,c,e⟩:=hus k hk
  obtain ⟨r2,y,d,f⟩:=hvs k hk
  rw [(hx k hk).1] at e
  rw [(hy k hk).1] at f
  rw [e] at r1 ⊢
  rw [f] at r2 ⊢
  refine (impl_plusA (ps.getD k 0) (Rf k) (ps.getD k 0) (Rf k) Nn false false Nn _ _ x y c d W (r1.old g) (r2.old g) (hpb k hk) hN (hx k hk).1 (hy k hk).1 (fun i hi=>⟨(hx k hk).2 i hi,(hy k hk).2 i hi⟩)).mono fun e w' h=>?_
  obtain ⟨g',rfl,g2,o2⟩:=h
  refine ⟨_,rfl,g2,?_⟩
  rw [pairL_get _ _ _ _ k hk]
  exact o2
set_option maxRecDepth 100000 in
set_option maxHeartbeats 4000000 in
theorem impl_timesA (p r p' N' r':Int) (Nn:Nat) (n2:Bool) (zs:List Int) (ua ub:Option Addr) (la ca lb cb:Nat) (w:World) (KC:∀W,Old w W→Calls Tryz.prog 144 #[.agg #[.int .i64 p,.int .i64 Nn,.int .i64 r],.slice ua la ca,.slice ub lb cb] W fun e w'=>∃v',e=.returned v'∧Old W w'∧Own w' W.heap.size v' zs) (hz:zs.length=Nn) (h0:0<Nn) :
 Calls Tryz.prog 120 #[.agg #[.int .i64 p,.int .i64 Nn,.int .i64 r,.bool false,.slice ua la ca],.agg #[.int .i64 p',.int .i64 N',.int .i64 r',.bool n2,.slice ub lb cb]] w fun e w'=>∃v',e=.returned v'∧Old w w'∧Own w' w.heap.size v' zs:=by
 obtain ⟨wB,hwB⟩:∃wB,wB=(w.alloc (.cells #[.int .i64 p,.int .i64 Nn,.int .i64 r,.bool false,.slice ua la ca] 146)).alloc (.cells #[.int .i64 p',.int .i64 N',.int .i64 r',.bool n2,.slice ub lb cb] 146):=⟨_,rfl⟩
 have HWB:Hid (Old w wB):=by rw [hwB];exact ((Old.refl w).alloc _).alloc _
 have kc:=KC wB HWB.out
 clear KC
 go_enter Tryz.func120,Tryz.ntmps120
 go_wp2_with fail
 rw [← hwB]
 refine kc.mono ?_
 rintro e w2 ⟨v2,rfl,g2,o2⟩
 have HG2:Hid (Old w w2):=Old.trans HWB.out g2
 obtain ⟨g,cp,e2,hcp⟩:=own_some o2 (by omega)
 rw [hz] at e2 hcp
 subst e2
 have HO2:Hid (Own w2 w.heap.size (.slice (some ⟨g,0,none⟩) Nn cp) zs):=o2.low HWB.out.size
 clear g2 o2
 go_wp2_with fail
 go_ret
 exact ⟨_,rfl,HG2.out,HO2.out⟩
end Go.Proofs.YtanijpekdnkicaaGreatDoor
namespace Go.Proofs.YtanijpekdnkicaaGreatDoor
open Go.ChangeShapes Go.WideShapes Go.ChangeAt Go.RowKit
set_option linter.unusedVariables false
set_option linter.unusedSimpArgs false
open M1
theorem toZ_bk (ys:List Nat):(toZ ys).map Int.toNat=ys:=by
 rw [toZ,List.map_map]
 refine (List.map_congr_left fun x hx=>?_).trans (List.map_id ys)
 simp
def mulL (N:Nat) (ps:List Int) (xss yss:List (List Int)):List (List Int):=(List.range ps.length).map fun k=>toZ (muO (ps.getD k 0).toNat N ((xss.getD k []).map Int.toNat) ((yss.getD k []).map Int.toNat) N)
theorem mulL_len (N:Nat) (ps:List Int) (xss yss:List (List Int)):(mulL N ps xss yss).length=ps.length:=by simp [mulL]
theorem mulL_get (N:Nat) (ps:List Int) (xss yss:List (List Int)) (k:Nat) (hk:k<ps.length):(mulL N ps xss yss).getD k []=toZ (muO (ps.getD k 0).toNat N ((xss.getD k []).map Int.toNat) ((yss.getD k []).map Int.toNat) N):=by
 simp [mulL,List.getD,hk]
def RtS (N:Nat) (ps:List Int) (Rf:Nat→Int):Prop:=∀k,k<ps.length→∃P R:Nat,ps.getD k 0=P∧Rf k=R∧R<P∧(2≤P∧P≤268435456)∧P%2=1∧Cg P ((R:Int)^(2*N)) 1∧Cg P ((R:Int)^N) (-1)
theorem hidP {P:Prop} (h:P):Hid P:=h
def Mx (Nn:Nat) (ps:List Int) (Rf:Nat→Int) (zss:List (List Int)) (base:Nat) (W:World) (v:Value):Prop:=∃hi,Ows (TS 146 5 ps.length (elR Nn false ps Rf zss)) W base hi [v]
theorem Mx.low {Nn:Nat} {ps:List Int} {Rf:Nat→Int} {zss:List (List Int)} {base lo:Nat} {W:World} {v:Value} (h:Mx Nn ps Rf zss base W v) (q:lo≤base):Mx Nn ps Rf zss lo W v:=by
 obtain ⟨hi,h⟩:=h
 exact ⟨hi,Ows.low h q (Nat.le_refl _) h.1⟩
theorem Mx.rd {Nn:Nat} {ps:List Int} {Rf:Nat→Int} {zss:List (List Int)} {base:Nat} {W:World} {v:Value} (hm:1≤ps.length) (h:Mx Nn ps Rf zss base W v):RdX Nn ps Rf zss W v:=by
 obtain ⟨hi,h⟩:=h
 exact Ows.rd hm h
theorem okX_toZ {Nn:Nat} {ps:List Int} {xss:List (List Int)} {P:Nat} {k:Nat} (h:OkX Nn ps xss) (hk:k<ps.length) (hP:ps.getD k 0=P):∃ys:List Nat,xss.getD k []=toZ ys∧ys.length=Nn∧∀y∈ys,y<P:=by
 obtain ⟨hl,hb⟩:=h k hk
 generalize hx:xss.getD k []=xs at *
 refine ⟨xs.map Int.toNat,?_,by simpa using hl,fun y hy=>?_⟩
 ·unfold toZ
  rw [List.map_map]
  refine ((List.map_congr_left fun x hx=>?_).trans (List.map_id xs)).symm
  obtain ⟨i,hi,rfl⟩:=List.getElem_of_mem hx
  have:=(hb i (by omega)).1
  rw [show xs.getD i 0=xs[i] by simp [List.getD,hi]] at this
  simp
  omega
 ·obtain ⟨x,hx,rfl⟩:=List.mem_map.1 hy
  obtain ⟨i,hi,rfl⟩:=List.getElem_of_mem hx
  have:=hb i (by omega)
  rw [show xs.getD i 0=xs[i] by simp [List.getD,hi],hP] at this
  omega
theorem okX_of {Nn:Nat} {ps:List Int} {xss:List (List Int)} (h:∀k,k<ps.length→∃(P:Nat) (ys:List Nat),ps.getD k 0=P∧xss.getD k []=toZ ys∧ys.length=Nn∧∀y∈ys,y<P):OkX Nn ps xss:=fun k hk=>by
 obtain ⟨P,ys,e1,e2,hl,hlt⟩:=h k hk
 rw [e1,e2]
 refine ⟨by rw [toZ_len];exact hl,fun i hi=>?_⟩
 have e:(toZ ys).getD i 0=((ys.getD i 0:Nat):Int):=by simp [toZ,List.getD,show i<ys.length by omega]
 have hm:ys.getD i 0∈ys:=by simp [List.getD,show i<ys.length by omega]
 have:=hlt _ hm
 rw [e]
 omega
theorem okX_mul {Nn:Nat} {ps:List Int} {Rf:Nat→Int} {xss yss:List (List Int)} (hrt:RtS Nn ps Rf):OkX Nn ps (mulL Nn ps xss yss):=okX_of fun k hk=>by
 obtain ⟨P,R,eP,eR,hlt,hP2,ho,t1,t2⟩:=hrt k hk
 refine ⟨P,_,eP,by rw [mulL_get _ _ _ _ _ hk],muO_len _ _ _ _ _,?_⟩
 rw [eP]
 exact muO_lt _ _ _ _ (by omega) _
theorem okX_add {Nn:Nat} {ps:List Int} {xss yss:List (List Int)} (hpb:∀k,k<ps.length→2≤ps.getD k 0∧ps.getD k 0≤268435456) (hx:OkX Nn ps xss):OkX Nn ps (pairL addF ps xss yss):=fun k hk=>by
 rw [pairL_get _ _ _ _ _ hk,pairR_len]
 refine ⟨(hx k hk).1,fun i hi=>?_⟩
 rw [pairR_get _ _ _ _ _ (by rw [(hx k hk).1];exact hi)]
 have:=hpb k hk
 exact ⟨Int.emod_nonneg _ (by omega),Int.emod_lt_of_pos _ (by omega)⟩
theorem okX_small {Nn:Nat} {ps ss:List Int} (hpb:∀k,k<ps.length→2≤ps.getD k 0∧ps.getD k 0≤268435456) (hs:ss.length=Nn):OkX Nn ps (smS ps ss):=fun k hk=>by
 rw [smS_get _ _ _ hk,smR_len]
 refine ⟨hs,fun i hi=>?_⟩
 rw [smR_get _ _ _ (by omega)]
 have:=hpb k hk
 exact ⟨Int.emod_nonneg _ (by omega),Int.emod_lt_of_pos _ (by omega)⟩
theorem mul_x (Nn:Nat) (ps:List Int) (Rf:Nat→Int) (xss yss:List (List Int)) (v1 v2:Value) (w:World) (hT:TabW w) (hS:Sz4 Nn) (hps:1≤ps.length∧ps.length≤6) (hrt:RtS Nn ps Rf) (hx:OkX Nn ps xss) (hy:OkX Nn ps yss) (h1:RdX Nn ps Rf xss w v1) (h2:RdX Nn ps Rf yss w v2) :
 Calls Tryz.prog 119 #[v1,v2,.func (.func 120) #[] #[]] w fun e w'=>∃v',e=.returned v'∧Old w w'∧Mx Nn ps Rf (mulL Nn ps xss yss) w.heap.size w' v':=by
 obtain ⟨us,hr,hus⟩:=h1
 obtain ⟨vs,hs,hvs⟩:=h2
 have hN:2≤Nn∧Nn≤16:=by unfold Sz4 at hS;omega
 refine (joined_times Nn false ps Rf us v1 ps Rf false vs v2 ps.length w hr (fun k hk=>?_) hs (fun k hk=>?_) (by omega) (mulL Nn ps xss yss) (fun k hk W g=>?_)).mono fun e w' h=>⟨_,h.1,h.2.1,_,h.2.2⟩
 ·obtain ⟨_,x,c,e⟩:=hus k hk
  exact ⟨x,_,c,e⟩
 ·obtain ⟨_,x,c,e⟩:=hvs k hk
  exact ⟨x,_,c,e⟩
 ·obtain ⟨r1,x,c,e⟩:=hus k hk
  obtain ⟨r2,y,d,f⟩:=hvs k hk
  obtain ⟨P,R,eP,eR,hlt,hP2,ho,t1,t2⟩:=hrt k hk
  obtain ⟨ys,e4,la,ha⟩:=okX_toZ hx hk eP
  obtain ⟨zs,e5,lb,hb⟩:=okX_toZ hy hk eP
  rw [(hx k hk).1] at e
  rw [(hy k hk).1] at f
  rw [e] at r1 ⊢
  rw [f] at r2 ⊢
  rw [mulL_get _ _ _ _ _ hk]
  rw [e4] at r1 ⊢
  rw [e5] at r2 ⊢
  rw [eP,eR,toZ_bk,toZ_bk,show ((P:Int).toNat)=P by omega]
  refine impl_timesA P R P Nn R Nn false _ x y Nn c Nn d W (fun W' g'=>?_) (by rw [toZ_len,muO_len]) (by omega)
  exact impl_product P Nn R ys zs _ _ W' (hT.old (Old.trans g g')) (r1.old (Old.trans g g')) (r2.old (Old.trans g g')) hP2 ho hS hlt la lb ha hb t1 t2
theorem add_x (Nn:Nat) (ps:List Int) (Rf:Nat→Int) (xss yss:List (List Int)) (v1 v2:Value) (w:World) (hN:2≤Nn∧Nn≤16) (hps:1≤ps.length∧ps.length≤6) (hpb:∀k,k<ps.length→2≤ps.getD k 0∧ps.getD k 0≤268435456) (hx:OkX Nn ps xss) (hy:OkX Nn ps yss) (h1:RdX Nn ps Rf xss w v1) (h2:RdX Nn ps Rf yss w v2) :
 Calls Tryz.prog 119 #[v1,v2,.func (.func 121) #[] #[]] w fun e w'=>∃v',e=.returned v'∧Old w w'∧Mx Nn ps Rf (pairL addF ps xss yss) w.heap.size w' v':=
 (add_part Nn ps Rf xss yss v1 v2 w hN hps hpb hx hy h1 h2).mono fun e w' h=>by
  obtain ⟨v',e1,g,o⟩:=h
  exact ⟨v',e1,g,_,o⟩
def ppL (Nn:Nat) (ps:List Int) (xss yss zss:List (List Int)):List (List Int):=pairL addF ps xss (mulL Nn ps yss zss)
set_option maxRecDepth 100000 in
set_option maxHeartbeats 4000000 in
theorem plusProduct_x (Nn:Nat) (ps:List Int) (Rf:Nat→Int) (xss yss zss:List (List Int)) (v0 v1 v2:Value) (w:World) (hT:TabW w) (hS:Sz4 Nn) (hps:1≤ps.length∧ps.length≤6) (hpb:∀k,k<ps.length→2≤ps.getD k 0∧ps.getD k 0≤268435456) (hrt:RtS Nn ps Rf) (hx:OkX Nn ps xss) (hy:OkX Nn ps yss) (hz:OkX Nn ps zss) (h0:RdX Nn ps Rf xss w v0) (h1:RdX Nn ps Rf yss w v1) (h2:RdX Nn ps Rf zss w v2) :
 Calls Tryz.prog 88 #[v0,v1,v2] w fun e w'=>∃v',e=.returned v'∧Old w w'∧Mx Nn ps Rf (ppL Nn ps xss yss zss) w.heap.size w' v':=by
 have hN:2≤Nn∧Nn≤16:=by unfold Sz4 at hS;omega
 have K1:=hidP (mul_x Nn ps Rf yss zss v1 v2 w hT hS hps hrt hy hz h1 h2)
 have K2:=hidP (fun W v (g:Old w W) (h:RdX Nn ps Rf (mulL Nn ps yss zss) W v)=>add_x Nn ps Rf xss (mulL Nn ps yss zss) v0 v W hN hps hpb hx (okX_mul hrt) (h0.old g) h)
 obtain ⟨a0,c0,rfl⟩:=h0.slice
 obtain ⟨a1,c1,rfl⟩:=h1.slice
 obtain ⟨a2,c2,rfl⟩:=h2.slice
 have hm:Hid (1≤ps.length):=hps.1
 clear hT hS hps hpb hrt hx hy hz h0 h1 h2 hN
 go_enter Tryz.func88,Tryz.ntmps88
 go_wp2_with fail
 refine K1.out.mono ?_
 rintro e w1 ⟨v',rfl,g1,o1⟩
 have G1:=hidP g1
 have M1':=hidP (o1.rd hm.out)
 obtain ⟨a3,c3,rfl⟩:=M1'.out.slice
 clear g1 o1 K1
 go_wp2_with fail
 refine (K2.out _ _ G1.out M1'.out).mono ?_
 rintro e w2 ⟨v',rfl,g2,o2⟩
 have G2:=hidP (Old.trans G1.out g2)
 have M2':=hidP (o2.low G1.out.size)
 obtain ⟨a4,c4,rfl⟩:=(o2.rd hm.out).slice
 clear g2 o2 K2
 go_wp2_with fail
 go_ret
 exact ⟨_,rfl,G2.out,M2'.out⟩
theorem ta_22 (L:Nat) (g0 g1:Option Addr) (W:World):Sem.run Tryz.prog (Instr.typeAssert (if2 L g0 g1) 134 95 true) W=.ok (.tuple #[.agg #[.slice g0 L L,.slice g1 L L],.bool true]) W:=by kernel_rfl
theorem ta_32 (L:Nat) (g0 g1 g2:Option Addr) (W:World):Sem.run Tryz.prog (Instr.typeAssert (if3 L g0 g1 g2) 134 95 true) W=.ok (.tuple #[.agg #[.slice none 0 0,.slice none 0 0],.bool false]) W:=by kernel_rfl
end Go.Proofs.YtanijpekdnkicaaGreatDoor
namespace Go.Proofs.YtanijpekdnkicaaGreatDoor
open Go.ChangeShapes Go.WideShapes Go.ChangeAt Go.RowKit
open M1
set_option linter.unusedVariables false
set_option linter.unusedSimpArgs false
theorem OwS.ats {xss:List (List Int)} {W:World} {lo hi:Nat} {v:Value} (ps:List Int) (h:OwS xss W lo hi v):∃us cs,0<xss.length→RowsAt W v ps xss us cs:=by
 rcases Nat.eq_zero_or_pos xss.length with h0 | h0
 ·exact ⟨fun _=>none,fun _=>0,fun h=>by omega⟩
 ·obtain ⟨us,cs,h⟩:=h.at ps h0
  exact ⟨us,cs,fun _=>h⟩
end Go.Proofs.YtanijpekdnkicaaGreatDoor
namespace Go.Proofs.YtanijpekdnkicaaGreatDoor
open Go.ChangeShapes Go.WideShapes Go.ChangeAt Go.RowKit
set_option linter.unusedVariables false
set_option linter.unusedSimpArgs false
theorem RdX_ofZ {base Nn:Nat} {ps:List Int} {Rf:Nat→Int} {uf:Nat→Nat→Option Addr} {cf:Nat→Nat} {j:Nat} {W:World} {gp:Option Addr} {v2:Value} {xss:List (List Int)} (hN:2≤Nn∧Nn≤16) (hph:PhG base Nn ps Rf uf j W gp) (hra:RowsAt W v2 ps xss (uf j) cf) (hrw:rwB Nn ps xss=true):RdX Nn ps Rf xss W (.slice gp ps.length ps.length):=by
 obtain ⟨gn,rfl,_,hrr⟩:=hph
 obtain ⟨bb,cc,_,hbb,hrow⟩:=hra
 obtain ⟨hxl,hpoly⟩:=rw_parts hrw
 refine ⟨_,hrr.rd,fun k hk=>?_⟩
 obtain ⟨q1,q2⟩:=poly_parts (hpoly k hk)
 have hlx:(xss.getD k []).length=Nn:=by omega
 obtain ⟨_,hcf,r2⟩:=hrow k (by omega)
 rw [hlx] at r2
 rw [show ((Nn:Int).toNat)=Nn by omega,hlx]
 exact ⟨r2.recap (by intro h;rw [h] at hlx;simp at hlx;omega),_,_,rfl⟩
def CiF (Nn:Nat) (ps:List Int) (Rf:Nat→Int) (xsss:List (List (List Int))) (W:World) (IF:Value):Prop:=
 (xsss.length=2∧∃g0 g1,IF=if2 ps.length g0 g1∧RdX Nn ps Rf (xsss.getD 0 []) W (.slice g0 ps.length ps.length)∧RdX Nn ps Rf (xsss.getD 1 []) W (.slice g1 ps.length ps.length))∨
 (xsss.length=3∧∃g0 g1 g2,IF=if3 ps.length g0 g1 g2∧RdX Nn ps Rf (xsss.getD 0 []) W (.slice g0 ps.length ps.length)∧RdX Nn ps Rf (xsss.getD 1 []) W (.slice g1 ps.length ps.length)∧RdX Nn ps Rf (xsss.getD 2 []) W (.slice g2 ps.length ps.length))
def CiI (xsss:List (List (List Int))) (ps:List Int) (w:World) (a1:Option Addr) (au:Nat→Option Addr) (cu:Nat→Nat) (uf:Nat→Nat→Option Addr) (cf:Nat→Nat→Nat):Prop:=0<xsss.length→∃b,a1=some ⟨b,0,none⟩∧PaT w b ps xsss au cu uf cf
theorem CiI.old {xsss:List (List (List Int))} {ps:List Int} {w W:World} {a1:Option Addr} {au:Nat→Option Addr} {cu:Nat→Nat} {uf:Nat→Nat→Option Addr} {cf:Nat→Nat→Nat} (h:CiI xsss ps w a1 au cu uf cf) (q:Old w W):CiI xsss ps W a1 au cu uf cf:=fun h0=>by
 obtain ⟨b,e,hp⟩:=h h0
 exact ⟨b,e,hp.old q⟩
theorem CiI.of {xsss:List (List (List Int))} {w:World} {lo hi:Nat} {a1:Option Addr} {c1:Nat} (ps:List Int) (hu:Ows (TTT xsss) w lo hi [.slice a1 xsss.length c1]):∃au cu uf cf,CiI xsss ps w a1 au cu uf cf:=by
 rcases Nat.eq_zero_or_pos xsss.length with h0 | h0
 ·exact ⟨fun _=>none,fun _=>0,fun _ _=>none,fun _ _=>0,fun h=>by omega⟩
 ·obtain ⟨_,B,hT,_⟩:=hu
  obtain ⟨b,cap,au,cu,uf,cf,e,hp⟩:=TTT.at ps hT h0
  simp only [Value.slice.injEq,true_and] at e
  exact ⟨au,cu,uf,cf,fun _=>⟨b,e.1,hp⟩⟩
def RcA (Nn:Nat) (ps:List Int) (Rf:Nat→Int) (xsss:List (List (List Int))) (w:World) (e:Ending) (w':World):Prop:=
 Old w w'∧((ciB Nn ps xsss=false∧e=.returned (.tuple #[.nilIface,.bool false]))∨(ciB Nn ps xsss=true∧∃IF,e=.returned (.tuple #[IF,.bool true])∧CiF Nn ps Rf xsss w' IF))
theorem read_cif (Nn:Nat) (T E:Int) (a3:Option Addr) (l3 c3:Nat) (gr:Nat) (b5:Bool) (a6:Option Addr) (l6 c6:Nat) (a1:Option Addr) (cap1:Nat) (w:World) (ps:List Int) (Rf:Nat→Int) (xsss:List (List (List Int))) (au:Nat→Option Addr) (cu:Nat→Nat) (uf:Nat→Nat→Option Addr) (cf:Nat→Nat→Nat)
 (hm:xsss.length≤1048576) (hr:∀r∈xsss,r.length≤1048576∧∀q∈r,q.length≤1048576) (hpa:CiI xsss ps w a1 au cu uf cf)
 (hrg:Rgs w gr Nn ps Rf ps.length) (hsp:spB Nn ps=true) (hN:2≤Nn∧Nn≤16) (hps:1≤ps.length∧ps.length≤6) :
 Calls Tryz.prog 84 #[.agg #[.int .i64 Nn,.int .i64 T,.int .i64 E,.slice a3 l3 c3,.slice (some ⟨gr,0,none⟩) ps.length ps.length,.bool b5,.slice a6 l6 c6],.agg #[.slice a1 xsss.length cap1]] w (RcA Nn ps Rf xsss w):=by
 refine (read_good Nn T E a3 l3 c3 gr b5 a6 l6 c6 a1 cap1 w ps Rf xsss au cu uf cf hm hr hpa hrg hsp).mono fun e w' h=>?_
 obtain ⟨g,h⟩:=h
 refine ⟨g,?_⟩
 have key:∀j gp,j<xsss.length→rdB xsss.length (fun j=>rwB Nn ps (xsss.getD j []))=true→PhG w.heap.size Nn ps Rf uf j w' gp→RdX Nn ps Rf (xsss.getD j []) w' (.slice gp ps.length ps.length):=fun j gp hj hC hph=>by
  have hrw:=(rd_true hC).2 j hj
  obtain ⟨b,_,hp⟩:=hpa (by omega)
  have hxl:=(rw_parts hrw).1
  have hat:=(hp.2 j hj).2 (by omega)
  exact RdX_ofZ hN hph (hat.old g) hrw
 rcases h with ⟨hC,e1⟩ | ⟨hC,hm2,g0,g1,e1,p0,p1⟩ | ⟨hC,hm3,g0,g1,g2,e1,p0,p1,p2⟩
 ·exact .inl ⟨hC,e1⟩
 ·exact .inr ⟨hC,_,e1,.inl ⟨hm2,g0,g1,rfl,key 0 g0 (by omega) hC p0,key 1 g1 (by omega) hC p1⟩⟩
 ·exact .inr ⟨hC,_,e1,.inr ⟨hm3,g0,g1,g2,rfl,key 0 g0 (by omega) hC p0,key 1 g1 (by omega) hC p1,key 2 g2 (by omega) hC p2⟩⟩
theorem ci_okX {Nn:Nat} {ps:List Int} {xsss:List (List (List Int))} (h:ciB Nn ps xsss=true) (j:Nat) (hj:j<xsss.length):OkX Nn ps (xsss.getD j []):=okX_rw ((rd_true h).2 j hj)
set_option maxRecDepth 100000 in
set_option maxHeartbeats 4000000 in
theorem spec_l8GoodPair (N T E:Int) (ps:List Int) (xss yss:List (List Int)) (a0:Option Addr) (c0:Nat) (aA aB:Option Addr) (cA cB:Nat) (w:World) (hv:Row w (.slice a0 ps.length c0) ps) (hx:RowS w (.slice aA xss.length cA) xss) (hy:RowS w (.slice aB yss.length cB) yss) (hlx:xss.length≤1048576) (hrx:∀r∈xss,r.length≤1048576) (hly:yss.length≤1048576) (hry:∀r∈yss,r.length≤1048576) (hs:spB N ps=true) :
 Calls Tryz.prog 77 #[.agg #[.int .i64 N,.int .i64 T,.int .i64 E,.slice a0 ps.length c0],.agg #[.slice aA xss.length cA,.slice aB yss.length cB]] w fun e w'=>e=.returned (.bool (rwB N ps xss&&rwB N ps yss))∧Old w w':=by
 have K1:=hidP (fun W=>l8Space_any N T E a0 ps.length c0 W)
 have K2:=hidP (fun W (q:Old w W)=>spec_l5Rows N ps xss _ _ W (hv.old q) (hx.old q) hlx hrx hs)
 have K3:=hidP (fun W (q:Old w W)=>spec_l5Rows N ps yss _ _ W (hv.old q) (hy.old q) hly hry hs)
 have HA:Hid (Old w ((w.alloc (.cells #[.int .i64 N,.int .i64 T,.int .i64 E,.slice a0 ps.length c0] 35)).alloc (.cells #[.slice aA xss.length cA,.slice aB yss.length cB] 77))):=((Old.refl w).alloc _).alloc _
 have BP:Hid (Bk ((w.alloc (.cells #[.int .i64 N,.int .i64 T,.int .i64 E,.slice a0 ps.length c0] 35)).alloc (.cells #[.slice aA xss.length cA,.slice aB yss.length cB] 77)) (w.heap.size+1) #[.slice aA xss.length cA,.slice aB yss.length cB] 77):=Bk.new' _ _ _ (by simp)
 clear hv hx hy hrx hry hs
 generalize rwB N ps xss=b1 at *
 generalize rwB N ps yss=b2 at *
 cases b1
 all_goals
  go_enter Tryz.func77,Tryz.ntmps77
  go_wp2_with fail
  refine (K1.out _).mono ?_
  rintro e w1 ⟨rfl,g1⟩
  obtain ⟨B1,hB1⟩:∃B:World,w1.alloc (.cells #[.int .i64 N,.slice a0 ps.length c0] 104)=B:=⟨_,rfl⟩
  have O1:Old w1 B1:=by rw [← hB1];exact (Old.refl w1).alloc _
  have X1:Hid (Bk B1 w1.heap.size #[.int .i64 N,.slice a0 ps.length c0] 104):=by rw [← hB1];exact Bk.new' w1 _ _ rfl
  have HG1:=hidP (Old.trans HA.out (Old.trans g1 O1))
  have P1:=hidP (BP.out.old (Old.trans g1 O1))
  obtain ⟨k1,hk1⟩:∃k,w1.heap.size=k:=⟨_,rfl⟩
  rw [hk1] at X1
  have z0:=P1.out.c (i:=0) rfl
  have z1:=P1.out.c (i:=1) rfl
  have x0:=X1.out.c (i:=0) rfl
  have x1:=X1.out.c (i:=1) rfl
  clear g1 O1 K1 HA BP
  go_wp2_with fail
  refine (K2.out _ HG1.out).mono ?_
  rintro e w2 ⟨rfl,g2⟩
  have HG2:=hidP (Old.trans HG1.out g2)
  have P2:=hidP (P1.out.old g2)
  have X2:=hidP (X1.out.old g2)
  clear z0 z1 x0 x1 g2 K2 P1 X1 hB1 hk1
  have z1:=P2.out.c (i:=1) rfl
  have x0:=X2.out.c (i:=0) rfl
  have x1:=X2.out.c (i:=1) rfl
  go_wp2_with fail
 ·go_ret
  exact ⟨rfl,HG2.out⟩
 ·refine (K3.out _ HG2.out).mono ?_
  rintro e w3 ⟨rfl,g3⟩
  have HG3:=hidP (Old.trans HG2.out g3)
  clear g3
  go_wp2_with fail
  go_ret
  exact ⟨by simp,HG3.out⟩
theorem op_valW2 {P:Program} {a:Act} {W W':World} {K:Act→World→Prop} {Q:Exit→Act→World→Prop} {o:Oper} (ρ:Operand→Value) (hρ:a.eval=ρ) (v:Value) (hr:(execOp ρ o).run P W=.ok (.value v) W') (hK:K (a.put o.dst v) W'):o.wp P a W K Q:=by
 unfold Oper.wp
 rw [hρ,hr]
 exact hK
end Go.Proofs.YtanijpekdnkicaaGreatDoor
namespace Go.Proofs.YtanijpekdnkicaaGreatDoor
open Go.ChangeShapes Go.WideShapes Go.ChangeAt Go.RowKit
open M1
set_option linter.unusedVariables false
set_option linter.unusedSimpArgs false
set_option maxRecDepth 100000 in
set_option maxHeartbeats 8000000 in
theorem spec_l8Small (N T E:Int) (ps:List Int) (xs:List Int) (v u1:Value) (w:World) (hv:Row w v ps) (h1:Row w u1 xs) (hps:1≤ps.length∧ps.length≤6) (hxl:1≤xs.length∧xs.length≤16)
 (hr:∀k,k<ps.length→2≤ps.getD k 0∧ps.getD k 0≤268435456) (hxb:∀i,i<xs.length→-1099511627776≤xs.getD i 0∧xs.getD i 0≤1099511627776) :
 Calls Tryz.prog 57 #[.agg #[.int .i64 N,.int .i64 T,.int .i64 E,v],u1] w fun e w'=>∃v',e=.returned v'∧Old w w'∧OwS (smS ps xs) w' w.heap.size w'.heap.size v':=by
 obtain ⟨i0,hi,hz0,hz1,hz2⟩:=info_parts Tryz.infoInt
 obtain ⟨j0,ji,jz0,jz1,jz2⟩:=info_parts Tryz.infoInts
 have HR:Hid (∀k,k<ps.length→2≤ps.getD k 0∧ps.getD k 0≤268435456):=hr
 have HB:Hid (∀i,i<xs.length→-1099511627776≤xs.getD i 0∧xs.getD i 0≤1099511627776):=hxb
 have R1:Hid (Row w u1 xs):=h1
 obtain ⟨a0,cap0,ev⟩:=hv.slice
 subst ev
 rcases hv with ⟨a,cap,e,e'⟩ | ⟨b,o,cap,e,hb,h0,hc⟩
 ·subst e'
  simp at hps
 rcases h1 with ⟨a,cap,e,e'⟩ | ⟨b3,o3,cap3,e_1,hb3,h03,hc3⟩
 ·subst e'
  simp at hxl
 simp only [Value.slice.injEq,true_and] at e
 obtain ⟨rfl,rfl⟩:=e
 subst e_1
 have HC:Hid (∀j,j<ps.length→w.cell? ⟨b,o+j,none⟩=some (.int .i64 (ps.getD j 0))):=hc
 have HC3:Hid (∀j,j<xs.length→w.cell? ⟨b3,o3+j,none⟩=some (.int .i64 (xs.getD j 0))):=hc3
 have HZ:Hid (∀k,k<ps.length→(smS ps xs).take (k+1)=(smS ps xs).take k++[smR (ps.getD k 0) xs]):=fun k hk=>by
  rw [take_succL _ _ (by rw [smS_len];exact hk),smS_get _ _ _ hk]
 have HZL:Hid ((smS ps xs).length=ps.length):=smS_len _ _
 generalize smS ps xs=zss at *
 clear hc hc3 hr hxb
 have HAO:Hid (Old w (w.alloc (.cells #[.int .i64 N,.int .i64 T,.int .i64 E,.slice (some ⟨b,o,none⟩) ps.length cap0] 35))):=(Old.refl w).alloc _
 go_enter Tryz.func57,Tryz.ntmps57
 go_wp2_with fail
 go_loopw [5,14] (fun x i W=>∃(k:Nat) (a:Option Addr) (cap:Nat),k≤ps.length∧i=.int .i64 k∧x=.slice a k cap∧Hid (OwS (zss.take k) W w.heap.size W.heap.size (.slice a k cap))∧Hid (Old w W)) (fun _ i _=>ps.length - (intOf i).toNat)
 case atStart=>exact ⟨0,none,0,by omega,rfl,rfl,⟨Nat.le_refl _,Or.inl ⟨rfl,by simp⟩⟩,HAO⟩
 case round=>
  obtain ⟨k,a,cap,hk,rfl,rfl,HO,HG⟩:=hrel
  have hsr:=HG.out.size
  by_cases hlt:k<ps.length
  ·have d1:decide ((k:Int)<(ps.length:Int))=true:=by simp;omega
   have r3:=HR.out k hlt
   have c0:wr.cell? ⟨b,o+k,none⟩=some (.int .i64 (ps.getD k 0)):=(HG.out.cell (p:=⟨b,o+k,none⟩) hb).trans (HC.out k hlt)
   have HC4:Hid (∀j,j<xs.length→wr.cell? ⟨b3,o3+j,none⟩=some (.int .i64 (xs.getD j 0))):=fun j hj=>(HG.out.cell (p:=⟨b3,o3+j,none⟩) hb3).trans (HC3.out j hj)
   have HT:Hid (∀i,i<xs.length→(smR (ps.getD k 0) xs).take (i+1)=(smR (ps.getD k 0) xs).take i++[xs.getD i 0%ps.getD k 0]):=fun i hi'=>by
    rw [take_succI _ _ (by rw [smR_len];exact hi'),smR_get _ _ _ hi']
   have HTL:Hid ((smR (ps.getD k 0) xs).length=xs.length):=smR_len _ _
   have HZK:Hid (zss.take (k+1)=zss.take k++[smR (ps.getD k 0) xs]):=HZ.out k hlt
   have hbr3:b3<wr.heap.size:=by omega
   generalize smR (ps.getD k 0) xs=zs at *
   generalize ps.getD k 0=p at *
   have HEMB:Hid (∀(W:World) (ra:Option Addr) (rc:Nat),Old wr W→Own W wr.heap.size (.slice ra zs.length rc) zs→zs.length≤rc→∃vs,W.ownsRow w.heap.size 22 1 (.slice a k cap) k vs∧(∀v' w',w'.ownsRow w.heap.size 22 1 v' (k+1) (vs++[.slice ra zs.length rc])→W.grownBy w' (Value.slice a k cap).ownBlock→(v'.ownBlock=(Value.slice a k cap).ownBlock∨v'.ownBlock=some W.heap.size)→OwS (zss.take (k+1)) w' w.heap.size w'.heap.size v')):=fun W ra rc g o hc=>by
    have hl:(zss.take k).length=k:=by rw [List.length_take];have:=HZL.out;omega
    have:=OwS.app HO.out hsr g o hc
    rw [hl] at this
    rw [HZK.out]
    exact this
   have HOB:Hid (∀p,(Value.slice a k cap).ownBlock=some p→w.heap.size≤p):=fun p hp=>by
    obtain ⟨hh,⟨e,e2⟩ | ⟨p',cap',vs,e,hcap,hl,hhi,_⟩⟩:=HO.out
    ·rw [e] at hp
     cases hp
    ·rw [e] at hp
     simp only [Value.ownBlock,Option.some.injEq] at hp
     omega
   rename World=>wq
   go_wp2_with fail
   go_loopw [8,20] (fun x i W=>∃(j:Nat) (a:Option Addr) (cap:Nat),j≤xs.length∧i=.int .i64 j∧x=.slice a j cap∧Hid (Own W wq.heap.size (.slice a j cap) (zs.take j))∧Hid (Old wq W)) (fun _ i _=>xs.length - (intOf i).toNat)
   case atStart=>exact ⟨0,none,0,by omega,rfl,rfl,(by exact own_nil _ _),Old.refl _⟩
   case round=>
    obtain ⟨j,ra,rc,hj,rfl,rfl,HO2,HG2⟩:=hrel
    have hs2:=HG2.out.size
    by_cases hjl:j<xs.length
    ·have d2:decide ((j:Int)<(xs.length:Int))=true:=by simp;omega
     obtain ⟨bx1,bx2⟩:=HB.out j hjl
     have HT1:=HT.out j hjl
     have k3:wr.cell? ⟨b3,o3+j,none⟩=some (.int .i64 (xs.getD j 0)):=(HG2.out.cell (p:=⟨b3,o3+j,none⟩) hbr3).trans (HC4.out j hjl)
     have htk:(zs.take j).length=j:=by rw [List.length_take];have:=HTL.out;omega
     have HW1:Hid (∀d o,Own ((wr.alloc o).drewN d) wq.heap.size (.slice ra j rc) (zs.take j)):=fun d o=>HO2.out.old (((Old.refl wr).alloc o).drewN d)
     have HG5:Hid (∀d o,Old wq ((wr.alloc o).drewN d)):=fun d o=>(HG2.out.alloc o).drewN d
     have HT2:Hid (zs.take (j+1)=zs.take j++[xs.getD j 0%p]):=HT1
     clear HT1
     have hp0:¬p=0:=by omega
     generalize xs.getD j 0=x at *
     obtain ⟨q,hq⟩:∃q,x%p=q:=⟨_,rfl⟩
     have hqb:0≤q∧q<268435456:=by
      have g1:=Int.emod_nonneg x (show p≠0 by omega)
      have g2:=Int.emod_lt_of_pos x (show 0<p by omega)
      omega
     have cm:=fun W=>spec_mod x p W (by omega) (by omega)
     rw [hq] at cm HT2
     clear hq
     go_wp2_with fail
     refine (cm _).mono ?_
     rintro e w4 ⟨rfl,hw4⟩
     replace hw4:=hw4.symm
     subst hw4
     go_wp2_with (at_builtin;go_loud (refine wpList_append_own _ rfl _ _ 22 rfl wq.heap.size 3 i0 (.int .i64 0) 1 8 Tryz.underlying22 hi hz0 hz1 hz2 rfl (by decide) _ _ _ rfl (by have:=HO2.out.alloc (.cells #[.int .i64 q] 3);unfold Own at this;rw [htk] at this;exact this) ⟨wr.heap.size,0,none⟩ 1 1 [.int .i64 q] rfl rfl (one_cell _ _ _) (one_one _) (by unfold maxLen;omega) (by omega) (by simp;omega) ?_;intro v5 w5 o5 g5 x5;have O5:Hid (Own w5 wq.heap.size v5 (zs.take (j+1))):=(by have:=HT2.out;show Own _ _ _ _;rw [this];exact Own.snoc (by rw [htk];exact o5));have G5:Hid (Old wq w5):=Below.grown (HG2.out.alloc (.cells #[.int .i64 q] 3)) g5 (HG2.out.alloc (.cells #[.int .i64 q] 3)).size (fun j hj=>(HO2.out.lt j hj).1);clear o5 g5 x5))
     obtain ⟨a5,cap5,rfl⟩:=(Own.row O5.out).slice
     have htk1:(zs.take (j+1)).length=j+1:=by rw [List.length_take];have:=HTL.out;omega
     rw [htk1] at O5 ⊢
     exact ⟨⟨j+1,_,_,by omega,by go_num,rfl,O5,G5⟩,by simp [intOf];omega⟩
    ·have d2:decide ((j:Int)<(xs.length:Int))=false:=by simp;omega
     obtain rfl:j=xs.length:=by omega
     have hzl:=HTL.out
     have own2:=HO2.out
     rw [List.take_of_length_le (by omega)] at own2
     have hrc:xs.length≤rc:=by
      rcases own2.2 with ⟨e,hn⟩ | ⟨_,_,_,e,_,_,hn,_⟩
      ·simp only [Value.slice.injEq] at e
       omega
      ·simp only [Value.slice.injEq,true_and] at e
       omega
     rw [← hzl] at own2 hrc
     obtain ⟨vs,ov,hem⟩:=HEMB.out (wr.alloc (.cells #[.slice ra zs.length rc] 22)) ra rc (HG2.out.alloc _) (own2.alloc _) hrc
     rw [hzl] at ov hem
     have OV:Hid ((wr.alloc (.cells #[.slice ra xs.length rc] 22)).ownsRow w.heap.size 22 1 (.slice a k cap) k vs):=ov
     have HEM:Hid (∀v' w',w'.ownsRow w.heap.size 22 1 v' (k+1) (vs++[.slice ra xs.length rc])→(wr.alloc (.cells #[.slice ra xs.length rc] 22)).grownBy w' (Value.slice a k cap).ownBlock→(v'.ownBlock=(Value.slice a k cap).ownBlock∨v'.ownBlock=some (wr.alloc (.cells #[.slice ra xs.length rc] 22)).heap.size)→OwS (zss.take (k+1)) w' w.heap.size w'.heap.size v'):=hem
     have HWW:Hid (Old w (wr.alloc (.cells #[.slice ra xs.length rc] 22))):=(Old.trans HG.out HG2.out).alloc _
     clear own2 ov hem hzl hrc HO2
     go_wp2_with (at_builtin;(refine wpList_append_own_at _ rfl _ _ 69 rfl w.heap.size 22 j0 (.slice none 0 0) 1 24 Tryz.underlying69 ji jz0 jz1 jz2 rfl (by decide) _ _ _ rfl OV.out ⟨wr.heap.size,0,none⟩ 1 1 [.slice ra xs.length rc] rfl rfl (one_cell _ _ _) (one_sl _ _ _) (by unfold maxLen;omega) (by omega) (by simp;omega) ?_;intro v5 w5 o5 g5 x5 l5;have O5:Hid (OwS (zss.take (k+1)) w5 w.heap.size w5.heap.size v5):=HEM.out v5 w5 o5 g5 l5;have G5:Hid (Old w w5):=Below.grown HWW.out g5 HWW.out.size (fun j hj=>HOB.out j hj);clear o5 g5 x5 l5))
     have hl1:(zss.take (k+1)).length=k+1:=by rw [List.length_take];have:=HZL.out;omega
     obtain ⟨a5,cap5,e5⟩:=O5.out.slice
     subst e5
     rw [hl1] at O5 ⊢
     exact ⟨⟨k+1,_,_,by omega,by go_num,rfl,O5,G5⟩,by simp [intOf];omega⟩
  ·have d1:decide ((k:Int)<(ps.length:Int))=false:=by simp;omega
   obtain rfl:k=ps.length:=by omega
   have HF:Hid (OwS zss wr w.heap.size wr.heap.size (.slice a ps.length cap)):=by
    have:=HO.out
    rw [List.take_of_length_le (by have:=HZL.out;omega)] at this
    exact this
   go_wp2_with fail
   go_ret
   exact ⟨_,rfl,HG.out,HF.out⟩
end Go.Proofs.YtanijpekdnkicaaGreatDoor
namespace Go.Proofs.YtanijpekdnkicaaGreatDoor
open Go.ChangeShapes Go.WideShapes Go.ChangeAt Go.RowKit
set_option linter.unusedVariables false
set_option linter.unusedSimpArgs false
open M1
theorem rts_of {N:Nat} {ps:List Int} {Rf:Nat→Int} (hR:∀k,RingOk (ps.getD k 0) N→((0≤Rf k∧Rf k<ps.getD k 0)∧(∀W,PrsW W→TabW W→Calls Tryz.prog 140 #[.int .i64 (ps.getD k 0),.int .i64 N] W fun e w'=>e=.returned (.tuple #[.agg #[.int .i64 (ps.getD k 0),.int .i64 N,.int .i64 (Rf k)],.bool true])∧Old W w'))∧∃P M R:Nat,ps.getD k 0=P∧(N:Int)=M∧Rf k=R∧R<P∧RingOk P M∧(F1.Pr P→Rt P (2*M) R)) (h:spB N ps=true):RtS N ps Rf:=fun k hk=>by
 obtain ⟨s1,s2,s3⟩:=sp_ring h
 obtain ⟨_,P,M,R,e1,e2,e3,hlt,hok,hrt⟩:=hR k (s3 k hk)
 obtain rfl:N=M:=by omega
 have b1:=modB_yes hok.md
 have hP:2≤P∧P≤268435456:=by omega
 obtain ⟨r1,r2⟩:=(hrt (ring_pr hok)).cg hP.1
 refine ⟨P,R,e1,e3,hlt,hP,?_,r1,r2⟩
 have q1:=hok.dv
 have q2:=hok.sz
 rcases q2 with e | e | e | e <;> rw [e] at q1 <;> omega
def addN (P:Nat) (xs ys:List Nat):List Nat:=(List.range xs.length).map fun i=>(xs.getD i 0+ys.getD i 0)%P
theorem l5Mul_x (Nn:Nat) (ps:List Int) (Rf:Nat→Int) (xss yss:List (List Int)) (v u1 u2:Value) (w:World) (hv:Row w v ps) (h1:RowS w u1 xss) (h2:RowS w u2 yss) (hS:Sz4 Nn) (hps:1≤ps.length∧ps.length≤6) (hrt:RtS Nn ps Rf) (lx:xss.length=ps.length) (ly:yss.length=ps.length) (hx:OkX Nn ps xss) (hy:OkX Nn ps yss) :
 Calls Tryz.prog 79 #[.agg #[.int .i64 Nn,v],u1,u2] w fun e w'=>∃v',e=.returned v'∧Old w w'∧OwS (mulL Nn ps xss yss) w' w.heap.size w'.heap.size v':=by
 refine spec_l5Mul Nn ps xss yss (mulL Nn ps xss yss) v u1 u2 w hv h1 h2 hps lx ly (mulL_len _ _ _ _) (fun k hk W u t hu ht=>?_)
 obtain ⟨P,R,eP,eR,hlt,hP2,ho,t1,t2⟩:=hrt k hk
 obtain ⟨ys,e4,la,ha⟩:=okX_toZ hx hk eP
 obtain ⟨zs,e5,lb,hb⟩:=okX_toZ hy hk eP
 rw [e4] at hu
 rw [e5] at ht
 rw [mulL_get _ _ _ _ _ hk,eP,e4,e5,toZ_bk,toZ_bk,show ((P:Int).toNat)=P by omega]
 exact spec_l3Mul P Nn 0 ys zs u t W hu ht hP2 (by unfold Sz4 at hS;omega) la lb ha hb
theorem l5Add_x (Nn:Nat) (ps:List Int) (xss yss:List (List Int)) (v u1 u2:Value) (w:World) (hv:Row w v ps) (h1:RowS w u1 xss) (h2:RowS w u2 yss) (hN:Nn≤16) (hps:1≤ps.length∧ps.length≤6) (hpb:∀k,k<ps.length→2≤ps.getD k 0∧ps.getD k 0≤268435456) (lx:xss.length=ps.length) (ly:yss.length=ps.length) (hx:OkX Nn ps xss) (hy:OkX Nn ps yss) :
 Calls Tryz.prog 78 #[.agg #[.int .i64 Nn,v],u1,u2] w fun e w'=>∃v',e=.returned v'∧Old w w'∧OwS (pairL addF ps xss yss) w' w.heap.size w'.heap.size v':=by
 refine spec_l5Add Nn ps xss yss v u1 u2 w hv h1 h2 hps lx ly (fun k hk=>?_)
 obtain ⟨a1,a2⟩:=hx k hk
 obtain ⟨b1,b2⟩:=hy k hk
 have hp:=hpb k hk
 refine ⟨by omega,by omega,hp,fun i hi=>?_⟩
 have h3:=a2 i (by omega)
 have h4:=b2 i (by omega)
 omega
end Go.Proofs.YtanijpekdnkicaaGreatDoor
namespace Go.Proofs.YtanijpekdnkicaaGreatDoor
open Go.ChangeShapes Go.WideShapes Go.ChangeAt Go.RowKit
open M1
set_option linter.unusedVariables false
set_option linter.unusedSimpArgs false
def tuL (Nn t:Nat) (ps:List Int) (xss:List (List Int)):List (List Int):=(List.range ps.length).map fun k=>trnS (ps.getD k 0).toNat Nn t ((xss.getD k []).map Int.toNat) Nn
theorem tuL_len (Nn t:Nat) (ps:List Int) (xss:List (List Int)):(tuL Nn t ps xss).length=ps.length:=by simp [tuL]
theorem tuL_get (Nn t:Nat) (ps:List Int) (xss:List (List Int)) (k:Nat) (hk:k<ps.length):(tuL Nn t ps xss).getD k []=trnS (ps.getD k 0).toNat Nn t ((xss.getD k []).map Int.toNat) Nn:=by
 simp [tuL,List.getD,hk]
theorem toZ_nat (ys:List Nat):(toZ ys).map Int.toNat=ys:=by
 unfold toZ
 rw [List.map_map]
 exact (List.map_congr_left fun x _=>rfl).trans (List.map_id ys)
theorem set_bd {P i:Nat} {v:Int} {l:List Int} (h:∀y∈l,0≤y∧y<(P:Int)) (hv:0≤v∧v<(P:Int)):∀y∈l.set i v,0≤y∧y<(P:Int):=fun y hy=>by
 rcases List.mem_or_eq_of_mem_set hy with h1 | h1
 ·exact h y h1
 ·rw [h1];exact hv
theorem trnS_bd (P N t:Nat) (xs:List Nat) (hP:0<P) (hx:∀x∈xs,x<P):∀m,∀y∈trnS P N t xs m,0≤y∧y<(P:Int)
 | 0=>fun y hy=>by
   rw [trnS] at hy
   rw [(List.mem_replicate.1 hy).2]
   omega
 | m+1=>by
   have ih:=trnS_bd P N t xs hP hx m
   rw [trnS]
   split
   ·refine set_bd ih ?_
    have hg:xs.getD m 0<P:=by
     by_cases h:m<xs.length
     ·have:xs.getD m 0=xs[m]:=by simp [List.getD,h]
      rw [this]
      exact hx _ (List.getElem_mem h)
     ·simp [List.getD,h]
      omega
    omega
   ·exact set_bd ih ⟨Int.emod_nonneg _ (by omega),Int.emod_lt_of_pos _ (by omega)⟩
theorem okX_tu {Nn t:Nat} {ps:List Int} {xss:List (List Int)} (hpb:∀k,k<ps.length→2≤ps.getD k 0∧ps.getD k 0≤268435456) (hx:OkX Nn ps xss):OkX Nn ps (tuL Nn t ps xss):=fun k hk=>by
 have hp:=hpb k hk
 obtain ⟨P,eP⟩:∃P:Nat,ps.getD k 0=P:=⟨(ps.getD k 0).toNat,by omega⟩
 obtain ⟨ys,e1,hl,hlt⟩:=okX_toZ hx hk eP
 rw [tuL_get _ _ _ _ _ hk,e1,toZ_nat,eP]
 refine ⟨trnS_len _ _ _ _ _,fun i hi=>?_⟩
 have hm:(trnS P Nn t ys Nn).getD i 0∈trnS P Nn t ys Nn:=by
  have:i<(trnS P Nn t ys Nn).length:=by rw [trnS_len];exact hi
  simp [List.getD,this]
 exact trnS_bd P Nn t ys (by omega) hlt Nn _ hm
set_option maxRecDepth 100000 in
set_option maxHeartbeats 4000000 in
theorem tn_change (p r t:Int) (n:Bool) (Nn uc:Nat) (zs:List Int) (ua:Option Addr) (gb:Nat) (w:World) (hb:Bk w gb #[.int .i64 t] 3)
 (ct:∀W,Old w W→Calls Tryz.prog 96 #[.agg #[.int .i64 p,.int .i64 Nn,.int .i64 r],.slice ua Nn uc,.int .i64 t] W fun e w'=>∃v',e=.returned v'∧Old W w'∧Own w' W.heap.size v' zs) :
 Calls Tryz.prog 95 #[.agg #[.int .i64 p,.int .i64 Nn,.int .i64 r,.bool n,.slice ua Nn uc],.pointer (some ⟨gb,0,none⟩)] w fun e w'=>∃v',e=.returned v'∧Old w w'∧Own w' w.heap.size v' zs:=by
 have HA:Hid (Old w (w.alloc (.cells #[.int .i64 p,.int .i64 Nn,.int .i64 r,.bool n,.slice ua Nn uc] 146))):=(Old.refl w).alloc _
 have BB:Hid (Bk (w.alloc (.cells #[.int .i64 p,.int .i64 Nn,.int .i64 r,.bool n,.slice ua Nn uc] 146)) w.heap.size #[.int .i64 p,.int .i64 Nn,.int .i64 r,.bool n,.slice ua Nn uc] 146):=Bk.new' w _ _ rfl
 have x0:=BB.out.c (i:=0) rfl
 have x1:=BB.out.c (i:=1) rfl
 have x2:=BB.out.c (i:=2) rfl
 have x3:=BB.out.c (i:=3) rfl
 have x4:=BB.out.c (i:=4) rfl
 have y0:=(hb.old HA.out).c (i:=0) rfl
 have CT:=hidP (ct _ HA.out)
 clear hb BB ct
 go_enter Tryz.func95,Tryz.ntmps95
 go_wp2_with fail
 refine CT.out.mono ?_
 rintro e w1 ⟨v',rfl,g1,o1⟩
 have G1:=hidP (Old.trans HA.out g1)
 have O1:Hid (Own w1 w.heap.size v' zs):=o1.low (by simp)
 clear g1 o1 CT x0 x1 x2 x3 x4 y0
 go_wp2_with fail
 go_ret
 exact ⟨_,rfl,G1.out,O1.out⟩
set_option maxRecDepth 100000 in
set_option maxHeartbeats 8000000 in
theorem changed_tn (gb:Nat) (N:Int) (a:Bool) (ps:List Int) (Rf:Nat→Int) (us:Nat→Value) (v:Value) (m:Nat) (w:World) (hr:RdR w v m N a ps Rf us) (hus:∀k,k<m→∃x n c,us k=.slice x n c) (hm:1≤m∧m≤1000) (zss:List (List Int))
 (cj:∀k,k<m→∀W,Old w W→Calls Tryz.prog 95 #[.agg #[.int .i64 (ps.getD k 0),.int .i64 N,.int .i64 (Rf k),.bool a,us k],.pointer (some ⟨gb,0,none⟩)] W fun e w'=>∃v',e=.returned v'∧Old W w'∧Own w' W.heap.size v' (zss.getD k [])) :
 Calls Tryz.prog 94 #[v,.func (.func 95) #[] #[.pointer (some ⟨gb,0,none⟩)]] w fun e w'=>e=.returned (.slice (some ⟨w.heap.size,0,none⟩) m m)∧Old w w'∧Ows (TS 146 5 m (elR N a ps Rf zss)) w' w.heap.size w'.heap.size [.slice (some ⟨w.heap.size,0,none⟩) m m]:=by
 obtain ⟨i0,hi,hz0,hz1,hz2⟩:=info_parts Tryz.infoRingRow
 obtain ⟨b,cap,rfl,hb,hc⟩:=hr
 have HC:Hid (∀k,k<m→w.cell? ⟨b,k*5,none⟩=some (.int .i64 (ps.getD k 0))∧w.cell? ⟨b,k*5+1,none⟩=some (.int .i64 N)∧w.cell? ⟨b,k*5+2,none⟩=some (.int .i64 (Rf k))∧w.cell? ⟨b,k*5+3,none⟩=some (.bool a)∧w.cell? ⟨b,k*5+4,none⟩=some (us k)):=hc
 have HUS:Hid (∀k,k<m→∃x n c,us k=.slice x n c):=hus
 have HCJ:Hid (∀k,k<m→∀W,Old w W→Calls Tryz.prog 95 #[.agg #[.int .i64 (ps.getD k 0),.int .i64 N,.int .i64 (Rf k),.bool a,us k],.pointer (some ⟨gb,0,none⟩)] W fun e w'=>∃v',e=.returned v'∧Old W w'∧Own w' W.heap.size v' (zss.getD k [])):=cj
 have HEL:Hid (∀k,elR N a ps Rf zss k=TR (ps.getD k 0) N (Rf k) a (TI (zss.getD k []))):=fun k=>rfl
 have HGD:Hid (∀k,GoodT (elR N a ps Rf zss k)):=good_elR N a ps Rf zss
 generalize elR N a ps Rf zss=Es at *
 clear hc hus cj
 go_enter Tryz.func94,Tryz.ntmps94
 go_wp2_with (at_make;refine wpList_make_full _ rfl _ _ 84 rfl 0 146 i0 (.agg #[.int .i64 0,.int .i64 0,.int .i64 0,.bool false,.slice none 0 0]) 5 Tryz.underlying84 hi hz0 hz1 .i64 .i64 _ _ m rfl rfl rfl rfl (by rw [hz2];omega) (by unfold maxLen;omega) (Nat.zero_le _) ?_;intro w1 hown hgrow)
 have HO:Hid (TSc 146 5 m 0 Es w1 w.heap.size m _ (fun _ _=>False)):=TSc.start hown
 have HG:Hid (Old w w1):=Below.grown (Below.refl _ _) hgrow (Nat.le_refl _) (fun _ h=>by cases h)
 clear hown hgrow
 go_loopw [13,6,7] (fun i _ _ W=>∃(k:Nat) (vs:List Value) (Bs:Nat→Nat→Prop),k≤m∧i=.int .i64 k∧Hid (TSc 146 5 m k Es W w.heap.size m vs Bs)∧Hid (∀j b,j<k→Bs j b→w.heap.size<b)∧Hid (Old w W)) (fun i _ _ _=>m - (intOf i).toNat)
 case atStart=>exact ⟨0,_,_,by omega,rfl,HO,(fun j b hj=>by omega),HG⟩
 case round=>
  obtain ⟨k,vs,Bs,hk,rfl,H1,HB,HG1⟩:=hrel
  clear HO HG
  by_cases hlt:k<m
  ·have d1:decide ((k:Int)<(m:Int))=true:=by simp;omega
   have ilt:(k:Int)<(m:Int):=by omega
   obtain ⟨c0,c1,c2,c3,c4⟩:=HC.out k hlt
   obtain ⟨xu,nu,cu,eu⟩:=HUS.out k hlt
   have cj:=HCJ.out k hlt
   rw [eu] at c4 cj
   have q0:=(HG1.out.cell (p:=⟨b,k*5,none⟩) hb).trans c0
   have q1:=(HG1.out.cell (p:=⟨b,k*5+1,none⟩) hb).trans c1
   have q2:=(HG1.out.cell (p:=⟨b,k*5+2,none⟩) hb).trans c2
   have q3:=(HG1.out.cell (p:=⟨b,k*5+3,none⟩) hb).trans c3
   have q4:=(HG1.out.cell (p:=⟨b,k*5+4,none⟩) hb).trans c4
   have hsr:w.heap.size<wr.heap.size:=ownsRow_lt H1.out.row
   have HEK:Hid (Es k=TR (ps.getD k 0) N (Rf k) a (TI (zss.getD k []))):=HEL.out k
   clear c0 c1 c2 c3 c4 eu
   generalize ps.getD k 0=P at *
   generalize Rf k=R at *
   generalize zss.getD k []=zs at *
   have HAS5:Hid (∀W',Old (wr.alloc (.cells #[.int .i64 P,.int .i64 N,.int .i64 R,.bool a,.slice xu nu cu] 146)) W'→(W'.cell? ⟨wr.heap.size,0,none⟩=some (.int .i64 P)∧W'.cell? ⟨wr.heap.size,1,none⟩=some (.int .i64 N)∧W'.cell? ⟨wr.heap.size,2,none⟩=some (.int .i64 R)∧W'.cell? ⟨wr.heap.size,3,none⟩=some (.bool a)∧W'.cell? ⟨wr.heap.size,4,none⟩=some (.slice xu nu cu))):=fun W' q=>by
    have q':=Old.trans ((Old.refl wr).alloc _) q
    exact ⟨(q.cell (p:=⟨wr.heap.size,0,none⟩) (by simp)).trans (cell_at _ _ _ _ _ rfl),(q.cell (p:=⟨wr.heap.size,1,none⟩) (by simp)).trans (cell_at _ _ _ _ _ rfl),(q.cell (p:=⟨wr.heap.size,2,none⟩) (by simp)).trans (cell_at _ _ _ _ _ rfl),(q.cell (p:=⟨wr.heap.size,3,none⟩) (by simp)).trans (cell_at _ _ _ _ _ rfl),(q.cell (p:=⟨wr.heap.size,4,none⟩) (by simp)).trans (cell_at _ _ _ _ _ rfl)⟩
   have HAS6:Hid (∀W' y0 y1 y2 y3 y4,Old (wr.alloc (.cells #[.int .i64 P,.int .i64 N,.int .i64 R,.bool a,.slice xu nu cu] 146)) W'→((fun W'=>W'.cell? ⟨wr.heap.size,0,none⟩=some (.int .i64 P)∧W'.cell? ⟨wr.heap.size,1,none⟩=some (.int .i64 N)∧W'.cell? ⟨wr.heap.size,2,none⟩=some (.int .i64 R)∧W'.cell? ⟨wr.heap.size,3,none⟩=some (.bool a)∧W'.cell? ⟨wr.heap.size,4,none⟩=some (.slice xu nu cu)) (((((W'.setCell ⟨w.heap.size,k*5,none⟩ y0).setCell ⟨w.heap.size,k*5+1,none⟩ y1).setCell ⟨w.heap.size,k*5+2,none⟩ y2).setCell ⟨w.heap.size,k*5+3,none⟩ y3).setCell ⟨w.heap.size,k*5+4,none⟩ y4))):=fun W' y0 y1 y2 y3 y4 q=>by
    obtain ⟨s0,s1,s2,s3,s4⟩:=HAS5.out W' q
    have key:∀(bb j:Nat) (z:Value),bb≠w.heap.size→W'.cell? ⟨bb,j,none⟩=some z→(((((W'.setCell ⟨w.heap.size,k*5,none⟩ y0).setCell ⟨w.heap.size,k*5+1,none⟩ y1).setCell ⟨w.heap.size,k*5+2,none⟩ y2).setCell ⟨w.heap.size,k*5+3,none⟩ y3).setCell ⟨w.heap.size,k*5+4,none⟩ y4).cell? ⟨bb,j,none⟩=some z:=fun bb j z hb hz=>by
     rw [cellO _ _ _ _ hb,cellO _ _ _ _ hb,cellO _ _ _ _ hb,cellO _ _ _ _ hb,cellO _ _ _ _ hb]
     exact hz
    exact ⟨key _ _ _ (by omega) s0,key _ _ _ (by omega) s1,key _ _ _ (by omega) s2,key _ _ _ (by omega) s3,key _ _ _ (by omega) s4⟩
   have HGA:Hid (Old w (wr.alloc (.cells #[.int .i64 P,.int .i64 N,.int .i64 R,.bool a,.slice xu nu cu] 146))):=HG1.out.alloc _
   have HX:Hid (∀w6 y n c Bz,Old (wr.alloc (.cells #[.int .i64 P,.int .i64 N,.int .i64 R,.bool a,.slice xu nu cu] 146)) w6→TI zs w6 Bz [.slice y n c]→(∀b,Bz b→wr.heap.size+1≤b)→(∃vs',TSc 146 5 m (k+1) Es (((((w6.setCell ⟨w.heap.size,k*5,none⟩ (.int .i64 P)).setCell ⟨w.heap.size,k*5+1,none⟩ (.int .i64 N)).setCell ⟨w.heap.size,k*5+2,none⟩ (.int .i64 R)).setCell ⟨w.heap.size,k*5+3,none⟩ (.bool a)).setCell ⟨w.heap.size,k*5+4,none⟩ (.slice y n c)) w.heap.size m vs' (fun q=>if q=k then Bz else Bs q))∧(∀j b,j<k+1→(fun q=>if q=k then Bz else Bs q) j b→w.heap.size<b)∧Old w (((((w6.setCell ⟨w.heap.size,k*5,none⟩ (.int .i64 P)).setCell ⟨w.heap.size,k*5+1,none⟩ (.int .i64 N)).setCell ⟨w.heap.size,k*5+2,none⟩ (.int .i64 R)).setCell ⟨w.heap.size,k*5+3,none⟩ (.bool a)).setCell ⟨w.heap.size,k*5+4,none⟩ (.slice y n c))):=fun w6 y n c Bz g6 hTI hlo=>by
    have g7:=Old.trans ((Old.refl wr).alloc _) g6
    refine ⟨(H1.out.old HGD.out g7).store5 HGD.out hlt _ _ _ _ _ (B:=Bz) (fun W' hW'=>?_) (fun hb=>by have:=hlo _ hb;omega) (fun j hj b h1 h2=>?_),fun j b hj hb=>?_,?_⟩
    ·rw [HEK.out]
     exact ⟨_,rfl,(good_TI zs).far hTI (fun b hb=>hW' b (by have:=hlo b hb;omega))⟩
    ·have h4:=H1.out.lt HGD.out j b hj h1
     have:=hlo b h2
     omega
    ·by_cases e:j=k
     ·simp only [e,if_true] at hb
      have:=hlo b hb
      omega
     ·simp only [e,if_false] at hb
      exact HB.out j b (by omega) hb
    ·exact (((((Old.trans HG1.out g7).own (p:=⟨w.heap.size,k*5,none⟩) (Nat.le_refl _) _).own (p:=⟨w.heap.size,k*5+1,none⟩) (Nat.le_refl _) _).own (p:=⟨w.heap.size,k*5+2,none⟩) (Nat.le_refl _) _).own (p:=⟨w.heap.size,k*5+3,none⟩) (Nat.le_refl _) _).own (p:=⟨w.heap.size,k*5+4,none⟩) (Nat.le_refl _) _
   have HCE:Hid (∀w6,Old (wr.alloc (.cells #[.int .i64 P,.int .i64 N,.int .i64 R,.bool a,.slice xu nu cu] 146)) w6→∀i,i<5→(∃z,w6.cell? ⟨w.heap.size,k*5+i,none⟩=some z)∧w6.frozen? ⟨w.heap.size,k*5+i,none⟩=false):=fun w6 g6 i hi5=>by
    have H2:=H1.out.old HGD.out (Old.trans ((Old.refl wr).alloc _) g6)
    have h5:=H2.cell k i hlt hi5
    have h6:=cellsJ_len H2.row.1 k hlt
    exact ⟨⟨_,h5.trans (List.getElem?_eq_getElem (by omega))⟩,H2.frozen _⟩
   clear H1 HB HEK
   go_wp2_with fail
   go_region_held3 (fun W'=>W'.cell? ⟨wr.heap.size,0,none⟩=some (.int .i64 P)∧W'.cell? ⟨wr.heap.size,1,none⟩=some (.int .i64 N)∧W'.cell? ⟨wr.heap.size,2,none⟩=some (.int .i64 R)∧W'.cell? ⟨wr.heap.size,3,none⟩=some (.bool a)∧W'.cell? ⟨wr.heap.size,4,none⟩=some (.slice xu nu cu)) (first | with_reducible exact HAS5.out _ Q6.out | with_reducible exact HAS5.out _ Q5.out | with_reducible exact HAS5.out _ (Below.drew (Old.refl _)) | with_reducible exact HAS6.out _ _ _ _ _ _ Q6.out | with_reducible exact HAS5.out _ (Old.refl _)) (first
    | (go_at_call 95;refine (cj _ (Below.drew HGA.out)).mono ?_;rintro e w5 ⟨v5,rfl,q5,o5⟩;obtain ⟨x5,c5,rfl⟩:=(Own.row o5).slice;have Q5:Hid (Old (wr.alloc (.cells #[.int .i64 P,.int .i64 N,.int .i64 R,.bool a,.slice xu nu cu] 146)) w5):=Old.trans (Below.drew (Old.refl _)) q5;have O5:Hid (Own w5 (wr.heap.size+1) (.slice x5 zs.length c5) zs):=(by simp at o5;exact o5);clear q5 o5)
    | (go_at_call 123;refine (with_any _ _ _ _ _ _ _ _ _ _ _).mono ?_;rintro e w6 ⟨rfl,q6⟩;have Q6:Hid (Old (wr.alloc (.cells #[.int .i64 P,.int .i64 N,.int .i64 R,.bool a,.slice xu nu cu] 146)) w6):=Old.trans Q5.out q6;have O6:Hid (Own w6 (wr.heap.size+1) (.slice x5 zs.length c5) zs):=O5.out.old q6;clear q6;obtain ⟨⟨z0,hz0⟩,hf0⟩:=HCE.out w6 Q6.out 0 (by omega);obtain ⟨⟨z1,hz1⟩,hf1⟩:=HCE.out w6 Q6.out 1 (by omega);obtain ⟨⟨z2,hz2⟩,hf2⟩:=HCE.out w6 Q6.out 2 (by omega);obtain ⟨⟨z3,hz3⟩,hf3⟩:=HCE.out w6 Q6.out 3 (by omega);obtain ⟨⟨z4,hz4⟩,hf4⟩:=HCE.out w6 Q6.out 4 (by omega);rw [Nat.add_zero] at hz0 hf0)
    | fail)
   all_goals
    obtain ⟨Bz,hTI,hlo⟩:=TI.of O6.out
    obtain ⟨⟨vs',n1⟩,n2,n3⟩:=HX.out w6 x5 zs.length c5 Bz Q6.out hTI hlo
    have N1:Hid (TSc 146 5 m (k+1) Es (((((w6.setCell ⟨w.heap.size,k*5,none⟩ (.int .i64 P)).setCell ⟨w.heap.size,k*5+1,none⟩ (.int .i64 N)).setCell ⟨w.heap.size,k*5+2,none⟩ (.int .i64 R)).setCell ⟨w.heap.size,k*5+3,none⟩ (.bool a)).setCell ⟨w.heap.size,k*5+4,none⟩ (.slice x5 zs.length c5)) w.heap.size m vs' (fun q=>if q=k then Bz else Bs q)):=n1
    have N2:Hid (∀j b,j<k+1→(fun q=>if q=k then Bz else Bs q) j b→w.heap.size<b):=n2
    have N3:Hid (Old w (((((w6.setCell ⟨w.heap.size,k*5,none⟩ (.int .i64 P)).setCell ⟨w.heap.size,k*5+1,none⟩ (.int .i64 N)).setCell ⟨w.heap.size,k*5+2,none⟩ (.int .i64 R)).setCell ⟨w.heap.size,k*5+3,none⟩ (.bool a)).setCell ⟨w.heap.size,k*5+4,none⟩ (.slice x5 zs.length c5))):=n3
    clear n1 n2 n3 hTI hlo HX
    go_wp2_with fail
    exact ⟨⟨k+1,vs',_,by omega,by go_num,N1,N2,N3⟩,by simp [intOf];omega⟩
  ·have d1:decide ((k:Int)<(m:Int))=false:=by simp;omega
   obtain rfl:k=m:=by omega
   have HE:Hid (Ows (TS 146 5 k Es) wr w.heap.size wr.heap.size [.slice (some ⟨w.heap.size,0,none⟩) k k]):=H1.out.done HGD.out (Nat.le_refl _) (fun j b hj hb=>Nat.le_of_lt (HB.out j b hj hb))
   go_wp2_with fail
   go_ret
   exact ⟨rfl,HG1.out,HE.out⟩
set_option maxRecDepth 100000 in
set_option maxHeartbeats 4000000 in
theorem turned_x (Nn t:Nat) (ps:List Int) (Rf:Nat→Int) (xss:List (List Int)) (v:Value) (w:World) (hN:2≤Nn∧Nn≤16) (ht:t<2*Nn) (hps:1≤ps.length∧ps.length≤6) (hrt:RtS Nn ps Rf) (hx:OkX Nn ps xss) (h1:RdX Nn ps Rf xss w v) :
 Calls Tryz.prog 60 #[v,.int .i64 (t:Int)] w fun e w'=>∃v',e=.returned v'∧Old w w'∧RdX Nn ps Rf (tuL Nn t ps xss) w' v':=by
 have H1:=hidP h1
 obtain ⟨a,c,ev⟩:=h1.slice
 have HA:Hid (Old w (w.alloc (.cells #[.int .i64 (t:Int)] 3))):=(Old.refl w).alloc _
 have BB:Hid (Bk (w.alloc (.cells #[.int .i64 (t:Int)] 3)) w.heap.size #[.int .i64 (t:Int)] 3):=Bk.new' w _ _ rfl
 have HK:Hid (Calls Tryz.prog 94 #[v,.func (.func 95) #[] #[.pointer (some ⟨w.heap.size,0,none⟩)]] (w.alloc (.cells #[.int .i64 (t:Int)] 3)) fun e w'=>∃v',e=.returned v'∧Old (w.alloc (.cells #[.int .i64 (t:Int)] 3)) w'∧RdX Nn ps Rf (tuL Nn t ps xss) w' v'):=by
  obtain ⟨us,hr,hus⟩:=H1.out.old HA.out
  refine (changed_tn w.heap.size Nn false ps Rf us v ps.length _ hr (fun k hk=>?_) (by omega) (tuL Nn t ps xss) (fun k hk W g=>?_)).mono fun e w' h=>?_
  ·obtain ⟨_,x,c,e⟩:=hus k hk
   exact ⟨x,_,c,e⟩
  ·obtain ⟨r1,x,c,e⟩:=hus k hk
   obtain ⟨P,R,eP,eR,hlt,hP2,_⟩:=hrt k hk
   obtain ⟨ys,e1,hl,hlt2⟩:=okX_toZ hx hk eP
   rw [tuL_get _ _ _ _ _ hk,eP,eR,e1,toZ_nat]
   rw [e1] at r1 e
   rw [toZ_len,hl] at e
   rw [e] at r1 ⊢
   refine tn_change P R t false Nn c _ x w.heap.size W (BB.out.old g) (fun W2 g2=>?_)
   exact impl_turned P Nn R t ys _ W2 (r1.old (Old.trans g g2)) hP2 hN hl hlt2 ht
  ·obtain ⟨e1,g1,o1⟩:=h
   exact ⟨_,e1,g1,Ows.rd hps.1 o1⟩
 subst ev
 clear h1 H1 BB
 go_enter Tryz.func60,Tryz.ntmps60
 go_wp2_with fail
 refine HK.out.mono ?_
 rintro e w1 ⟨v',rfl,g1,o1⟩
 have G1:=hidP (Old.trans HA.out g1)
 have O1:=hidP o1
 clear g1 o1 HK
 go_wp2_with fail
 go_ret
 exact ⟨_,rfl,G1.out,O1.out⟩
theorem make_noughts (n:Nat) (hn:n≤1000):∃MC,(∀W:World,(Instr.makeSlice 22 (.int .i64 (n:Int)) (.int .i64 (n:Int))).run Tryz.prog W=.ok (.slice (some ⟨W.heap.size,0,none⟩) n n) (W.alloc (.cells MC 3)))∧Hid (∀W:World,Row (W.alloc (.cells MC 3)) (.slice (some ⟨W.heap.size,0,none⟩) n n) (List.replicate n 0)):=by
 obtain ⟨i0,hi,hz0,hz1,hz2⟩:=info_parts Tryz.infoInt
 refine ⟨madeCells (Value.int .i64 0).cells (n*1),fun W=>?_,fun W=>?_⟩
 ·have:=run_make (P:=Tryz.prog) W 22 3 i0 (.int .i64 0) Tryz.underlying22 hi hz0 .i64 .i64 (n:Int) (n:Int) (by omega) (Int.le_refl _) (by rw [hz2];omega) (by omega)
  rw [hz1] at this
  simpa using this
 ·by_cases h0:n=0
  ·subst h0
   exact Or.inl ⟨_,_,rfl,rfl⟩
  ·have e:(madeCells (Value.int .i64 0).cells (n*1))=(((List.replicate n (0:Int)).map (Value.int .i64))).toArray:=by rw [← made_ints]
   refine Or.inr ⟨W.heap.size,0,n,by simp,by simp,by simp;omega,fun j hj=>?_⟩
   have hj':j<n:=by simpa using hj
   rw [Nat.zero_add,e]
   rw [cell_at W _ _ _ j rfl]
   simp [List.getD,hj']
theorem op_storeCi {d:Option Tmp} {ty:TypeId} {pos:String} {af:Array Edge} {a:Act} {W:World} {K:Act→World→Prop} {Q:Exit→Act→World→Prop} {p x:Operand} {g:Nat} {u:Option Addr} {n c:Nat} {z0:Value} (ha:a.eval p=.pointer (some ⟨g,0,none⟩)) (hv:a.eval x=.agg #[.slice u n c])
 (c0:W.cell? ⟨g,0,none⟩=some z0) (f0:W.frozen? ⟨g,0,none⟩=false)
 (hK:K (a.put d undef) (W.setCell ⟨g,0,none⟩ (.slice u n c))):Oper.wp Tryz.prog ⟨d,.store 32 p x,ty,pos,af,none⟩ a W K Q:=by
 obtain ⟨ρ,hρ⟩:∃ρ,a.eval=ρ:=⟨_,rfl⟩
 rw [hρ] at ha hv
 refine op_skp ρ hρ ?_ hK
 clear hρ hK
 go_simp
def slotTq (i:Nat):Nat:=[37,38,39,40,41,42,43,44,45,46,47,48,49,50,51,52,53,54,55,56,57,58].getD i 0
theorem slotTq_lt:∀i,i<22→slotTq i<59:=by decide
theorem slotTq_inj:∀i,i<22→∀j,j<22→slotTq i=slotTq j→i=j:=by decide
theorem slotTq_no:∀s,s<12→∀i,i<22→slotTq i≠s:=by decide
def qTq (N T E t:Int) (a0:Option Addr) (lp c0 pb sb cb b o cap:Nat) (x0 x1 a2:Option Addr) (l0 m0 l1 m1 n lk c2 nz:Nat) (P0 P1 P2:World→Value→Prop) (X:World→Option Addr→Nat→Prop) (i:Nat) (W:World) (x:Value):Prop:=
 match i with
 | 0=>x=.agg #[.int .i64 N,.int .i64 T,.int .i64 E,.slice a0 lp c0]
 | 1=>x=.agg #[.int .i64 N,.slice a0 lp c0]
 | 2=>x=.pointer (some ⟨cb,0,none⟩)
 | 3=>x=.slice (some ⟨b,o,none⟩) 2 cap
 | 4=>x=.pointer (some ⟨b,o+1,none⟩)
 | 5=>x=.slice x1 l1 m1
 | 6=>x=.int .i64 t
 | 7=>P1 W x
 | 8=>x=.agg #[.int .i64 N,.slice a0 lp c0]
 | 9=>x=.pointer (some ⟨cb,0,none⟩)
 | 10=>x=.slice (some ⟨b,o,none⟩) 2 cap
 | 11=>x=.pointer (some ⟨b,o,none⟩)
 | 12=>x=.slice x0 l0 m0
 | 13=>x=.int .i64 t
 | 14=>P0 W x
 | 15=>x=.agg #[.int .i64 N,.int .i64 T,.int .i64 E,.slice a0 lp c0]
 | 16=>x=.pointer (some ⟨pb,0,none⟩)
 | 17=>x=.int .i64 N
 | 18=>Row W x (List.replicate n 0)
 | 19=>P2 W x
 | 20=>x=.slice a2 lk c2
 | 21=>∃a c,x=.agg #[.slice a nz c]∧X W a c
 | _=>True
theorem qTq_old (N T E t:Int) (a0:Option Addr) (lp c0 pb sb cb b o cap:Nat) (x0 x1 a2:Option Addr) (l0 m0 l1 m1 n lk c2 nz:Nat) (P0 P1 P2:World→Value→Prop) (X:World→Option Addr→Nat→Prop) (h0:∀W W' v,P0 W v→Old W W'→P0 W' v) (h1:∀W W' v,P1 W v→Old W W'→P1 W' v) (h2:∀W W' v,P2 W v→Old W W'→P2 W' v) (hX:∀W W' a c,X W a c→Old W W'→X W' a c) (i:Nat) (W W':World) (x:Value) (h:qTq N T E t a0 lp c0 pb sb cb b o cap x0 x1 a2 l0 m0 l1 m1 n lk c2 nz P0 P1 P2 X i W x) (q:Old W W'):qTq N T E t a0 lp c0 pb sb cb b o cap x0 x1 a2 l0 m0 l1 m1 n lk c2 nz P0 P1 P2 X i W' x:=by
 unfold qTq at h ⊢
 split at h
 case h_8=>exact h1 _ _ _ h q
 case h_15=>exact h0 _ _ _ h q
 case h_19=>exact h.old q
 case h_20=>exact h2 _ _ _ h q
 case h_22=>
  obtain ⟨a,c,e,p⟩:=h
  exact ⟨a,c,e,hX _ _ _ _ p q⟩
 all_goals first | exact h | trivial
set_option maxRecDepth 100000 in
set_option maxHeartbeats 8000000 in
theorem reg_Tq (w0:World) (rb:Nat) (N T E t:Int) (a0:Option Addr) (lp c0 pb sb cb b o cap:Nat) (x0 x1 a2:Option Addr) (l0 m0 l1 m1 n lk c2 nz:Nat) (P0 P1 P2:World→Value→Prop) (X:World→Option Addr→Nat→Prop) (h0:∀W W' v,P0 W v→Old W W'→P0 W' v) (h1:∀W W' v,P1 W v→Old W W'→P1 W' v) (h2:∀W W' v,P2 W v→Old W W'→P2 W' v) (hX:∀W W' a c,X W a c→Old W W'→X W' a c) (hN:N=(n:Int)) (hn:n≤1000)
 (bP:w0.heap[pb]? = some (.cells #[.int .i64 N,.int .i64 T,.int .i64 E,.slice a0 lp c0] 35 (0,0))) (bS:w0.heap[sb]? = some (.cells #[.int .i64 N,.slice a0 lp c0] 104 (0,0))) (bC:w0.heap[cb]? = some (.cells #[.slice (some ⟨b,o,none⟩) 2 cap] 32 (0,0))) (bR:w0.heap[rb]? = some (.cells #[.slice none 0 0] 32 (0,0)))
 (hb:b<w0.heap.size) (q0:w0.cell? ⟨b,o,none⟩=some (.slice x0 l0 m0)) (q1:w0.cell? ⟨b,o+1,none⟩=some (.slice x1 l1 m1))
 (K1:∀W,Old w0 W→Calls Tryz.prog 56 #[.agg #[.int .i64 N,.slice a0 lp c0],.slice x1 l1 m1,.int .i64 t] W fun e w'=>∃v,e=.returned v∧Old W w'∧P1 w' v)
 (K0:∀W,Old w0 W→Calls Tryz.prog 56 #[.agg #[.int .i64 N,.slice a0 lp c0],.slice x0 l0 m0,.int .i64 t] W fun e w'=>∃v,e=.returned v∧Old W w'∧P0 w' v)
 (K2:∀W u,Old w0 W→Row W u (List.replicate n 0)→Calls Tryz.prog 57 #[.agg #[.int .i64 N,.int .i64 T,.int .i64 E,.slice a0 lp c0],u] W fun e w'=>∃v,e=.returned v∧Old W w'∧P2 w' v)
 (KD:∀W u1 u0 u2,Old w0 W→P1 W u1→P0 W u0→P2 W u2→Calls Tryz.prog 37 #[.agg #[.int .i64 N,.int .i64 T,.int .i64 E,.slice a0 lp c0],u1,u0,u2,.slice a2 lk c2] W fun e w'=>∃a c,e=.returned (.agg #[.slice a nz c])∧Old W w'∧X w' a c)
 (Q:Exit→Act→World→Prop) (a0':Act) (hsz:a0'.tmps.size=59)
 (ha2:a0'.eval (.tmp 2)=.int .i64 t) (ha3:a0'.eval (.tmp 3)=.slice a2 lk c2) (ha4:a0'.eval (.tmp 4)=.pointer (some ⟨pb,0,none⟩)) (ha5:a0'.eval (.tmp 5)=.pointer (some ⟨cb,0,none⟩)) (ha8:a0'.eval (.tmp 8)=.pointer (some ⟨rb,0,none⟩)) (ha10:a0'.eval (.tmp 10)=.pointer (some ⟨sb,0,none⟩))
 (HK:Hid (∀(us:Nat→Value) W a c,Old w0 W→X W a c→Q .normal ((putAll a0' ((List.range 22).map fun i=>(slotTq i,us i))).put (some 9) (.bool true)) (W.setCell ⟨rb,0,none⟩ (.slice a nz c)))) :
 Code.wp Tryz.prog ((Tryz.f21.body.bind (regionAtmul 4)).getD .skip) Q a0' w0:=by
 conv=>arg 2;whnf
 obtain ⟨MC,hmk,HMR⟩:=make_noughts n hn
 have un:=slotTq_no
 have pp:∀W,Old w0 W→W.heap[pb]? = some (.cells #[.int .i64 N,.int .i64 T,.int .i64 E,.slice a0 lp c0] 35 (0,0)):=fun W g=>(g.block pb (lt_of_some bP)).trans bP
 have psp:∀W,Old w0 W→W.heap[sb]? = some (.cells #[.int .i64 N,.slice a0 lp c0] 104 (0,0)):=fun W g=>(g.block sb (lt_of_some bS)).trans bS
 have pc:∀W,Old w0 W→W.heap[cb]? = some (.cells #[.slice (some ⟨b,o,none⟩) 2 cap] 32 (0,0)):=fun W g=>(g.block cb (lt_of_some bC)).trans bC
 have pr:∀W,Old w0 W→W.heap[rb]? = some (.cells #[.slice none 0 0] 32 (0,0)):=fun W g=>(g.block rb (lt_of_some bR)).trans bR
 have pq0:∀W,Old w0 W→W.cell? ⟨b,o,none⟩=some (.slice x0 l0 m0):=fun W g=>(g.cell (p:=⟨b,o,none⟩) hb).trans q0
 have pq1:∀W,Old w0 W→W.cell? ⟨b,o+1,none⟩=some (.slice x1 l1 m1):=fun W g=>(g.cell (p:=⟨b,o+1,none⟩) hb).trans q1
 refine wp_region_tail 22 (by decide) (by kernel_rfl) (by kernel_rfl) (by kernel_rfl) (by kernel_rfl) (by kernel_rfl) slotTq (fun i hi=>by rw [hsz];exact slotTq_lt i hi) (fun i j hi hj=>slotTq_inj i hi j hj) (qTq N T E t a0 lp c0 pb sb cb b o cap x0 x1 a2 l0 m0 l1 m1 n lk c2 nz P0 P1 P2 X) (qTq_old N T E t a0 lp c0 pb sb cb b o cap x0 x1 a2 l0 m0 l1 m1 n lk c2 nz P0 P1 P2 X h0 h1 h2 hX) ?_ ?_
 ·refine ⟨?_,?_,?_,?_,?_,?_,?_,?_,?_,?_,?_,?_,?_,?_,?_,?_,?_,?_,?_,?_,?_,?_,trivial⟩
  ·intro a W g hF hd
   refine op_load (k:=pb) ((hF.same 4 (un 4 (by decide))).trans ha4) (pp W g) Tryz.underlying35 rfl (by kernel_rfl) ?_
   exact ⟨_,rfl,Old.refl _,rfl⟩
  ·intro a W g hF hd
   refine op_load (k:=sb) ((hF.same 10 (un 10 (by decide))).trans ha10) (psp W g) Tryz.underlying104 rfl (by kernel_rfl) ?_
   exact ⟨_,rfl,Old.refl _,rfl⟩
  ·intro a W g hF hd
   have e5:=(hF.same 5 (un 5 (by decide))).trans ha5
   obtain ⟨ρ,hρ⟩:∃ρ,a.eval=ρ:=⟨_,rfl⟩
   rw [hρ] at e5
   refine op_val ρ hρ (.pointer (some ⟨cb,0,none⟩)) ?_ ⟨_,rfl,Old.refl _,rfl⟩
   clear g hF hd hρ ha2 ha3 ha4 ha5 ha8 ha10 HK un K0 K1 K2 KD bP bS bC bR pp psp pc pr pq0 pq1 h0 h1 h2 hX q0 q1 hb hN HMR
   go_simp
  ·intro a W g hF hd
   have e39:a.eval (.tmp 39)=.pointer (some ⟨cb,0,none⟩):=hd ⟨2,.data⟩ (by simp) rfl
   have kc:W.cell? ⟨cb,0,none⟩=some (.slice (some ⟨b,o,none⟩) 2 cap):=(show Bk W cb _ _ from pc W g).c (i:=0) rfl
   obtain ⟨ρ,hρ⟩:∃ρ,a.eval=ρ:=⟨_,rfl⟩
   rw [hρ] at e39
   refine op_val ρ hρ (.slice (some ⟨b,o,none⟩) 2 cap) ?_ ⟨_,rfl,Old.refl _,rfl⟩
   clear g hF hd hρ ha2 ha3 ha4 ha5 ha8 ha10 HK un K0 K1 K2 KD bP bS bC bR pp psp pc pr pq0 pq1 h0 h1 h2 hX q0 q1 hb hN HMR
   go_simp
  ·intro a W g hF hd
   have e40:a.eval (.tmp 40)=.slice (some ⟨b,o,none⟩) 2 cap:=hd ⟨3,.data⟩ (by simp) rfl
   have cc0:a.eval (.const (.int .i64 1))=.int .i64 1:=rfl
   obtain ⟨ρ,hρ⟩:∃ρ,a.eval=ρ:=⟨_,rfl⟩
   rw [hρ] at e40 cc0
   refine op_val ρ hρ (.pointer (some ⟨b,o+1,none⟩)) ?_ ⟨_,rfl,Old.refl _,rfl⟩
   clear g hF hd hρ ha2 ha3 ha4 ha5 ha8 ha10 HK un K0 K1 K2 KD bP bS bC bR pp psp pc pr pq0 pq1 h0 h1 h2 hX q0 q1 hb hN HMR
   go_simp
  ·intro a W g hF hd
   have e41:a.eval (.tmp 41)=.pointer (some ⟨b,o+1,none⟩):=hd ⟨4,.data⟩ (by simp) rfl
   have kc:=pq1 W g
   obtain ⟨ρ,hρ⟩:∃ρ,a.eval=ρ:=⟨_,rfl⟩
   rw [hρ] at e41
   refine op_val ρ hρ (.slice x1 l1 m1) ?_ ⟨_,rfl,Old.refl _,rfl⟩
   clear g hF hd hρ ha2 ha3 ha4 ha5 ha8 ha10 HK un K0 K1 K2 KD bP bS bC bR pp psp pc pr pq0 pq1 h0 h1 h2 hX q0 q1 hb hN HMR
   go_simp
  ·intro a W g hF hd
   refine op_move ?_
   exact ⟨_,rfl,Old.refl _,(hF.same 2 (un 2 (by decide))).trans ha2⟩
  ·intro a W g hF hd
   have e38:a.eval (.tmp 38)=.agg #[.int .i64 N,.slice a0 lp c0]:=hd ⟨1,.data⟩ (by simp) rfl
   have e42:a.eval (.tmp 42)=.slice x1 l1 m1:=hd ⟨5,.data⟩ (by simp) rfl
   have e43:a.eval (.tmp 43)=.int .i64 t:=hd ⟨6,.data⟩ (by simp) rfl
   refine op_call_ret (R:=fun v w'=>Old W w'∧P1 w' v) Tryz.call56 (vs:=#[.agg #[.int .i64 N,.slice a0 lp c0],.slice x1 l1 m1,.int .i64 t]) (by simp [e38,e42,e43]) ((K1 W g).mono fun e w' h=>by
    obtain ⟨xv,rfl,q,o⟩:=h
    exact ⟨_,rfl,q,o⟩) ?_
   rintro x w' ⟨g',o'⟩
   exact ⟨_,rfl,g',o'⟩
  ·intro a W g hF hd
   refine op_load (k:=sb) ((hF.same 10 (un 10 (by decide))).trans ha10) (psp W g) Tryz.underlying104 rfl (by kernel_rfl) ?_
   exact ⟨_,rfl,Old.refl _,rfl⟩
  ·intro a W g hF hd
   have e5:=(hF.same 5 (un 5 (by decide))).trans ha5
   obtain ⟨ρ,hρ⟩:∃ρ,a.eval=ρ:=⟨_,rfl⟩
   rw [hρ] at e5
   refine op_val ρ hρ (.pointer (some ⟨cb,0,none⟩)) ?_ ⟨_,rfl,Old.refl _,rfl⟩
   clear g hF hd hρ ha2 ha3 ha4 ha5 ha8 ha10 HK un K0 K1 K2 KD bP bS bC bR pp psp pc pr pq0 pq1 h0 h1 h2 hX q0 q1 hb hN HMR
   go_simp
  ·intro a W g hF hd
   have e46:a.eval (.tmp 46)=.pointer (some ⟨cb,0,none⟩):=hd ⟨9,.data⟩ (by simp) rfl
   have kc:W.cell? ⟨cb,0,none⟩=some (.slice (some ⟨b,o,none⟩) 2 cap):=(show Bk W cb _ _ from pc W g).c (i:=0) rfl
   obtain ⟨ρ,hρ⟩:∃ρ,a.eval=ρ:=⟨_,rfl⟩
   rw [hρ] at e46
   refine op_val ρ hρ (.slice (some ⟨b,o,none⟩) 2 cap) ?_ ⟨_,rfl,Old.refl _,rfl⟩
   clear g hF hd hρ ha2 ha3 ha4 ha5 ha8 ha10 HK un K0 K1 K2 KD bP bS bC bR pp psp pc pr pq0 pq1 h0 h1 h2 hX q0 q1 hb hN HMR
   go_simp
  ·intro a W g hF hd
   have e47:a.eval (.tmp 47)=.slice (some ⟨b,o,none⟩) 2 cap:=hd ⟨10,.data⟩ (by simp) rfl
   have cc0:a.eval (.const (.int .i64 0))=.int .i64 0:=rfl
   obtain ⟨ρ,hρ⟩:∃ρ,a.eval=ρ:=⟨_,rfl⟩
   rw [hρ] at e47 cc0
   refine op_val ρ hρ (.pointer (some ⟨b,o,none⟩)) ?_ ⟨_,rfl,Old.refl _,rfl⟩
   clear g hF hd hρ ha2 ha3 ha4 ha5 ha8 ha10 HK un K0 K1 K2 KD bP bS bC bR pp psp pc pr pq0 pq1 h0 h1 h2 hX q0 q1 hb hN HMR
   go_simp
  ·intro a W g hF hd
   have e48:a.eval (.tmp 48)=.pointer (some ⟨b,o,none⟩):=hd ⟨11,.data⟩ (by simp) rfl
   have kc:=pq0 W g
   obtain ⟨ρ,hρ⟩:∃ρ,a.eval=ρ:=⟨_,rfl⟩
   rw [hρ] at e48
   refine op_val ρ hρ (.slice x0 l0 m0) ?_ ⟨_,rfl,Old.refl _,rfl⟩
   clear g hF hd hρ ha2 ha3 ha4 ha5 ha8 ha10 HK un K0 K1 K2 KD bP bS bC bR pp psp pc pr pq0 pq1 h0 h1 h2 hX q0 q1 hb hN HMR
   go_simp
  ·intro a W g hF hd
   refine op_move ?_
   exact ⟨_,rfl,Old.refl _,(hF.same 2 (un 2 (by decide))).trans ha2⟩
  ·intro a W g hF hd
   have e45:a.eval (.tmp 45)=.agg #[.int .i64 N,.slice a0 lp c0]:=hd ⟨8,.data⟩ (by simp) rfl
   have e49:a.eval (.tmp 49)=.slice x0 l0 m0:=hd ⟨12,.data⟩ (by simp) rfl
   have e50:a.eval (.tmp 50)=.int .i64 t:=hd ⟨13,.data⟩ (by simp) rfl
   refine op_call_ret (R:=fun v w'=>Old W w'∧P0 w' v) Tryz.call56 (vs:=#[.agg #[.int .i64 N,.slice a0 lp c0],.slice x0 l0 m0,.int .i64 t]) (by simp [e45,e49,e50]) ((K0 W g).mono fun e w' h=>by
    obtain ⟨xv,rfl,q,o⟩:=h
    exact ⟨_,rfl,q,o⟩) ?_
   rintro x w' ⟨g',o'⟩
   exact ⟨_,rfl,g',o'⟩
  ·intro a W g hF hd
   refine op_load (k:=pb) ((hF.same 4 (un 4 (by decide))).trans ha4) (pp W g) Tryz.underlying35 rfl (by kernel_rfl) ?_
   exact ⟨_,rfl,Old.refl _,rfl⟩
  ·intro a W g hF hd
   have e4:=(hF.same 4 (un 4 (by decide))).trans ha4
   obtain ⟨ρ,hρ⟩:∃ρ,a.eval=ρ:=⟨_,rfl⟩
   rw [hρ] at e4
   refine op_val ρ hρ (.pointer (some ⟨pb,0,none⟩)) ?_ ⟨_,rfl,Old.refl _,rfl⟩
   clear g hF hd hρ ha2 ha3 ha4 ha5 ha8 ha10 HK un K0 K1 K2 KD bP bS bC bR pp psp pc pr pq0 pq1 h0 h1 h2 hX q0 q1 hb hN HMR
   go_simp
  ·intro a W g hF hd
   have e53:a.eval (.tmp 53)=.pointer (some ⟨pb,0,none⟩):=hd ⟨16,.data⟩ (by simp) rfl
   have kc:W.cell? ⟨pb,0,none⟩=some (.int .i64 N):=(show Bk W pb _ _ from pp W g).c (i:=0) rfl
   obtain ⟨ρ,hρ⟩:∃ρ,a.eval=ρ:=⟨_,rfl⟩
   rw [hρ] at e53
   refine op_val ρ hρ (.int .i64 N) ?_ ⟨_,rfl,Old.refl _,rfl⟩
   clear g hF hd hρ ha2 ha3 ha4 ha5 ha8 ha10 HK un K0 K1 K2 KD bP bS bC bR pp psp pc pr pq0 pq1 h0 h1 h2 hX q0 q1 hb hN HMR
   go_simp
  ·intro a W g hF hd
   have e54:a.eval (.tmp 54)=.int .i64 N:=hd ⟨17,.data⟩ (by simp) rfl
   obtain ⟨ρ,hρ⟩:∃ρ,a.eval=ρ:=⟨_,rfl⟩
   rw [hρ] at e54
   rw [hN] at e54
   refine op_valW2 (W':=W.alloc (.cells MC 3)) ρ hρ (.slice (some ⟨W.heap.size,0,none⟩) n n) ?_ ⟨_,rfl,(Old.refl W).alloc _,HMR.out W⟩
   have hm:=hmk W
   clear hmk
   clear g hF hd hρ ha2 ha3 ha4 ha5 ha8 ha10 HK un K0 K1 K2 KD bP bS bC bR pp psp pc pr pq0 pq1 h0 h1 h2 hX q0 q1 hb hN HMR
   go_simp
  ·intro a W g hF hd
   have e52:a.eval (.tmp 52)=.agg #[.int .i64 N,.int .i64 T,.int .i64 E,.slice a0 lp c0]:=hd ⟨15,.data⟩ (by simp) rfl
   have p18:Row W (a.eval (.tmp 55)) (List.replicate n 0):=hd ⟨18,.data⟩ (by simp) rfl
   refine op_call_ret (R:=fun v w'=>Old W w'∧P2 w' v) Tryz.call57 (vs:=#[.agg #[.int .i64 N,.int .i64 T,.int .i64 E,.slice a0 lp c0],a.eval (.tmp 55)]) (by simp [e52]) ((K2 W _ g p18).mono fun e w' h=>by
    obtain ⟨xv,rfl,q,o⟩:=h
    exact ⟨_,rfl,q,o⟩) ?_
   rintro x w' ⟨g',o'⟩
   exact ⟨_,rfl,g',o'⟩
  ·intro a W g hF hd
   refine op_move ?_
   exact ⟨_,rfl,Old.refl _,(hF.same 3 (un 3 (by decide))).trans ha3⟩
  ·intro a W g hF hd
   have e37:a.eval (.tmp 37)=.agg #[.int .i64 N,.int .i64 T,.int .i64 E,.slice a0 lp c0]:=hd ⟨0,.data⟩ (by simp) rfl
   have e57:a.eval (.tmp 57)=.slice a2 lk c2:=hd ⟨20,.data⟩ (by simp) rfl
   have p7:P1 W (a.eval (.tmp 44)):=hd ⟨7,.data⟩ (by simp) rfl
   have p14:P0 W (a.eval (.tmp 51)):=hd ⟨14,.data⟩ (by simp) rfl
   have p19:P2 W (a.eval (.tmp 56)):=hd ⟨19,.data⟩ (by simp) rfl
   refine op_call_ret (R:=fun v w'=>Old W w'∧∃a c,v=.agg #[.slice a nz c]∧X w' a c) Tryz.call37 (vs:=#[.agg #[.int .i64 N,.int .i64 T,.int .i64 E,.slice a0 lp c0],a.eval (.tmp 44),a.eval (.tmp 51),a.eval (.tmp 56),.slice a2 lk c2]) (by simp [e37,e57]) ((KD W _ _ _ g p7 p14 p19).mono fun e w' h=>by
    obtain ⟨xa,xc,rfl,q,o⟩:=h
    exact ⟨_,rfl,q,xa,xc,rfl,o⟩) ?_
   rintro x w' ⟨g',xa,xc,rfl,o'⟩
   exact ⟨_,rfl,g',xa,xc,rfl,o'⟩
 ·intro a W g hF hq
  obtain ⟨xa,xc,e58,px⟩:∃a' c',a.eval (.tmp 58)=.agg #[.slice a' nz c']∧X W a' c':=hq 21 (by decide)
  have e8:=(hF.same 8 (un 8 (by decide))).trans ha8
  have hp:=fram_put hF (fun i j hi hj=>slotTq_inj i hi j hj)
  have hk2:=HK.out (fun i=>a.eval (.tmp (slotTq i))) W xa xc g px
  rw [← hp] at hk2
  have hc5:W.cell? ⟨rb,0,none⟩=some (.slice none 0 0):=by rw [cell_of_row _ _ _ _ _ _ (pr W g)];rfl
  have hf5:W.frozen? ⟨rb,0,none⟩=false:=frozen_of_row _ _ _ _ _ (pr W g)
  refine op_storeCi e8 e58 hc5 hf5 ?_
  refine op_assign ?_
  exact hk2
end Go.Proofs.YtanijpekdnkicaaGreatDoor
