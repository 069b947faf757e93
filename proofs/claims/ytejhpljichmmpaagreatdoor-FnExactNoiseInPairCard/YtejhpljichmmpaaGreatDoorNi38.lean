/- Proved: what its theorems say. -/
import Derived.Test.YtejhpljichmmpaaGreatDoorNi24
import Derived.Test.YtejhpljichmmpaaGreatDoorNi35
set_option linter.unusedVariables false
set_option linter.unusedSimpArgs false
set_option maxHeartbeats 8000000
set_option maxRecDepth 100000
namespace Go.Proofs.YtejhpljichmmpaaGreatDoor
open Go.ChangeShapes Go.WideShapes Go.ChangeAt Go.RowKit
open M2
def Qhv (zss:List (List Int)) (k:Nat):List Int:=zss.map (fun r=>r.getD k 0)
theorem Qff (zss:List (List Int)) (k:Nat):(Qhv zss k).length=zss.length:=by simp [Qhv]
theorem Qgs (zss:List (List Int)) (k j:Nat) (h:j<zss.length):(Qhv zss k).getD j 0=(zss.getD j []).getD k 0:=by simp [Qhv,List.getD,h]
def cqN (zss:List (List Int)) (k:Nat):List Nat:=(Qhv zss k).map Int.toNat
def pnN (ps:List Int):List Nat:=ps.map Int.toNat
def ctB (ps:List Int) (zss:List (List Int)) (k:Nat):Bool:=decide (Qae (pnN ps)<=coN (cqN zss k) (pnN ps)*2)
def ctN (ps:List Int) (zss:List (List Int)) (k:Nat):Nat:=if coN (cqN zss k) (pnN ps)*2<Qae (pnN ps) then coN (cqN zss k) (pnN ps) else Qae (pnN ps) - coN (cqN zss k) (pnN ps)
def whB (n:Nat) (ps:List Int) (zss:List (List Int)):List Bool:=(List.range n).map (ctB ps zss)
def whX (n:Nat) (ps:List Int) (zss:List (List Int)):List (List Int):=(List.range n).map (fun k=>toI (dig (ctN ps zss k)))
theorem Qyg (n:Nat) (ps:List Int) (zss:List (List Int)):(whB n ps zss).length=n:=by simp [whB]
theorem Qkg (n:Nat) (ps:List Int) (zss:List (List Int)):(whX n ps zss).length=n:=by simp [whX]
theorem Qkh (n:Nat) (ps:List Int) (zss:List (List Int)) (k:Nat) (h:k<n):(whB n ps zss).getD k false=ctB ps zss k:=by simp [whB,List.getD,h]
theorem Qki (n:Nat) (ps:List Int) (zss:List (List Int)) (k:Nat) (h:k<n):(whX n ps zss).getD k []=toI (dig (ctN ps zss k)):=by simp [whX,List.getD,h]
structure Gr (n:Nat) (ps:List Int) (zss:List (List Int)):Prop where
 bas:Qfp ps=true
 len:zss.length=ps.length
 row:∀j,j<ps.length->(zss.getD j []).length=n/\∀i,i<n->0<=(zss.getD j []).getD i 0/\(zss.getD j []).getD i 0<ps.getD j 0
theorem Qsv {xs:List Int} (h:∀i,i<xs.length->0<=xs.getD i 0):toZ (xs.map Int.toNat)=xs:=by
 rw [toZ,List.map_map];refine (List.map_congr_left fun x hx=>?_).trans (List.map_id _);obtain ⟨i,hi,rfl⟩:=List.getElem_of_mem hx;have:=h i hi;rw [show xs.getD i 0=xs[i] by simp [List.getD,hi]] at this
 show ((xs[i].toNat:Nat):Int)=xs[i]
 omega
theorem Gr.ps {n:Nat} {ps:List Int} {zss:List (List Int)} (h:Gr n ps zss):ps=toZ (pnN ps)/\Bas (pnN ps):=by
 obtain ⟨qs,e,hb⟩:=Qt7 h.bas;have:pnN ps=qs:=by unfold pnN;rw [e];exact Qui qs
 rw [this];exact ⟨e,hb⟩
theorem Gr.col {n:Nat} {ps:List Int} {zss:List (List Int)} (h:Gr n ps zss) (k:Nat) (hk:k<n):Qhv zss k=toZ (cqN zss k)/\Res (cqN zss k) (pnN ps):=by
 have e1:Qhv zss k=toZ (cqN zss k):=by
  unfold cqN;rw [Qsv];intro i hi;rw [Qff] at hi;rw [Qgs zss k i hi];exact ((h.row i (by have:=h.len;omega)).2 k hk).1
 refine ⟨e1,h.ps.2,?_,fun i hi=>?_⟩
 ·unfold cqN pnN;rw [List.length_map,Qff,h.len,List.length_map]
 ·have hi':i<ps.length:=by simpa [pnN] using hi
  have hz:i<zss.length:=by have:=h.len;omega
  have h1:=(h.row i hi').2 k hk
  have e2:(cqN zss k).getD i 0=((zss.getD i []).getD k 0).toNat:=by
   rw [<- Qgs zss k i hz];unfold cqN;have:i<(Qhv zss k).length:=by rw [Qff];exact hz
   simp [List.getD,this]
  have e3:(pnN ps).getD i 0=(ps.getD i 0).toNat:=by simp [pnN,List.getD,hi']
  rw [e2,e3];omega
theorem Qyh {n:Nat} {ps:List Int} {zss:List (List Int)} (h:Gr n ps zss) (k:Nat) (hk:k<n):(dig (ctN ps zss k)).length<=7:=by
 obtain ⟨_,hR⟩:=h.col k hk;unfold ctN;split
 ·exact Qc3 hR
 ·exact Nat.le_trans (cnt_mono (Nat.sub_le _ _)) hR.bas.cnt
theorem Qsw {n:Nat} {ps:List Int} {zss:List (List Int)} (h:Gr n ps zss) (k:Nat) (hk:k<n) (v u:Value) (W:World) (hv:Row W v (Qhv zss k)) (hu:Row W u ps) (hf:Fit u) :
 Calls Tryz.prog 152 #[v,u] W fun e w'=>∃v',e=.returned (.agg #[.bool (ctB ps zss k),v'])/\Old W w'/\Own w' W.heap.size v' (toI (dig (ctN ps zss k))):=by
 obtain ⟨e1,hR⟩:=h.col k hk;obtain ⟨e2,hb⟩:=h.ps;rw [e1] at hv;rw [e2] at hu;unfold ctB ctN
 by_cases hc:coN (cqN zss k) (pnN ps)*2<Qae (pnN ps)
 ·rw [if_pos hc,decide_eq_false (by omega)];exact Qnj (cqN zss k) (pnN ps) v u W hv hu hf hR hc
 ·rw [if_neg hc,decide_eq_true (by omega)];exact Ql2 (cqN zss k) (pnN ps) v u W hv hu hf hR hc
theorem Ql3 (zss:List (List Int)) (v:Value) (q:Nat) (w:World) (hv:Qbx w v zss) (h0:1<=zss.length/\zss.length<=1000) (hq:∀j,j<zss.length->q<(zss.getD j []).length/\(zss.getD j []).length<=1000) :
 Calls Tryz.prog 153 #[v,.int .i64 q] w fun e w'=>e=.returned (.slice (some ⟨w.heap.size,0,none⟩) zss.length zss.length)/\Old w w'/\Own w' w.heap.size (.slice (some ⟨w.heap.size,0,none⟩) zss.length zss.length) (Qhv zss q):=by
 obtain ⟨i0,hi,hz0,hz1,hz2⟩:=info_parts Tryz.infoInt;obtain ⟨a0,cap0,ev⟩:=hv.slice;subst ev;rcases hv with ⟨a,cap,e,e2⟩ | ⟨b,o,cap,us,e,hb2,h3,hc⟩
 ·subst e2;simp at h0
 simp only [Value.slice.injEq,true_and] at e;obtain ⟨rfl,rfl⟩:=e;have HC:Hid (∀j,j<zss.length->w.cell? ⟨b,o+j,none⟩=some (us j)/\Row w (us j) (zss.getD j [])):=hc;have HQ:Hid (∀j,j<zss.length->q<(zss.getD j []).length/\(zss.getD j []).length<=1000):=hq;have HZ:Hid (∀j,j<zss.length->(Qhv zss q).getD j 0=(zss.getD j []).getD q 0):=fun j hj=>Qgs zss q j hj
 have hlen:(Qhv zss q).length=zss.length:=Qff zss q;generalize Qhv zss q=zs at *;clear hc hq;go_enter Tryz.func153,Tryz.ntmps153;go_wp2_with (at_make;refine wpList_make_full _ rfl _ _ 22 rfl w.heap.size 3 i0 (.int .i64 0) 1 Tryz.underlying22 hi hz0 hz1 .i64 .i64 _ _ zss.length rfl rfl rfl rfl (by rw [hz2];omega) (by unfold maxLen;omega) (Nat.le_refl _) ?_;intro w3 hown hgrow)
 have HO:Hid (Qbd w3 w.heap.size w.heap.size zss.length (List.replicate zss.length 0)):=by
  rw [Qbk] at hown;exact hown
 have HG3:Hid (Old w w3):=Old.by_ (Old.refl _) hgrow (fun b hb=>by cases hb);clear hown hgrow
 go_loopw [13,6,7] (fun i _ _ W=>∃k:Nat,k<=zss.length/\i=.int .i64 k/\Hid (Qbd W w.heap.size w.heap.size zss.length (Qbi zs k))/\Hid (Old w W)) (fun i _ _ _=>zss.length - (intOf i).toNat)
 case atStart=>exact ⟨0,by omega,rfl,(by show Qbd _ _ _ _ _;rw [Qcg,hlen];exact HO.out),HG3⟩
 case round=>
  obtain ⟨k,hk,rfl,HO1,HG4⟩:=hrel;clear HO HG3
  by_cases hlt:k<zss.length
  ·have d1:decide ((k:Int)<(zss.length:Int))=true:=by simp;omega
   obtain ⟨c0,r0⟩:=HC.out k hlt;obtain ⟨l1,l2⟩:=HQ.out k hlt;have hzk:=HZ.out k hlt;rcases r0 with ⟨x,y,e,e'⟩ | ⟨b3,o3,cap3,e,hb3,h03,hc3⟩
   ·rw [e'] at l1;simp at l1
   have q1:wr.cell? ⟨b,o+k,none⟩=some (.slice (some ⟨b3,o3,none⟩) (zss.getD k []).length cap3):=((HG4.out.cell (p:=⟨b,o+k,none⟩) hb2).trans c0).trans (by rw [e])
   have q2:wr.cell? ⟨b3,o3+q,none⟩=some (.int .i64 ((zss.getD k []).getD q 0)):=(HG4.out.cell (p:=⟨b3,o3+q,none⟩) hb3).trans (hc3 q l1)
   have HPU:Hid (Qbd (wr.setCell ⟨w.heap.size,k,none⟩ (.int .i64 ((zss.getD k []).getD q 0))) w.heap.size w.heap.size zss.length (Qbi zs (k+1))):=by
    have:=HO1.out.put k (zs.getD k 0);rw [Qco zs k (by omega),hzk] at this;exact this
   have i1:(k:Int)<(zss.length:Int):=by omega
   have i2:(q:Int)<((zss.getD k []).length:Int):=by omega
   have c3:=HO1.out.get (Qbg zs k (by omega) |>.trans hlen) k hlt;have c4:=HO1.out.free k;generalize (Qbi zs k).getD k 0=oldv at *;have HG6:Hid (Old w (wr.setCell ⟨w.heap.size,k,none⟩ (.int .i64 ((zss.getD k []).getD q 0)))):=HG4.out.own (p:=⟨w.heap.size,k,none⟩) (Nat.le_refl _) _;clear c0 e hc3 hzk HO1 l1;generalize (zss.getD k []).getD q 0=y at *;generalize (zss.getD k []).length=n at *;go_wp2_with fail;exact ⟨⟨k+1,by omega,by go_num,HPU,HG6⟩,by simp [intOf];omega⟩
  ·have d1:decide ((k:Int)<(zss.length:Int))=false:=by simp;omega
   obtain rfl:k=zss.length:=by omega
   have HF:Hid (Own wr w.heap.size (.slice (some ⟨w.heap.size,0,none⟩) zss.length zss.length) zs):=by
    have:=HO1.out.own ((Qbg zs zss.length (by omega)).trans hlen);rw [show Qbi zs zss.length=zs by rw [<- hlen];exact Qcx zs] at this;exact this
   go_wp2_with fail;go_ret;exact ⟨rfl,HG4.out,HF.out⟩
theorem Qf1 (Nn:Nat) (ps:List Int) (zss:List (List Int)) (v u:Value) (w:World) (hu:Row w u ps) (hf:Fit u) (hv:Qbx w v zss) (hN:1<=Nn/\Nn<=16) (hps:1<=ps.length/\ps.length<=6) (hG:Gr Nn ps zss) :
 Calls Tryz.prog 96 #[v,u] w fun e w'=>∃v',e=.returned v'/\Old w w'/\Ows (TS 31 2 Nn (elW (whB Nn ps zss) (whX Nn ps zss))) w' w.heap.size w'.heap.size [v']:=by
 obtain ⟨i0,hi,hz0,hz1,hz2⟩:=info_parts Tryz.infoWhole;obtain ⟨a0,c0,rfl⟩:=hu.slice;have hzl:zss.length=ps.length:=hG.len
 have HCO:Hid (∀k,k<Nn->∀W v',Qbx W v' zss->Calls Tryz.prog 153 #[v',.int .i64 k] W fun e w'=>e=.returned (.slice (some ⟨W.heap.size,0,none⟩) ps.length ps.length)/\Old W w'/\Row w' (.slice (some ⟨W.heap.size,0,none⟩) ps.length ps.length) (Qhv zss k)):=fun k hk W v' hr=>by
  have h1:=Ql3 zss v' k W hr (by omega) (fun j hj=>by have:=(hG.row j (by omega)).1;omega);rw [hzl] at h1;exact h1.mono fun e w' h=>⟨h.1,h.2.1,Own.row h.2.2⟩
 have HCE:Hid (∀k,k<Nn->∀W v',Old w W->Row W v' (Qhv zss k)->Calls Tryz.prog 152 #[v',.slice a0 ps.length c0] W fun e w'=>∃v',e=.returned (.agg #[.bool ((whB Nn ps zss).getD k false),v'])/\Old W w'/\Own w' W.heap.size v' ((whX Nn ps zss).getD k [])):=fun k hk W v' g hr=>by
  rw [Qkh Nn ps zss k hk,Qki Nn ps zss k hk];exact Qsw hG k hk v' _ W hr (hu.old g) hf
 have HEL:Hid (∀k,elW (whB Nn ps zss) (whX Nn ps zss) k=TB ((whB Nn ps zss).getD k false) (TI ((whX Nn ps zss).getD k []))):=fun k=>rfl
 have HGD:Hid (∀j,GoodT (elW (whB Nn ps zss) (whX Nn ps zss) j)):=Qjn _ _;have RV:Hid (Qbx w v zss):=hv
 obtain ⟨b,o,cap,ev,x0,u0,n0,cc0,eu⟩:∃b o cap,v=.slice (some ⟨b,o,none⟩) ps.length cap/\∃x0 u0 n0 cc0,w.cell? ⟨b,o,none⟩=some (.slice u0 Nn cc0)/\x0=n0/\n0=cc0:=by
  rcases hv with ⟨a,cap,e,e2⟩ | ⟨b,o,cap,us,e,hb2,h3,hc⟩
  ·rw [e2] at hzl;simp at hzl;omega
  ·obtain ⟨h5,h6⟩:=hc 0 h3;obtain ⟨ua,uc,ue⟩:=h6.slice;have h7:=(hG.row 0 (by omega)).1;rw [ue,h7] at h5;exact ⟨b,o,cap,by rw [e,hzl],uc,ua,uc,uc,by simpa using h5,rfl,rfl⟩
 obtain ⟨q0,rfl,rfl⟩:=eu;subst ev;generalize elW (whB Nn ps zss) (whX Nn ps zss)=Es at *;generalize whB Nn ps zss=bs at *;generalize whX Nn ps zss=yss at *;have p0:(0:Int)<(ps.length:Int):=by omega
 have p1:0<ps.length:=by omega
 clear hv hf hG hzl hu;go_enter Tryz.func96,Tryz.ntmps96;go_wp2_with (at_make;refine wpList_make_full _ rfl _ _ 110 rfl 0 31 i0 (.agg #[.bool false,.slice none 0 0]) 2 Tryz.underlying110 hi hz0 hz1 .i64 .i64 _ _ Nn rfl rfl rfl rfl (by rw [hz2];omega) (by unfold maxLen;omega) (Nat.zero_le _) ?_;intro w3 hown hgrow);have HO:Hid (TSc 31 2 Nn 0 Es w3 w.heap.size Nn _ (fun _ _=>False)):=TSc.start (by simpa using hown);have HG3:Hid (Old w w3):=Below.grown (Below.refl _ _) hgrow (Nat.le_refl _) (fun _ h=>by cases h);clear hown hgrow q0
 go_loopw [14,6] (fun i _ W=>∃(k:Nat) (vs:List Value) (Bs:Nat->Nat->Prop),k<=Nn/\i=.int .i64 k/\Hid (TSc 31 2 Nn k Es W w.heap.size Nn vs Bs)/\Hid (∀j b,j<k->Bs j b->w.heap.size<b)/\Hid (Old w W)) (fun i _ _=>Nn - (intOf i).toNat)
 case atStart=>exact ⟨0,_,_,by omega,rfl,HO,(fun j b hj=>by omega),HG3⟩
 case round=>
  obtain ⟨k,vs,Bs,hk,rfl,H1,HB,HG4⟩:=hrel;clear HO HG3
  by_cases hlt:k<Nn
  ·have d1:decide ((k:Int)<(Nn:Int))=true:=by simp;omega
   have ilt:(k:Int)<(Nn:Int):=by omega
   have cc:=HCO.out k hlt;have ce:=HCE.out k hlt;have HEK:Hid (Es k=TB (bs.getD k false) (TI (yss.getD k []))):=HEL.out k;have hsr:w.heap.size<wr.heap.size:=Qbc H1.out.row;generalize bs.getD k false=sg at *;generalize yss.getD k []=xs at *
   have HX:Hid (∀w6 x6 c6 Bz,Old wr w6->TI xs w6 Bz [.slice x6 xs.length c6]->(∀b,Bz b->wr.heap.size<=b)->(∃vs',TSc 31 2 Nn (k+1) Es ((w6.setCell ⟨w.heap.size,k*2,none⟩ (.bool sg)).setCell ⟨w.heap.size,k*2+1,none⟩ (.slice x6 xs.length c6)) (w.heap.size) Nn vs' (fun q=>if q=k then Bz else Bs q))/\(∀j b,j<k+1->(fun q=>if q=k then Bz else Bs q) j b->w.heap.size<b)/\Old w ((w6.setCell ⟨w.heap.size,k*2,none⟩ (.bool sg)).setCell ⟨w.heap.size,k*2+1,none⟩ (.slice x6 xs.length c6))):=fun w6 x6 c6 Bz g6 hTI hlo=>by
    refine ⟨(H1.out.old HGD.out g6).store2 HGD.out hlt _ _ (B:=Bz) (fun W' hW'=>?_) (fun hb=>by have:=hlo _ hb;omega) (fun j hj b h1 h2=>?_),fun j b hj hb=>?_,?_⟩
    ·rw [HEK.out];exact ⟨_,rfl,(Qdc xs).far hTI (fun b hb=>hW' b (by have:=hlo b hb;omega))⟩
    ·have h4:=H1.out.lt HGD.out j b hj h1;have:=hlo b h2;omega
    ·by_cases e:j=k
     ·simp only [e,if_true] at hb;have:=hlo b hb;omega
     ·simp only [e,if_false] at hb;exact HB.out j b (by omega) hb
    ·exact ((Old.trans HG4.out g6).own (p:=⟨w.heap.size,k*2,none⟩) (by simp) _).own (p:=⟨w.heap.size,k*2+1,none⟩) (by simp) _
   have HCL:Hid (∀w6,Old wr w6->∀i,i<2->(∃z,w6.cell? ⟨w.heap.size,k*2+i,none⟩=some z)/\w6.frozen? ⟨w.heap.size,k*2+i,none⟩=false):=fun w6 g6 i hi2=>by
    have H2:=H1.out.old HGD.out g6;have h5:=H2.cell k i hlt hi2;have h6:=Qbs H2.row.1 k hlt;exact ⟨⟨_,h5.trans (List.getElem?_eq_getElem (by omega))⟩,H2.frozen _⟩
   have RB4:=RV.out.old HG4.out;clear H1 HB HEK;go_wp2_with fail;refine (cc _ _ RB4).mono ?_
   rintro e w5 ⟨rfl,q5,o5⟩;have Q5:Hid (Old wr w5):=q5;have O5:Hid (Row w5 (.slice (some ⟨wr.heap.size,0,none⟩) ps.length ps.length) (Qhv zss k)):=o5;clear q5 o5;go_wp2_with fail;refine (ce _ _ (Old.trans HG4.out Q5.out) O5.out).mono ?_
   rintro e w6 ⟨v6,rfl,q6,o6⟩;obtain ⟨x6,c6,rfl⟩:=(Own.row o6).slice;have Q6:Hid (Old wr w6):=Old.trans Q5.out q6;have O6:Hid (Own w6 wr.heap.size (.slice x6 xs.length c6) xs):=o6.low Q5.out.size;clear q6 o6;obtain ⟨⟨z0,hz0⟩,hf0⟩:=HCL.out w6 Q6.out 0 (by omega);obtain ⟨⟨z1,hz1⟩,hf1⟩:=HCL.out w6 Q6.out 1 (by omega);simp only [Nat.add_zero] at hz0 hf0;obtain ⟨Bz,hTI,hlo⟩:=TI.of O6.out;obtain ⟨⟨vs',n1⟩,n2,n3⟩:=HX.out w6 x6 c6 Bz Q6.out hTI hlo;have N1:Hid (TSc 31 2 Nn (k+1) Es ((w6.setCell ⟨w.heap.size,k*2,none⟩ (.bool sg)).setCell ⟨w.heap.size,k*2+1,none⟩ (.slice x6 xs.length c6)) w.heap.size Nn vs' (fun q=>if q=k then Bz else Bs q)):=n1;have N2:Hid (∀j b,j<k+1->(fun q=>if q=k then Bz else Bs q) j b->w.heap.size<b):=n2;have N3:Hid (Old w ((w6.setCell ⟨w.heap.size,k*2,none⟩ (.bool sg)).setCell ⟨w.heap.size,k*2+1,none⟩ (.slice x6 xs.length c6))):=n3;clear n1 n2 n3 hTI hlo HX HCL;go_wp2_with fail;exact ⟨⟨k+1,vs',_,by omega,by go_num,N1,N2,N3⟩,by simp [intOf];omega⟩
  ·have d1:decide ((k:Int)<(Nn:Int))=false:=by simp;omega
   obtain rfl:k=Nn:=by omega
   have HE:Hid (Ows (TS 31 2 k Es) wr w.heap.size wr.heap.size [.slice (some ⟨w.heap.size,0,none⟩) k k]):=H1.out.done HGD.out (Nat.le_refl _) (fun j b hj hb=>Nat.le_of_lt (HB.out j b hj hb));go_wp2_with fail;go_ret;exact ⟨_,rfl,HG4.out,HE.out⟩
end Go.Proofs.YtejhpljichmmpaaGreatDoor
namespace Go.Proofs.YtejhpljichmmpaaGreatDoor
open Go.ChangeShapes Go.WideShapes Go.ChangeAt Go.RowKit
def TV (x:Value):Qbm:=fun W B cs=>cs=[x]/\∀b,¬B b
theorem Qsx (x:Value):GoodT (TV x):=⟨fun h _=>h,fun h b hb=>absurd hb (h.2 b)⟩
theorem Qnl (N:Int) (a:Bool) (P R:Nat->Int) (us:Nat->Value) (m p cap:Nat) (w:World) (hpl:p<w.heap.size) (hm:1<=m/\m<=1000)
 (hC:∀k,k<m->w.cell? ⟨p,k*5,none⟩=some (.int .i64 (P k))/\w.cell? ⟨p,k*5+1,none⟩=some (.int .i64 N)/\w.cell? ⟨p,k*5+2,none⟩=some (.int .i64 (R k))/\w.cell? ⟨p,k*5+3,none⟩=some (.bool a)/\w.cell? ⟨p,k*5+4,none⟩=some (us k)) (hU:∀k,k<m->∃y n c,us k=.slice y n c) :
 Calls Tryz.prog 97 #[.slice (some ⟨p,0,none⟩) m cap] w fun e w'=>e=.returned (.slice (some ⟨w.heap.size,0,none⟩) m m)/\Old w w'/\w.heap.size<w'.heap.size/\∀j,j<m->w'.cell? ⟨w.heap.size,j,none⟩=some (us j):=by
 obtain ⟨j0,ji,jz0,jz1,jz2⟩:=info_parts Tryz.infoInts;have HC:=Qag hC;have HU:=Qag hU;clear hC hU;go_enter Tryz.func97,Tryz.ntmps97;go_wp2_with (at_make;refine wpList_make_full _ rfl _ _ 63 rfl 0 22 j0 (.slice none 0 0) 1 Tryz.underlying63 ji jz0 jz1 .i64 .i64 _ _ m rfl rfl rfl rfl (by rw [jz2];omega) (by unfold maxLen;omega) (Nat.zero_le _) ?_;intro w1 hown hgrow);have HO:Hid (TSc 22 1 m 0 (fun k=>TV (us k)) w1 w.heap.size m _ (fun _ _=>False)):=TSc.start hown;have HG:Hid (Old w w1):=Below.grown (Below.refl _ _) hgrow (Nat.le_refl _) (fun _ h=>by cases h);clear hown hgrow
 go_loopw [11,4,5] (fun i _ _ W=>∃(k:Nat) (vs:List Value) (Ds:Nat->Nat->Prop),k<=m/\i=.int .i64 k/\Hid (TSc 22 1 m k (fun k=>TV (us k)) W w.heap.size m vs Ds)/\Hid (Old w W)) (fun i _ _ _=>m - (intOf i).toNat)
 case atStart=>exact ⟨0,_,_,by omega,rfl,HO,HG⟩
 case round=>
  obtain ⟨k,vs,Ds,hk,rfl,H1,HG1⟩:=hrel;clear HO HG
  by_cases hlt:k<m
  ·have d1:decide ((k:Int)<(m:Int))=true:=by simp;omega
   obtain ⟨c0,c1,c2,c3,c4⟩:=HC.out k hlt;obtain ⟨y,n,c,eu⟩:=HU.out k hlt;rw [eu] at c4;have q0:=(HG1.out.cell (p:=⟨p,k*5,none⟩) hpl).trans c0;have q1:=(HG1.out.cell (p:=⟨p,k*5+1,none⟩) hpl).trans c1;have q2:=(HG1.out.cell (p:=⟨p,k*5+2,none⟩) hpl).trans c2;have q3:=(HG1.out.cell (p:=⟨p,k*5+3,none⟩) hpl).trans c3;have q4:=(HG1.out.cell (p:=⟨p,k*5+4,none⟩) hpl).trans c4;have hsr:w.heap.size<wr.heap.size:=Qbc H1.out.row
   have hst:∃vs',TSc 22 1 m (k+1) (fun k=>TV (us k)) (wr.setCell ⟨w.heap.size,k,none⟩ (.slice y n c)) w.heap.size m vs' (fun q=>if q=k then (fun _=>False) else Ds q):=
    H1.out.store1 (fun j=>Qsx _) hlt _ (B:=fun _=>False) (fun W' hW'=>⟨by rw [eu],fun b h=>h⟩) (fun h=>h) (fun j hj b h1 h2=>h2)
   obtain ⟨vs',hst⟩:=hst
   obtain ⟨z,hz⟩:∃z,wr.cell? ⟨w.heap.size,k,none⟩=some z:=by
    have h5:=H1.out.cell k 0 hlt (by omega);rw [Nat.mul_one,Nat.add_zero] at h5;have h6:=Qbs H1.out.row.1 k hlt;exact ⟨_,h5.trans (List.getElem?_eq_getElem (by omega))⟩
   have hfz:wr.frozen? ⟨w.heap.size,k,none⟩=false:=H1.out.frozen _
   generalize P k=P' at *;generalize R k=R' at *;have HN:Hid (TSc 22 1 m (k+1) (fun k=>TV (us k)) ((wr.setCell ⟨w.heap.size,k,none⟩ (.slice y n c)).alloc (.cells #[.int .i64 P',.int .i64 N,.int .i64 R',.bool a,.slice y n c] 106)) w.heap.size m vs' (fun q=>if q=k then (fun _=>False) else Ds q)):=hst.old (fun j=>Qsx _) ((Old.refl _).alloc _);have HG2:Hid (Old w ((wr.setCell ⟨w.heap.size,k,none⟩ (.slice y n c)).alloc (.cells #[.int .i64 P',.int .i64 N,.int .i64 R',.bool a,.slice y n c] 106))):=(HG1.out.own (p:=⟨w.heap.size,k,none⟩) (Nat.le_refl _) _).alloc _;clear c0 c1 c2 c3 c4 hst H1 eu;go_wp2_with fail;exact ⟨⟨k+1,vs',_,by omega,by go_num,HN,HG2⟩,by simp [intOf];omega⟩
  ·have d1:decide ((k:Int)<(m:Int))=false:=by simp;omega
   obtain rfl:k=m:=by omega
   have HE:Hid (w.heap.size<wr.heap.size/\∀j,j<k->wr.cell? ⟨w.heap.size,j,none⟩=some (us j)):=⟨Qbc H1.out.row,fun j hj=>by
    have h5:=H1.out.cell j 0 hj (by omega);rw [Nat.mul_one,Nat.add_zero] at h5;rw [h5,(H1.out.el j hj).1];rfl⟩
   go_wp2_with fail;go_ret;exact ⟨rfl,HG1.out,HE.out⟩
theorem Qnm (Nn:Nat) (ps:List Int) (Rf:Nat->Int) (zss:List (List Int)) (v:Value) (w:World) (hm:1<=ps.length/\ps.length<=1000) (hz:zss.length=ps.length) (h:RdX Nn ps Rf zss w v) :
 Calls Tryz.prog 97 #[v] w fun e w'=>e=.returned (.slice (some ⟨w.heap.size,0,none⟩) ps.length ps.length)/\Old w w'/\Qbx w' (.slice (some ⟨w.heap.size,0,none⟩) ps.length ps.length) zss:=by
 obtain ⟨us,⟨p,cap,rfl,hp,hc⟩,hus⟩:=h
 refine (Qnl Nn false (fun k=>ps.getD k 0) Rf us ps.length p cap w hp hm hc (fun k hk=>by
  obtain ⟨_,x,c,e⟩:=hus k hk;exact ⟨x,_,c,e⟩)).mono fun e w' h=>?_
 obtain ⟨h1,h2,h3,h4⟩:=h;refine ⟨h1,h2,.inr ⟨_,0,ps.length,us,by rw [hz],h3,by omega,fun j hj=>?_⟩⟩;rw [Nat.zero_add];exact ⟨h4 j (by omega),(hus j (by omega)).1.old h2⟩
def WsX (Nn:Nat) (ps:List Int) (zss:List (List Int)) (base:Nat) (W:World) (v:Value):Prop:=∃hi,Ows (TS 31 2 Nn (elW (whB Nn ps zss) (whX Nn ps zss))) W base hi [v]
theorem WsX.old {Nn:Nat} {ps:List Int} {zss:List (List Int)} {base:Nat} {W W':World} {v:Value} (h:WsX Nn ps zss base W v) (q:Old W W'):WsX Nn ps zss base W' v:=by
 obtain ⟨hi,h⟩:=h;exact ⟨hi,Ows.old (Qwi _ _ _ (Qjn _ _)) h q⟩
theorem Qsy {Nn:Nat} {ps:List Int} {zss:List (List Int)} (hb:Qfp ps=true) (hz:zss.length=ps.length) (h:OkX Nn ps zss):Gr Nn ps zss:=⟨hb,hz,h⟩
end Go.Proofs.YtejhpljichmmpaaGreatDoor
namespace Go.Proofs.YtejhpljichmmpaaGreatDoor
open Go.ChangeShapes Go.WideShapes Go.ChangeAt Go.RowKit
open M2
theorem Qqa {ps:List Nat} (hb:Bas ps):0<Qae ps:=by
 have:=Qho ps hb.lo ps.length (Nat.le_refl _)
 rwa [List.take_length] at this
def ctZ (ps:List Int) (zss:List (List Int)) (k:Nat):Int:=if ctB ps zss k then -(ctN ps zss k:Int) else (ctN ps zss k:Int)
theorem Qkj {n:Nat} {ps:List Int} {zss:List (List Int)} (h:Gr n ps zss) (k:Nat) (hk:k<n):ng (ctZ ps zss k)=ctB ps zss k/\dg (ctZ ps zss k)=dig (ctN ps zss k):=by
 have hq:0<Qae (pnN ps):=Qqa h.ps.2;have hc:coN (cqN zss k) (pnN ps)<Qae (pnN ps):=Nat.mod_lt _ hq
 have hn:ctB ps zss k=true->0<ctN ps zss k:=fun hb=>by
  unfold ctB at hb;have:=of_decide_eq_true hb;unfold ctN;rw [if_neg (by omega)];omega
 unfold ctZ ng dg
 cases hb:ctB ps zss k
 ·simp
 ·have:=hn hb;simp;omega
theorem Q05 {z:Int} {k:Nat} (h:(dg z).length<=k):z.natAbs<LB^k:=by
 rcases Nat.lt_or_ge z.natAbs (LB^k) with h1 | h1
 ·exact h1
 ·have:=Qil h1;unfold dg at h;omega
theorem Ql4 {n:Nat} {ps:List Int} {zss:List (List Int)} (h:Gr n ps zss) (k:Nat) (hk:k<n):(dg (ctZ ps zss k)).length<=7:=by
 rw [(Qkj h k hk).2];exact Qyh h k hk
theorem Qz5:LB=268435456:=rfl
theorem WsX.at {Nn:Nat} {ps:List Int} {zss:List (List Int)} {base:Nat} {W:World} {v:Value} (h0:0<Nn) (hG:Gr Nn ps zss) (h:WsX Nn ps zss base W v) :
 ∃b cap,v=.slice (some ⟨b,0,none⟩) Nn cap/\b<W.heap.size/\∀k,k<Nn->∃a c,W.cell? ⟨b,k*2,none⟩=some (.bool (ng (ctZ ps zss k)))/\W.cell? ⟨b,k*2+1,none⟩=some (.slice a (dg (ctZ ps zss k)).length c)/\Row W (.slice a (dg (ctZ ps zss k)).length c) (toI (dg (ctZ ps zss k))):=by
 obtain ⟨hi,_,B,hT,_⟩:=h;rcases hT with ⟨e,_⟩ | ⟨p,cap,vs,Bs,e,hc,_⟩
 ·omega
 simp at e;subst e;refine ⟨p,cap,rfl,Qbc hc.row,fun k hk=>?_⟩;obtain ⟨x,e,a,c,e2,ho,_⟩:=hc.el k hk;have c0:=hc.cell k 0 hk (by omega);have c1:=hc.cell k 1 hk (by omega);obtain ⟨f1,f2⟩:=Qkj hG k hk;have eX:=Qki Nn ps zss k hk;have eB:=Qkh Nn ps zss k hk;rw [eX] at ho e2;rw [e] at c0 c1;simp at e2;subst e2;refine ⟨a,c,?_,?_,?_⟩
 ·rw [f1,<- eB];exact c0
 ·rw [f2];have hl:(toI (dig (ctN ps zss k))).length=(dig (ctN ps zss k)).length:=by simp [toI]
  rw [<- hl];exact c1
 ·rw [f2];have hl:(toI (dig (ctN ps zss k))).length=(dig (ctN ps zss k)).length:=by simp [toI]
  have:=Own.row ho;rw [hl] at this;exact this
end Go.Proofs.YtejhpljichmmpaaGreatDoor
namespace Go.Proofs.YtejhpljichmmpaaGreatDoor
open Go.ChangeShapes Go.WideShapes Go.ChangeAt Go.RowKit
theorem Quv {W:World} {lo g:Nat} {v:Value} {xs:List Int} {cs:Array Value} {fr:Nat×Nat} (h:Own W lo v xs) (hg:W.heap[g]? = some (.cells cs 31 fr)) (c:Array Value):Own (W.setRow g c) lo v xs:=by
 refine ⟨h.1,?_⟩;rcases h.2 with hn | ⟨p,cap,cur,rfl,hb,hgg,rest⟩
 ·exact .inl hn
 ·refine .inr ⟨p,cap,cur,rfl,hb,?_,rest⟩;rw [Qbu _ _ _ _ (fun e=>by rw [e,hg] at hgg;simp at hgg)];exact hgg
end Go.Proofs.YtejhpljichmmpaaGreatDoor
namespace Go.Proofs.YtejhpljichmmpaaGreatDoor
open Go.ChangeShapes Go.WideShapes Go.ChangeAt Go.RowKit
open M2
theorem TSW.rowW {T:TypeId} {bs:List Bool} {xss:List (List Int)} {W:World} {B:Nat->Prop} {v:Value} (hb:bs.length=xss.length) (h:TS T 2 xss.length (elW bs xss) W B [v]):Qxj W v bs xss:=by
 refine ⟨hb,?_⟩;rcases h with ⟨h0,h1,_⟩ | ⟨p,cap,vs,Bs,e,hc,_⟩
 ·simp at h1;exact .inl ⟨none,0,h1,List.length_eq_zero_iff.1 h0⟩
 ·simp at e;subst e;rcases Nat.eq_zero_or_pos xss.length with h0 | h0
  ·rw [h0];exact .inl ⟨_,_,rfl,List.length_eq_zero_iff.1 h0⟩
  ·refine .inr ⟨p,0,cap,fun j=>(Qa4 2 vs j).getD 1 (.slice none 0 0),rfl,Qbc hc.row,h0,fun j hj=>?_⟩;obtain ⟨x,e0,e1,hE⟩:=TB.two (hc.el j hj);have c0:=hc.cell j 0 hj (by omega);have c1:=hc.cell j 1 hj (by omega);have ex:(Qa4 2 vs j).getD 1 (.slice none 0 0)=x:=by simp [List.getD,e1]
   show W.cell? ⟨p,0+j*2,none⟩=_/\W.cell? ⟨p,0+j*2+1,none⟩=some ((Qa4 2 vs j).getD 1 (.slice none 0 0))/\Row W ((Qa4 2 vs j).getD 1 (.slice none 0 0)) _
   rw [ex,Nat.zero_add];exact ⟨c0.trans e0,c1.trans e1,hE.row⟩
theorem Qkk (Nn:Nat) (ps:List Int) (zss:List (List Int)) (v u:Value) (w:World) (hv:Row w v ps) (h1:Qbx w u zss) (hN:1<=Nn/\Nn<=16) (hps:1<=ps.length/\ps.length<=6) (hG:Gr Nn ps zss) :
 Calls Tryz.prog 101 #[.agg #[.int .i64 Nn,v],u] w fun e w'=>∃v',e=.returned v'/\Old w w'/\Qxj w' v' (whB Nn ps zss) (whX Nn ps zss):=by
 obtain ⟨i0,hi,hz0,hz1,hz2⟩:=info_parts Tryz.infoInt;obtain ⟨j0,ji,jz0,jz1,jz2⟩:=info_parts Tryz.infoL2W;obtain ⟨ep,hb⟩:=hG.ps;have hzl:zss.length=ps.length:=hG.len;obtain ⟨a0,c0,ev⟩:=hv.slice;obtain ⟨a1,cap1,e1⟩:=h1.slice;rw [hzl] at e1;subst ev e1;obtain ⟨pz,hpz⟩:∃pz,pz=toI (dig (Qae (pnN ps))):=⟨_,rfl⟩
 obtain ⟨cz,hcz⟩:∃cz:Nat->List Int,∀i,cz i=toI (dig (coN (cqN zss i) (pnN ps))):=⟨_,fun i=>rfl⟩
 have HPR:Hid (∀W,Old w W->Calls Tryz.prog 154 #[.slice a0 ps.length c0] W fun e w'=>∃v',e=.returned v'/\Old W w'/\Row w' v' pz):=fun W g=>by rw [hpz];exact Qf7 (pnN ps) _ W (by rw [<- ep];exact hv.old g) hb.len6 hb.hi
 have HCP:Hid (∀i,i<Nn->∀W v',Old w W->Row W v' (Qhv zss i)->Calls Tryz.prog 156 #[v',.slice a0 ps.length c0] W fun e w'=>∃v2,e=.returned v2/\Old W w'/\Own w' W.heap.size v2 (cz i)):=fun i hi W v' g hr=>by
  obtain ⟨e1,hR⟩:=hG.col i hi;rw [hcz i];exact Qkf (cqN zss i) (pnN ps) v' _ W (by rw [<- e1];exact hr) (by rw [<- ep];exact hv.old g) hR
 have HCT:Hid (∀i,i<Nn->∀W x y base,Own W base x (cz i)->base<=W.heap.size->Row W y pz->Calls Tryz.prog 155 #[x,y] W fun e w'=>∃v3,e=.returned (.agg #[.bool ((whB Nn ps zss).getD i false),v3])/\Old W w'/\Own w' base v3 ((whX Nn ps zss).getD i [])):=fun i hi W x y base hx hbase hy=>by
  obtain ⟨e1,hR⟩:=hG.col i hi;rw [Qkh Nn ps zss i hi,Qki Nn ps zss i hi];rw [hcz i] at hx;rw [hpz] at hy
  have hc2:cnt (coN (cqN zss i) (pnN ps)*2)<=8:=by
   refine Qce ?_
   have h1:=cnt_lt (coN (cqN zss i) (pnN ps));have h3:LB^cnt (coN (cqN zss i) (pnN ps))<=LB^7:=Nat.pow_le_pow_right Qbb (Qc3 hR);have h4:LB^8=LB^7*LB:=Nat.pow_succ ..;have h5:LB^7*2<=LB^7*LB:=Nat.mul_le_mul_left _ (by decide);omega
  exact Qnk (coN (cqN zss i) (pnN ps)) (Qae (pnN ps)) base x y W hx hbase hy (Nat.le_trans (Qc3 hR) (by omega)) (Nat.le_trans hb.cnt (by omega)) (Nat.le_trans hc2 (by omega)) (Nat.mod_lt _ (Nat.pos_of_ne_zero hb.pos))
 have HRL:Hid (∀j,j<ps.length->(zss.getD j []).length=Nn):=fun j hj=>(hG.row j hj).1
 have HCG:Hid (∀i j,j<ps.length->(Qhv zss i).getD j 0=(zss.getD j []).getD i 0):=fun i j hj=>Qgs zss i j (by omega)
 have HCL:Hid (∀i,(Qhv zss i).length=ps.length):=fun i=>by rw [Qff,hzl]
 have HBL:(whB Nn ps zss).length=(whX Nn ps zss).length:=by rw [Qyg,Qkg]
 have HXL:Hid ((whX Nn ps zss).length=Nn):=Qkg Nn ps zss;rcases h1 with ⟨a,cap,e,e'⟩ | ⟨b1,o1,cap,us1,e_1,hb1,h01,hc1⟩
 ·subst e';simp at hzl;omega
 simp only [Value.slice.injEq] at e_1;obtain ⟨rfl,hle1,rfl⟩:=e_1;clear hle1;have HC1:Hid (∀j,j<ps.length->w.cell? ⟨b1,o1+j,none⟩=some (us1 j)/\Row w (us1 j) (zss.getD j [])):=fun j hj=>hc1 j (by omega)
 have HAO:Hid (Old w (w.alloc (.cells #[.int .i64 Nn,.slice a0 ps.length c0] 80))):=(Old.refl w).alloc _;have BA:Hid (Bk (w.alloc (.cells #[.int .i64 Nn,.slice a0 ps.length c0] 80)) w.heap.size #[.int .i64 Nn,.slice a0 ps.length c0] 80):=Bk.new' w _ _ rfl
 have HFI:Hid (∀W v',Ows (TS 85 2 Nn (elW (whB Nn ps zss) (whX Nn ps zss))) W w.heap.size W.heap.size [v']->Qxj W v' (whB Nn ps zss) (whX Nn ps zss)):=fun W v' h2=>by
  obtain ⟨_,B,hT,_⟩:=h2;refine TSW.rowW (T:=85) (B:=B) HBL ?_
  rw [Qkg];exact hT
 have HEL:Hid (∀k,elW (whB Nn ps zss) (whX Nn ps zss) k=TB ((whB Nn ps zss).getD k false) (TI ((whX Nn ps zss).getD k []))):=fun k=>rfl
 have HGD:Hid (∀j,GoodT (elW (whB Nn ps zss) (whX Nn ps zss) j)):=Qjn _ _;generalize elW (whB Nn ps zss) (whX Nn ps zss)=Es at *;generalize whB Nn ps zss=bs at *;generalize whX Nn ps zss=yss at *;clear hc1 hv hG hb ep hzl HBL hpz hcz;go_enter Tryz.func101,Tryz.ntmps101;go_wp2_with fail;refine (HPR.out _ HAO.out).mono ?_
 rintro e w1 ⟨vq,rfl,g1,rq⟩;obtain ⟨aq,cq,rfl⟩:=rq.slice;have RQ:Hid (Row w1 (.slice aq pz.length cq) pz):=rq;have HG1:Hid (Old w w1):=Old.trans HAO.out g1;have B1:Hid (Bk w1 w.heap.size #[.int .i64 Nn,.slice a0 ps.length c0] 80):=BA.out.old g1;clear g1 rq;go_wp2_with fail
 go_loopw [6,7] (fun x i W=>∃(k:Nat) (a:Option Addr) (c:Nat),k<=Nn/\i=.int .i64 k/\x=.slice a k c/\Hid (Ows (TS 85 2 k Es) W w1.heap.size W.heap.size [.slice a k c])/\Hid (Old w1 W)) (fun _ i _=>Nn - (intOf i).toNat)
 case atStart=>exact ⟨0,none,0,by omega,rfl,rfl,Ows.nil (Nat.le_refl _),Old.refl _⟩
 case round=>
  obtain ⟨k,a,c,hk,rfl,rfl,HO,HG2⟩:=hrel;have HGW:Hid (Old w wr):=Old.trans HG1.out HG2.out;have B2:Hid (Bk wr w.heap.size #[.int .i64 Nn,.slice a0 ps.length c0] 80):=B1.out.old HG2.out;have z0:=B2.out.c (i:=0) rfl;have z1:=B2.out.c (i:=1) rfl;have hsw:=HGW.out.size;have hsw1:=HG2.out.size
  by_cases hlt:k<Nn
  ·have d1:decide ((k:Int)<(Nn:Int))=true:=by simp;omega
   have ilt:(k:Int)<(Nn:Int):=by omega
   have kcp:=HCP.out k hlt;have kct:=HCT.out k hlt
   have HT:Hid (∀j,j<ps.length->(Qhv zss k).take (j+1)=(Qhv zss k).take j++[(zss.getD j []).getD k 0]):=fun j hj=>by
    rw [Qdf _ _ (by rw [HCL.out k];exact hj),HCG.out k j hj]
   have HTL:Hid ((Qhv zss k).length=ps.length):=HCL.out k;generalize Qhv zss k=zs at *;generalize cz k=czk at *
   rename World=>wq
   go_wp2_with fail
   go_loopw [8,22,9] (fun x i _ W=>∃(j:Nat) (ra:Option Addr) (rc:Nat),j<=ps.length/\i=.int .i64 j/\x=.slice ra j rc/\Hid (Own W wq.heap.size (.slice ra j rc) (zs.take j))/\Hid (Old wq W)) (fun _ i _ _=>ps.length - (intOf i).toNat)
   case atStart=>exact ⟨0,none,0,by omega,rfl,rfl,(by exact Qc1 _ _),Old.refl _⟩
   case round=>
    obtain ⟨j,ra,rc,hj,rfl,rfl,HO2,HG3⟩:=hrel;have hs2:=HG3.out.size;have HGX:Hid (Old w wr):=Old.trans HGW.out HG3.out
    by_cases hjl:j<ps.length
    ·have d2:decide ((j:Int)<(ps.length:Int))=true:=by simp;omega
     have jlt:(j:Int)<(ps.length:Int):=by omega
     obtain ⟨p1,p2⟩:=HC1.out j hjl;have hrl:=HRL.out j hjl;rcases p2 with ⟨x,y,e,e'⟩ | ⟨b3,o3,cap3,e,hb3,h03,hc3⟩
     ·rw [e'] at hrl;simp at hrl;omega
     have q1:wr.cell? ⟨b1,o1+j,none⟩=some (.slice (some ⟨b3,o3,none⟩) Nn cap3):=((HGX.out.cell (p:=⟨b1,o1+j,none⟩) hb1).trans p1).trans (by rw [e,hrl])
     have q2:wr.cell? ⟨b3,o3+k,none⟩=some (.int .i64 ((zss.getD j []).getD k 0)):=(HGX.out.cell (p:=⟨b3,o3+k,none⟩) hb3).trans (hc3 k (by omega))
     have htk:(zs.take j).length=j:=by rw [List.length_take];have:=HTL.out;omega
     have HT2:Hid (zs.take (j+1)=zs.take j++[(zss.getD j []).getD k 0]):=HT.out j hjl;clear p1 e hc3 hrl h03;generalize (zss.getD j []).getD k 0=q at *;go_wp2_with (at_builtin;go_loud (refine wpList_append_own _ rfl _ _ 22 rfl wq.heap.size 3 i0 (.int .i64 0) 1 8 Tryz.underlying22 hi hz0 hz1 hz2 rfl (by decide) _ _ _ rfl (by have:=HO2.out.alloc (.cells #[.int .i64 q] 3);unfold Own at this;rw [htk] at this;exact this) ⟨wr.heap.size,0,none⟩ 1 1 [.int .i64 q] rfl rfl (one_cell _ _ _) (one_one _) (by unfold maxLen;omega) (by omega) (by simp;omega) ?_;intro v5 w5 o5 g5 x5;have O5:Hid (Own w5 wq.heap.size v5 (zs.take (j+1))):=(by have:=HT2.out;show Own _ _ _ _;rw [this];exact Own.snoc (by rw [htk];exact o5));have G5:Hid (Old wq w5):=Below.grown (HG3.out.alloc (.cells #[.int .i64 q] 3)) g5 (HG3.out.alloc (.cells #[.int .i64 q] 3)).size (fun j hj=>(HO2.out.lt j hj).1);clear o5 g5 x5));obtain ⟨a5,cap5,rfl⟩:=(Own.row O5.out).slice;have htk1:(zs.take (j+1)).length=j+1:=by rw [List.length_take];have:=HTL.out;omega
     rw [htk1] at O5 ⊢;exact ⟨⟨j+1,_,_,by omega,by go_num,rfl,O5,G5⟩,by simp [intOf];omega⟩
    ·have d2:decide ((j:Int)<(ps.length:Int))=false:=by simp;omega
     obtain rfl:j=ps.length:=by omega
     have RZ:Hid (Row wr (.slice ra ps.length rc) zs):=by
      have:=HO2.out;rw [List.take_of_length_le (by have:=HTL.out;omega)] at this;exact Own.row this
     have z1':wr.cell? ⟨w.heap.size,1,none⟩=some (.slice a0 ps.length c0):=(B2.out.old HG3.out).c (i:=1) rfl
     clear HO2;go_wp2_with fail;refine (kcp _ _ HGX.out RZ.out).mono ?_
     rintro e w3 ⟨v3,rfl,g3,r3⟩;obtain ⟨x3,y3,rfl⟩:=(Own.row r3).slice;have R3:Hid (Own w3 wr.heap.size (.slice x3 czk.length y3) czk):=r3;have G3:Hid (Old wq w3):=Old.trans HG3.out g3;have hs3:=g3.size;clear g3 r3;go_wp2_with fail;refine (kct _ _ _ wr.heap.size R3.out hs3 (RQ.out.old (Old.trans HG2.out G3.out))).mono ?_
     rintro e w4 ⟨v4,rfl,g4,r4⟩;obtain ⟨x4,y4,rfl⟩:=(Own.row r4).slice;have HEK:Hid (Es k=TB (bs.getD k false) (TI (yss.getD k []))):=HEL.out k;generalize bs.getD k false=sg at *;generalize yss.getD k []=xs at *;have G4:Old wq w4:=Old.trans G3.out g4;have HG4:Hid (Old w w4):=Old.trans HGW.out G4;obtain ⟨B,hTI,hBlo⟩:=TI.of r4
     have HAP:Hid (∀o1:Obj,∃vs,(w4.alloc o1).ownsRow 0 85 2 (.slice a k c) k vs/\(∀b,(Value.slice a k c).ownBlock=some b->w1.heap.size<=b)/\∀v' w',w'.ownsRow 0 85 2 v' (k+1) (vs++[.bool sg,.slice x4 xs.length y4])->(w4.alloc o1).grownBy w' (Value.slice a k c).ownBlock->(v'.ownBlock=(Value.slice a k c).ownBlock∨v'.ownBlock=some (w4.alloc o1).heap.size)->Ows (TS 85 2 (k+1) Es) w' w1.heap.size w'.heap.size [v']):=fun o1=>by
      have hE:TB sg (TI xs) (w4.alloc o1) B [.bool sg,.slice x4 xs.length y4]:=⟨_,rfl,(Qdc xs).far hTI (fun b hb=>((Old.refl w4).alloc o1).block b ((Qdc xs).lt hTI b hb))⟩;obtain ⟨vs,p1,p2,p3⟩:=Ows.app HGD.out (Qqv sg (Qdc xs)) HO.out hsw1 (G4.alloc o1) hE (fun b hb=>by have:=hBlo b hb;omega) rfl;refine ⟨vs,p1,p2,fun v' w' q1 q2 q3=>?_⟩;obtain ⟨hh,B',hT',hB'⟩:=p3 v' w' q1 q2 q3;exact ⟨hh,B',TS.ext (fun j hj=>by by_cases e:j=k <;> simp [e,HEK.out]) hT',hB'⟩
     obtain ⟨vs,p1,p2,p3⟩:=HAP.out (.cells #[.bool sg,.slice x4 xs.length y4] 85);have P1:Hid ((w4.alloc (.cells #[.bool sg,.slice x4 xs.length y4] 85)).ownsRow 0 85 2 (.slice a k c) k vs):=p1;have P2:Hid (∀b,(Value.slice a k c).ownBlock=some b->w1.heap.size<=b):=p2;have P3:Hid (∀v' w',w'.ownsRow 0 85 2 v' (k+1) (vs++[.bool sg,.slice x4 xs.length y4])->(w4.alloc (.cells #[.bool sg,.slice x4 xs.length y4] 85)).grownBy w' (Value.slice a k c).ownBlock->(v'.ownBlock=(Value.slice a k c).ownBlock∨v'.ownBlock=some (w4.alloc (.cells #[.bool sg,.slice x4 xs.length y4] 85)).heap.size)->Ows (TS 85 2 (k+1) Es) w' w1.heap.size w'.heap.size [v']):=p3;have HGA:Hid (Old w1 (w4.alloc (.cells #[.bool sg,.slice x4 xs.length y4] 85))):=(Old.trans HG2.out G4).alloc _;have HNW:Hid (∀(j:Nat) (u:Value),[Value.bool sg,.slice x4 xs.length y4][j]? = some u->(w4.alloc (.cells #[.bool sg,.slice x4 xs.length y4] 85)).cell? ((⟨w4.heap.size,0,none⟩:Addr).add j)=some u):=Quj _ _ _ _ rfl;clear p1 p2 p3 HAP HO g4 r4 hTI hBlo HEK G4;go_wp2_with (at_builtin;go_loud (refine wpList_append_own_at _ rfl _ _ 152 rfl 0 85 j0 (.agg #[.bool false,.slice none 0 0]) 2 32 Tryz.underlying152 ji jz0 jz1 jz2 rfl (by decide) _ _ _ rfl P1.out ⟨w4.heap.size,0,none⟩ 1 1 [.bool sg,.slice x4 xs.length y4] rfl rfl HNW.out (by simp [Value.oneCell']) (by unfold maxLen;omega) (by omega) (Nat.zero_le _) ?_;intro v5 w5 o5 g5 x5 l5;have O5:Hid (Ows (TS 85 2 (k+1) Es) w5 w1.heap.size w5.heap.size [v5]):=P3.out v5 w5 o5 g5 l5;have G5:Hid (Old w1 w5):=Below.grown HGA.out g5 HGA.out.size (fun j hj=>P2.out j hj);clear o5 g5 x5 l5));obtain ⟨a5,c5,rfl⟩:∃a c,v5=.slice a (k+1) c:=by obtain ⟨_,B5,hT5,_⟩:=O5.out;exact TS.slice hT5
     exact ⟨⟨k+1,a5,c5,by omega,by go_num,rfl,O5,G5⟩,by simp [intOf];omega⟩
  ·have d1:decide ((k:Int)<(Nn:Int))=false:=by simp;omega
   obtain rfl:k=Nn:=by omega
   have HE:Hid (Qxj wr (.slice a k c) bs yss):=HFI.out _ _ (HO.out.low HG1.out.size (Nat.le_refl _) (Nat.le_refl _));go_wp2_with fail;go_ret;exact ⟨_,rfl,HGW.out,HE.out⟩
end Go.Proofs.YtejhpljichmmpaaGreatDoor
