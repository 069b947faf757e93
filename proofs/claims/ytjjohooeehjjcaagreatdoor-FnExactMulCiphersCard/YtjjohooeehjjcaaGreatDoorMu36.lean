/- Proved: what its theorems say. -/
import Derived.Test.YtjjohooeehjjcaaGreatDoorMu33
import Derived.Test.YtjjohooeehjjcaaGreatDoorMu38
set_option linter.unusedVariables false
set_option linter.unusedSimpArgs false
set_option maxHeartbeats 8000000
set_option maxRecDepth 100000
namespace Go.Proofs.YtjjohooeehjjcaaGreatDoor
open Go.ChangeShapes Go.WideShapes Go.ChangeAt Go.RowKit
open M2
def Qkj (zss:List (List Int)) (k:Nat):List Int:=zss.map (fun r=>r.getD k 0)
theorem Qfq (zss:List (List Int)) (k:Nat):(Qkj zss k).length=zss.length:=by simp [Qkj]
theorem Qgq (zss:List (List Int)) (k j:Nat) (h:j<zss.length):(Qkj zss k).getD j 0=(zss.getD j []).getD k 0:=by simp [Qkj,List.getD,h]
def cqN (zss:List (List Int)) (k:Nat):List Nat:=(Qkj zss k).map Int.toNat
def pnN (ps:List Int):List Nat:=ps.map Int.toNat
def ctB (ps:List Int) (zss:List (List Int)) (k:Nat):Bool:=decide (Qae (pnN ps)<=coN (cqN zss k) (pnN ps)*2)
def ctN (ps:List Int) (zss:List (List Int)) (k:Nat):Nat:=if coN (cqN zss k) (pnN ps)*2<Qae (pnN ps) then coN (cqN zss k) (pnN ps) else Qae (pnN ps) - coN (cqN zss k) (pnN ps)
def whB (n:Nat) (ps:List Int) (zss:List (List Int)):List Bool:=(List.range n).map (ctB ps zss)
def whX (n:Nat) (ps:List Int) (zss:List (List Int)):List (List Int):=(List.range n).map (fun k=>toI (dig (ctN ps zss k)))
theorem Qx4 (n:Nat) (ps:List Int) (zss:List (List Int)):(whB n ps zss).length=n:=by simp [whB]
theorem Qkk (n:Nat) (ps:List Int) (zss:List (List Int)):(whX n ps zss).length=n:=by simp [whX]
theorem Qkl (n:Nat) (ps:List Int) (zss:List (List Int)) (k:Nat) (h:k<n):(whB n ps zss).getD k false=ctB ps zss k:=by simp [whB,List.getD,h]
theorem Qkm (n:Nat) (ps:List Int) (zss:List (List Int)) (k:Nat) (h:k<n):(whX n ps zss).getD k []=toI (dig (ctN ps zss k)):=by simp [whX,List.getD,h]
structure Gr (n:Nat) (ps:List Int) (zss:List (List Int)):Prop where
 bas:Qgc ps=true
 len:zss.length=ps.length
 row:∀j,j<ps.length->(zss.getD j []).length=n/\∀i,i<n->0<=(zss.getD j []).getD i 0/\(zss.getD j []).getD i 0<ps.getD j 0
theorem Qsx {xs:List Int} (h:∀i,i<xs.length->0<=xs.getD i 0):toZ (xs.map Int.toNat)=xs:=by
 rw [toZ,List.map_map];refine (List.map_congr_left fun x hx=>?_).trans (List.map_id _);obtain ⟨i,hi,rfl⟩:=List.getElem_of_mem hx;have:=h i hi;rw [show xs.getD i 0=xs[i] by simp [List.getD,hi]] at this
 show ((xs[i].toNat:Nat):Int)=xs[i]
 omega
theorem Gr.ps {n:Nat} {ps:List Int} {zss:List (List Int)} (h:Gr n ps zss):ps=toZ (pnN ps)/\Bas (pnN ps):=by
 obtain ⟨qs,e,hb⟩:=Qoi h.bas;have:pnN ps=qs:=by unfold pnN;rw [e];exact Qj7 qs
 rw [this];exact ⟨e,hb⟩
theorem Gr.col {n:Nat} {ps:List Int} {zss:List (List Int)} (h:Gr n ps zss) (k:Nat) (hk:k<n):Qkj zss k=toZ (cqN zss k)/\Res (cqN zss k) (pnN ps):=by
 have e1:Qkj zss k=toZ (cqN zss k):=by
  unfold cqN;rw [Qsx];intro i hi;rw [Qfq] at hi;rw [Qgq zss k i hi];exact ((h.row i (by have:=h.len;omega)).2 k hk).1
 refine ⟨e1,h.ps.2,?_,fun i hi=>?_⟩
 ·unfold cqN pnN;rw [List.length_map,Qfq,h.len,List.length_map]
 ·have hi':i<ps.length:=by simpa [pnN] using hi
  have hz:i<zss.length:=by have:=h.len;omega
  have h1:=(h.row i hi').2 k hk
  have e2:(cqN zss k).getD i 0=((zss.getD i []).getD k 0).toNat:=by
   rw [<- Qgq zss k i hz];unfold cqN;have:i<(Qkj zss k).length:=by rw [Qfq];exact hz
   simp [List.getD,this]
  have e3:(pnN ps).getD i 0=(ps.getD i 0).toNat:=by simp [pnN,List.getD,hi']
  rw [e2,e3];omega
theorem Qx5 {n:Nat} {ps:List Int} {zss:List (List Int)} (h:Gr n ps zss) (k:Nat) (hk:k<n):(dig (ctN ps zss k)).length<=7:=by
 obtain ⟨_,hR⟩:=h.col k hk;unfold ctN;split
 ·exact Qdb hR
 ·exact Nat.le_trans (cnt_mono (Nat.sub_le _ _)) hR.bas.cnt
theorem Qsy {n:Nat} {ps:List Int} {zss:List (List Int)} (h:Gr n ps zss) (k:Nat) (hk:k<n) (v u:Value) (W:World) (hv:Row W v (Qkj zss k)) (hu:Row W u ps) (hf:Fit u) :
  Calls Tryz.prog 104 #[v,u] W fun e w'=>∃v',e=.returned (.agg #[.bool (ctB ps zss k),v'])/\Old W w'/\Own w' W.heap.size v' (toI (dig (ctN ps zss k))):=by
 obtain ⟨e1,hR⟩:=h.col k hk;obtain ⟨e2,hb⟩:=h.ps;rw [e1] at hv;rw [e2] at hu;unfold ctB ctN
 by_cases hc:coN (cqN zss k) (pnN ps)*2<Qae (pnN ps)
 ·rw [if_pos hc,decide_eq_false (by omega)];exact Qnf (cqN zss k) (pnN ps) v u W hv hu hf hR hc
 ·rw [if_neg hc,decide_eq_true (by omega)];exact Ql2 (cqN zss k) (pnN ps) v u W hv hu hf hR hc
theorem Ql4 (zss:List (List Int)) (v:Value) (q:Nat) (w:World) (hv:Qhd w v zss) (h0:1≤zss.length∧zss.length≤1000) (hq:∀j,j<zss.length→q<(zss.getD j []).length∧(zss.getD j []).length≤1000) :
  Calls Tryz.prog 105 #[v,.int .i64 q] w fun e w'=>e=.returned (.slice (some ⟨w.heap.size,0,none⟩) zss.length zss.length)/\Old w w'/\Own w' w.heap.size (.slice (some ⟨w.heap.size,0,none⟩) zss.length zss.length) (Qkj zss q):=by
 obtain ⟨i0,hi,hz0,hz1,hz2⟩:=info_parts Tryz.infoInt;obtain ⟨a0,cap0,ev⟩:=hv.slice;subst ev;rcases hv with ⟨a,cap,e,e2⟩ | ⟨b,o,cap,us,e,hb2,h3,hc⟩
 ·subst e2;simp at h0
 simp only [Value.slice.injEq,true_and] at e;obtain ⟨rfl,rfl⟩:=e;have HC:=Qaa hc;have HQ:=Qaa hq;have HZ:=Qaa (fun j hj=>Qgq zss q j hj);have hlen:=Qfq zss q;generalize Qkj zss q=zs at *;clear hc hq;go_enter Tryz.func105,Tryz.ntmps105;go_wp2_with (at_make;refine wpList_make_full _ rfl _ _ 22 rfl w.heap.size 3 i0 (.int .i64 0) 1 Tryz.underlying22 hi hz0 hz1 .i64 .i64 _ _ zss.length rfl rfl rfl rfl (by rw [hz2];omega) (by unfold maxLen;omega) (Nat.le_refl _) ?_;intro w3 hown hgrow)
 have HO:Hid (Qf1 w3 w.heap.size w.heap.size zss.length (List.replicate zss.length 0)):=by
  rw [Qdl] at hown;exact hown
 have HG3:=Qaa (Old.by_ (Old.refl _) hgrow (fun b hb=>by cases hb));clear hown hgrow
 go_loopw [13,6,7] (fun i _ _ W=>∃k:Nat,k<=zss.length/\i=.int .i64 k/\Hid (Qf1 W w.heap.size w.heap.size zss.length (Qcn zs k))/\Hid (Old w W)) (fun i _ _ _=>zss.length - (intOf i).toNat)
 case atStart=>exact ⟨0,by omega,rfl,(by show Qf1 _ _ _ _ _;rw [Qek,hlen];exact HO.out),HG3⟩
 case round=>
  obtain ⟨k,hk,rfl,HO1,HG4⟩:=hrel;clear HO HG3
  by_cases hlt:k<zss.length
  ·obtain ⟨c0,r0⟩:=HC.out k hlt;obtain ⟨l1,l2⟩:=HQ.out k hlt;have hzk:=HZ.out k hlt;rcases r0 with ⟨x,y,e,e'⟩ | ⟨b3,o3,cap3,e,hb3,h03,hc3⟩
   ·rw [e'] at l1;simp at l1
   have q1:=((HG4.out.cell (p:=⟨b,o+k,none⟩) hb2).trans c0).trans (by rw [e]);have q2:=(HG4.out.cell (p:=⟨b3,o3+q,none⟩) hb3).trans (hc3 q l1)
   have HPU:Hid (Qf1 (wr.setCell ⟨w.heap.size,k,none⟩ (.int .i64 ((zss.getD k []).getD q 0))) w.heap.size w.heap.size zss.length (Qcn zs (k+1))):=by
    have:=HO1.out.put k (zs.getD k 0);rw [Qff zs k (by omega),hzk] at this;exact this
   have i1:(k:Int)<(zss.length:Int):=by omega
   have i2:(q:Int)<((zss.getD k []).length:Int):=by omega
   have c3:=HO1.out.get (Qc4 zs k (by omega) |>.trans hlen) k hlt;have c4:=HO1.out.free k;generalize (Qcn zs k).getD k 0=oldv at *;have HG6:Hid (Old w (wr.setCell ⟨w.heap.size,k,none⟩ (.int .i64 ((zss.getD k []).getD q 0)))):=HG4.out.own (p:=⟨w.heap.size,k,none⟩) (Nat.le_refl _) _;clear c0 e hc3 hzk HO1 l1;generalize (zss.getD k []).getD q 0=y at *;generalize (zss.getD k []).length=n at *;go_wp2_with fail;exact ⟨⟨k+1,by omega,by go_num,HPU,HG6⟩,by simp [intOf];omega⟩
  ·have d1:decide ((k:Int)<(zss.length:Int))=false:=by simp;omega
   obtain rfl:k=zss.length:=by omega
   have HF:Hid (Own wr w.heap.size (.slice (some ⟨w.heap.size,0,none⟩) zss.length zss.length) zs):=by
    have:=HO1.out.own ((Qc4 zs zss.length (by omega)).trans hlen);rw [show Qcn zs zss.length=zs by rw [<- hlen];exact Qfe zs] at this;exact this
   go_wp2_with fail;go_ret;exact ⟨rfl,HG4.out,HF.out⟩
theorem Qf6 (Nn:Nat) (ps:List Int) (zss:List (List Int)) (v u:Value) (w:World) (hu:Row w u ps) (hf:Fit u) (hv:Qhd w v zss) (hN:1≤Nn∧Nn≤16) (hps:1≤ps.length∧ps.length≤6) (hG:Gr Nn ps zss) :
  Calls Tryz.prog 86 #[v,u] w fun e w'=>∃v',e=.returned v'/\Old w w'/\Ows (TS 60 2 Nn (elW (whB Nn ps zss) (whX Nn ps zss))) w' w.heap.size w'.heap.size [v']:=by
 obtain ⟨i0,hi,hz0,hz1,hz2⟩:=info_parts Tryz.infoWhole;obtain ⟨a0,c0,rfl⟩:=hu.slice;have hzl:=hG.len
 have HCO:Hid (∀k,k<Nn->∀W v',Qhd W v' zss->Calls Tryz.prog 105 #[v',.int .i64 k] W fun e w'=>e=.returned (.slice (some ⟨W.heap.size,0,none⟩) ps.length ps.length)/\Old W w'/\Row w' (.slice (some ⟨W.heap.size,0,none⟩) ps.length ps.length) (Qkj zss k)):=fun k hk W v' hr=>by
  have h1:=Ql4 zss v' k W hr (by omega) (fun j hj=>by have:=(hG.row j (by omega)).1;omega);rw [hzl] at h1;exact h1.mono fun e w' h=>⟨h.1,h.2.1,Own.row h.2.2⟩
 have HCE:Hid (∀k,k<Nn->∀W v',Old w W->Row W v' (Qkj zss k)->Calls Tryz.prog 104 #[v',.slice a0 ps.length c0] W fun e w'=>∃v',e=.returned (.agg #[.bool ((whB Nn ps zss).getD k false),v'])/\Old W w'/\Own w' W.heap.size v' ((whX Nn ps zss).getD k [])):=fun k hk W v' g hr=>by
  rw [Qkl Nn ps zss k hk,Qkm Nn ps zss k hk];exact Qsy hG k hk v' _ W hr (hu.old g) hf
 have HEL:Hid (∀k,elW (whB Nn ps zss) (whX Nn ps zss) k=TB ((whB Nn ps zss).getD k false) (TI ((whX Nn ps zss).getD k []))):=fun k=>rfl
 have HGD:Hid (∀j,GoodT (elW (whB Nn ps zss) (whX Nn ps zss) j)):=Qjx _ _;have RV:=Qaa hv
 obtain ⟨b,o,cap,ev,x0,u0,n0,cc0,eu⟩:∃b o cap,v=.slice (some ⟨b,o,none⟩) ps.length cap/\∃x0 u0 n0 cc0,w.cell? ⟨b,o,none⟩=some (.slice u0 Nn cc0)/\x0=n0/\n0=cc0:=by
  rcases hv with ⟨a,cap,e,e2⟩ | ⟨b,o,cap,us,e,hb2,h3,hc⟩
  ·rw [e2] at hzl;simp at hzl;omega
  ·obtain ⟨h5,h6⟩:=hc 0 h3;obtain ⟨ua,uc,ue⟩:=h6.slice;have h7:=(hG.row 0 (by omega)).1;rw [ue,h7] at h5;exact ⟨b,o,cap,by rw [e,hzl],uc,ua,uc,uc,by simpa using h5,rfl,rfl⟩
 obtain ⟨q0,rfl,rfl⟩:=eu;subst ev;generalize elW (whB Nn ps zss) (whX Nn ps zss)=Es at *;generalize whB Nn ps zss=bs at *;generalize whX Nn ps zss=yss at *;have p1:0<ps.length:=by omega
 clear hv hf hG hzl hu;go_enter Tryz.func86,Tryz.ntmps86;go_wp2_with (at_make;refine wpList_make_full _ rfl _ _ 105 rfl 0 60 i0 (.agg #[.bool false,.slice none 0 0]) 2 Tryz.underlying105 hi hz0 hz1 .i64 .i64 _ _ Nn rfl rfl rfl rfl (by rw [hz2];omega) (by unfold maxLen;omega) (Nat.zero_le _) ?_;intro w3 hown hgrow);have HO:Hid (TSc 60 2 Nn 0 Es w3 w.heap.size Nn _ (fun _ _=>False)):=TSc.start (by simpa using hown);have HG3:Hid (Old w w3):=Below.grown (Below.refl _ _) hgrow (Nat.le_refl _) (fun _ h=>by cases h);clear hown hgrow q0
 go_loopw [14,6] (fun i _ W=>∃(k:Nat) (vs:List Value) (Bs:Nat->Nat->Prop),k<=Nn/\i=.int .i64 k/\Hid (TSc 60 2 Nn k Es W w.heap.size Nn vs Bs)/\Hid (∀j b,j<k->Bs j b->w.heap.size<b)/\Hid (Old w W)) (fun i _ _=>Nn - (intOf i).toNat)
 case atStart=>exact ⟨0,_,_,by omega,rfl,HO,(fun j b hj=>by omega),HG3⟩
 case round=>
  obtain ⟨k,vs,Bs,hk,rfl,H1,HB,HG4⟩:=hrel;clear HO HG3
  by_cases hlt:k<Nn
  ·have ilt:(k:Int)<(Nn:Int):=by omega
   have cc:=HCO.out k hlt;have ce:=HCE.out k hlt;have HEK:=Qaa (HEL.out k);have hsr:=Qaw H1.out.row;generalize bs.getD k false=sg at *;generalize yss.getD k []=xs at *
   have HX:Hid (∀w6 x6 c6 Bz,Old wr w6->TI xs w6 Bz [.slice x6 xs.length c6]->(∀b,Bz b->wr.heap.size<=b)->(∃vs',TSc 60 2 Nn (k+1) Es ((w6.setCell ⟨w.heap.size,k*2,none⟩ (.bool sg)).setCell ⟨w.heap.size,k*2+1,none⟩ (.slice x6 xs.length c6)) (w.heap.size) Nn vs' (fun q=>if q=k then Bz else Bs q))/\(∀j b,j<k+1->(fun q=>if q=k then Bz else Bs q) j b->w.heap.size<b)/\Old w ((w6.setCell ⟨w.heap.size,k*2,none⟩ (.bool sg)).setCell ⟨w.heap.size,k*2+1,none⟩ (.slice x6 xs.length c6))):=fun w6 x6 c6 Bz g6 hTI hlo=>by
    refine ⟨(H1.out.old HGD.out g6).store2 HGD.out hlt _ _ (B:=Bz) (fun W' hW'=>?_) (fun hb=>by have:=hlo _ hb;omega) (fun j hj b h1 h2=>?_),fun j b hj hb=>?_,?_⟩
    ·rw [HEK.out];exact ⟨_,rfl,(Qb9 xs).far hTI (fun b hb=>hW' b (by have:=hlo b hb;omega))⟩
    ·have h4:=H1.out.lt HGD.out j b hj h1;have:=hlo b h2;omega
    ·by_cases e:j=k
     ·simp only [e,if_true] at hb;have:=hlo b hb;omega
     ·simp only [e,if_false] at hb;exact HB.out j b (by omega) hb
    ·exact ((Old.trans HG4.out g6).own (p:=⟨w.heap.size,k*2,none⟩) (by simp) _).own (p:=⟨w.heap.size,k*2+1,none⟩) (by simp) _
   have HCL:Hid (∀w6,Old wr w6->∀i,i<2->(∃z,w6.cell? ⟨w.heap.size,k*2+i,none⟩=some z)/\w6.frozen? ⟨w.heap.size,k*2+i,none⟩=false):=fun w6 g6 i hi2=>by
    have H2:=H1.out.old HGD.out g6;have h5:=H2.cell k i hlt hi2;have h6:=Qbi H2.row.1 k hlt;exact ⟨⟨_,h5.trans (List.getElem?_eq_getElem (by omega))⟩,H2.frozen _⟩
   have RB4:=RV.out.old HG4.out;clear H1 HB HEK;go_wp2_with fail;refine (cc _ _ RB4).mono ?_
   rintro e w5 ⟨rfl,q5,o5⟩;have Q5:=Qaa q5;have O5:=Qaa o5;clear q5 o5;go_wp2_with fail;refine (ce _ _ (Old.trans HG4.out Q5.out) O5.out).mono ?_
   rintro e w6 ⟨v6,rfl,q6,o6⟩;obtain ⟨x6,c6,rfl⟩:=(Own.row o6).slice;have Q6:=Qaa (Old.trans Q5.out q6);have O6:=Qaa (o6.low Q5.out.size);clear q6 o6;obtain ⟨⟨z0,hz0⟩,hf0⟩:=HCL.out w6 Q6.out 0 (by omega);obtain ⟨⟨z1,hz1⟩,hf1⟩:=HCL.out w6 Q6.out 1 (by omega);simp only [Nat.add_zero] at hz0 hf0;obtain ⟨Bz,hTI,hlo⟩:=TI.of O6.out;obtain ⟨⟨vs',n1⟩,n2,n3⟩:=HX.out w6 x6 c6 Bz Q6.out hTI hlo;have N1:=Qaa n1;have N2:Hid (∀j b,j<k+1->(fun q=>if q=k then Bz else Bs q) j b->w.heap.size<b):=n2;have N3:=Qaa n3;clear n1 n2 n3 hTI hlo HX HCL;go_wp2_with fail;exact ⟨⟨k+1,vs',_,by omega,by go_num,N1,N2,N3⟩,by simp [intOf];omega⟩
  ·have d1:decide ((k:Int)<(Nn:Int))=false:=by simp;omega
   obtain rfl:k=Nn:=by omega
   have HE:=Qaa (H1.out.done HGD.out (Nat.le_refl _) (fun j b hj hb=>Nat.le_of_lt (HB.out j b hj hb)));go_wp2_with fail;go_ret;exact ⟨_,rfl,HG4.out,HE.out⟩
end Go.Proofs.YtjjohooeehjjcaaGreatDoor
namespace Go.Proofs.YtjjohooeehjjcaaGreatDoor
open Go.ChangeShapes Go.WideShapes Go.ChangeAt Go.RowKit
def TV (x:Value):Qbf:=fun W B cs=>cs=[x]/\∀b,¬B b
theorem Qsz (x:Value):GoodT (TV x):=⟨fun h _=>h,fun h b hb=>absurd hb (h.2 b)⟩
theorem Qnh (N:Int) (a:Bool) (P R:Nat→Int) (us:Nat→Value) (m p cap:Nat) (w:World) (hpl:p<w.heap.size) (hm:1≤m∧m≤1000)
  (hC:∀k,k<m->w.cell? ⟨p,k*5,none⟩=some (.int .i64 (P k))/\w.cell? ⟨p,k*5+1,none⟩=some (.int .i64 N)/\w.cell? ⟨p,k*5+2,none⟩=some (.int .i64 (R k))/\w.cell? ⟨p,k*5+3,none⟩=some (.bool a)/\w.cell? ⟨p,k*5+4,none⟩=some (us k)) (hU:∀k,k<m->∃y n c,us k=.slice y n c) :
  Calls Tryz.prog 57 #[.slice (some ⟨p,0,none⟩) m cap] w fun e w'=>e=.returned (.slice (some ⟨w.heap.size,0,none⟩) m m)/\Old w w'/\w.heap.size<w'.heap.size/\∀j,j<m->w'.cell? ⟨w.heap.size,j,none⟩=some (us j):=by
 obtain ⟨j0,ji,jz0,jz1,jz2⟩:=info_parts Tryz.infoInts;have HC:=Qaa hC;have HU:=Qaa hU;clear hC hU;go_enter Tryz.func57,Tryz.ntmps57;go_wp2_with (at_make;refine wpList_make_full _ rfl _ _ 49 rfl 0 22 j0 (.slice none 0 0) 1 Tryz.underlying49 ji jz0 jz1 .i64 .i64 _ _ m rfl rfl rfl rfl (by rw [jz2];omega) (by unfold maxLen;omega) (Nat.zero_le _) ?_;intro w1 hown hgrow);have HO:Hid (TSc 22 1 m 0 (fun k=>TV (us k)) w1 w.heap.size m _ (fun _ _=>False)):=TSc.start hown;have HG:Hid (Old w w1):=Below.grown (Below.refl _ _) hgrow (Nat.le_refl _) (fun _ h=>by cases h);clear hown hgrow
 go_loopw [11,4,5] (fun i _ _ W=>∃(k:Nat) (vs:List Value) (Ds:Nat->Nat->Prop),k<=m/\i=.int .i64 k/\Hid (TSc 22 1 m k (fun k=>TV (us k)) W w.heap.size m vs Ds)/\Hid (Old w W)) (fun i _ _ _=>m - (intOf i).toNat)
 case atStart=>exact ⟨0,_,_,by omega,rfl,HO,HG⟩
 case round=>
  obtain ⟨k,vs,Ds,hk,rfl,H1,HG1⟩:=hrel;clear HO HG
  by_cases hlt:k<m
  ·obtain ⟨c0,c1,c2,c3,c4⟩:=HC.out k hlt;obtain ⟨y,n,c,eu⟩:=HU.out k hlt;rw [eu] at c4;have q0:=(HG1.out.cell (p:=⟨p,k*5,none⟩) hpl).trans c0;have q1:=(HG1.out.cell (p:=⟨p,k*5+1,none⟩) hpl).trans c1;have q2:=(HG1.out.cell (p:=⟨p,k*5+2,none⟩) hpl).trans c2;have q3:=(HG1.out.cell (p:=⟨p,k*5+3,none⟩) hpl).trans c3;have q4:=(HG1.out.cell (p:=⟨p,k*5+4,none⟩) hpl).trans c4;have hsr:=Qaw H1.out.row
   have hst:=
    H1.out.store1 (fun j=>Qsz _) hlt _ (B:=fun _=>False) (fun W' hW'=>⟨by rw [eu],fun b h=>h⟩) (fun h=>h) (fun j hj b h1 h2=>h2)
   obtain ⟨vs',hst⟩:=hst
   obtain ⟨z,hz⟩:∃z,wr.cell? ⟨w.heap.size,k,none⟩=some z:=by
    have h5:=H1.out.cell k 0 hlt (by omega);rw [Nat.mul_one,Nat.add_zero] at h5;have h6:=Qbi H1.out.row.1 k hlt;exact ⟨_,h5.trans (List.getElem?_eq_getElem (by omega))⟩
   have hfz:wr.frozen? ⟨w.heap.size,k,none⟩=false:=H1.out.frozen _
   generalize P k=P' at *;generalize R k=R' at *;have HN:Hid (TSc 22 1 m (k+1) (fun k=>TV (us k)) ((wr.setCell ⟨w.heap.size,k,none⟩ (.slice y n c)).alloc (.cells #[.int .i64 P',.int .i64 N,.int .i64 R',.bool a,.slice y n c] 135)) w.heap.size m vs' (fun q=>if q=k then (fun _=>False) else Ds q)):=hst.old (fun j=>Qsz _) ((Old.refl _).alloc _);have HG2:Hid (Old w ((wr.setCell ⟨w.heap.size,k,none⟩ (.slice y n c)).alloc (.cells #[.int .i64 P',.int .i64 N,.int .i64 R',.bool a,.slice y n c] 135))):=(HG1.out.own (p:=⟨w.heap.size,k,none⟩) (Nat.le_refl _) _).alloc _;clear c0 c1 c2 c3 c4 hst H1 eu;go_wp2_with fail;exact ⟨⟨k+1,vs',_,by omega,by go_num,HN,HG2⟩,by simp [intOf];omega⟩
  ·have d1:decide ((k:Int)<(m:Int))=false:=by simp;omega
   obtain rfl:k=m:=by omega
   have HE:Hid (w.heap.size<wr.heap.size/\∀j,j<k->wr.cell? ⟨w.heap.size,j,none⟩=some (us j)):=⟨Qaw H1.out.row,fun j hj=>by
    have h5:=H1.out.cell j 0 hj (by omega);rw [Nat.mul_one,Nat.add_zero] at h5;rw [h5,(H1.out.el j hj).1];rfl⟩
   go_wp2_with fail;go_ret;exact ⟨rfl,HG1.out,HE.out⟩
theorem Qni (Nn:Nat) (ps:List Int) (Rf:Nat→Int) (zss:List (List Int)) (v:Value) (w:World) (hm:1≤ps.length∧ps.length≤1000) (hz:zss.length=ps.length) (h:RdX Nn ps Rf zss w v) :
  Calls Tryz.prog 57 #[v] w fun e w'=>e=.returned (.slice (some ⟨w.heap.size,0,none⟩) ps.length ps.length)/\Old w w'/\Qhd w' (.slice (some ⟨w.heap.size,0,none⟩) ps.length ps.length) zss:=by
 obtain ⟨us,⟨p,cap,rfl,hp,hc⟩,hus⟩:=h
 refine (Qnh Nn false (fun k=>ps.getD k 0) Rf us ps.length p cap w hp hm hc (fun k hk=>by
  obtain ⟨_,x,c,e⟩:=hus k hk;exact ⟨x,_,c,e⟩)).mono fun e w' h=>?_
 obtain ⟨h1,h2,h3,h4⟩:=h;refine ⟨h1,h2,.inr ⟨_,0,ps.length,us,by rw [hz],h3,by omega,fun j hj=>?_⟩⟩;rw [Nat.zero_add];exact ⟨h4 j (by omega),(hus j (by omega)).1.old h2⟩
def WsX (Nn:Nat) (ps:List Int) (zss:List (List Int)) (base:Nat) (W:World) (v:Value):Prop:=∃hi,Ows (TS 60 2 Nn (elW (whB Nn ps zss) (whX Nn ps zss))) W base hi [v]
theorem Qjh {Nn:Nat} {ps:List Int} {zss:List (List Int)} (hb:Qgc ps=true) (hz:zss.length=ps.length) (h:OkX Nn ps zss):Gr Nn ps zss:=⟨hb,hz,h⟩
theorem Qfr (Nn:Nat) (T E:Int) (ps:List Int) (Rf:Nat→Int) (zss:List (List Int)) (a3:Option Addr) (c3:Nat) (a4:Option Addr) (l4 c4:Nat) (a6:Option Addr) (l6 c6:Nat) (v:Value) (w:World) (hv:Row w (.slice a3 ps.length c3) ps) (hf:Fit (.slice a3 ps.length c3)) (hN:1≤Nn∧Nn≤16) (hps:1≤ps.length∧ps.length≤6) (hG:Gr Nn ps zss) (h:RdX Nn ps Rf zss w v) :
  Calls Tryz.prog 58 #[.agg #[.int .i64 Nn,.int .i64 T,.int .i64 E,.slice a3 ps.length c3,.slice a4 l4 c4,.bool false,.slice a6 l6 c6],v] w fun e w'=>∃v',e=.returned v'/\Old w w'/\WsX Nn ps zss w.heap.size w' v':=by
 have K1:=Qaa (fun W (g:Old w W)=>(Qni Nn ps Rf zss v W (by omega) hG.len (h.old g)).mono fun e w' h=>(⟨_,h.1,h.2.1,h.2.2⟩:∃p,e=.returned (.slice (some ⟨p,0,none⟩) ps.length ps.length)/\Old W w'/\Qhd w' (.slice (some ⟨p,0,none⟩) ps.length ps.length) zss))
 have K2:Hid (∀W u,Old w W->Qhd W u zss->Calls Tryz.prog 86 #[u,.slice a3 ps.length c3] W fun e w'=>∃a l c,e=.returned (.slice a l c)/\Old W w'/\WsX Nn ps zss w.heap.size w' (.slice a l c)):=fun W u g hu=>(Qf6 Nn ps zss u (.slice a3 ps.length c3) W (hv.old g) hf hu hN hps hG).mono fun e w' h=>by
  obtain ⟨v',e1,q,o⟩:=h;have o2:WsX Nn ps zss w.heap.size w' v':=⟨_,Ows.low o g.size (Nat.le_refl _) o.1⟩;obtain ⟨_,B,hT,_⟩:=o;rcases hT with ⟨_,e2,_⟩ | ⟨p,cap,vs,Bs,e2,_⟩ <;> simp at e2 <;> subst e2 <;> exact ⟨_,_,_,e1,q,o2⟩
 obtain ⟨pa,pc,rfl⟩:=h.slice;clear hv hf hN hps hG h;obtain ⟨m,hm⟩:∃m,ps.length=m:=⟨_,rfl⟩
 rw [hm] at K1 K2 ⊢;obtain ⟨Ni,hNi⟩:∃Ni:Int,(Nn:Int)=Ni:=⟨_,rfl⟩
 rw [hNi];clear hm hNi;obtain ⟨B,hB⟩:∃B:World,w.alloc (.cells #[.int .i64 Ni,.int .i64 T,.int .i64 E,.slice a3 m c3,.slice a4 l4 c4,.bool false,.slice a6 l6 c6] 62)=B:=⟨_,rfl⟩
 have O:Hid (Old w B):=by rw [<- hB];exact (Old.refl w).alloc _
 have X:Hid (Bk B w.heap.size #[.int .i64 Ni,.int .i64 T,.int .i64 E,.slice a3 m c3,.slice a4 l4 c4,.bool false,.slice a6 l6 c6] 62):=by rw [<- hB];exact Bk.new' w _ _ rfl
 obtain ⟨kb,hkb⟩:∃kb,w.heap.size=kb:=⟨_,rfl⟩
 rw [hkb] at X;go_enter Tryz.func58,Tryz.ntmps58;go_wp2_with fail;have HAS:Hid (∀W',Old B W'->W'.cell? ⟨kb,3,none⟩=some (.slice a3 m c3)):=fun W' q=>(X.out.old q).c (i:=3) rfl
 have k0:=HAS.out _ (Old.refl B)
 go_region_held3 (fun W'=>W'.cell? ⟨kb,3,none⟩=some (.slice a3 m c3)) (first | with_reducible exact HAS.out _ GB.out | with_reducible exact HAS.out _ GA.out | with_reducible exact HAS.out _ (Below.drew (Old.refl B)) | with_reducible exact HAS.out _ (Old.refl B) | fail) (first
  | (go_at_call 86;refine (K2.out _ _ (Old.trans O.out GA.out) VA.out).mono ?_;rintro e wb ⟨_,_,_,rfl,gb,ob⟩;have GB:=Qaa (Old.trans GA.out gb);have VB:=Qaa ob;clear gb ob)
  | (go_at_call 57;refine (K1.out _ (Old.trans O.out (Below.drew (Old.refl B)))).mono ?_;rintro e wa ⟨_,rfl,ga,ra⟩;have GA:=Qaa (Old.trans (Below.drew (Old.refl B)) ga);have VA:=Qaa ra;clear ga ra)
  | fail)
 have G2:=Qaa (Old.trans O.out GB.out);clear K1 K2 X hB hkb HAS GA GB k0;go_wp2_with fail;go_ret;exact ⟨_,rfl,G2.out,VB.out⟩
end Go.Proofs.YtjjohooeehjjcaaGreatDoor
namespace Go.Proofs.YtjjohooeehjjcaaGreatDoor
open Go.ChangeShapes Go.WideShapes Go.ChangeAt Go.RowKit
open M2
theorem Qf7 {ps:List Nat} (hb:Bas ps):0<Qae ps:=by
 have:=Qhi ps hb.lo ps.length (Nat.le_refl _)
 rwa [List.take_length] at this
def ctZ (ps:List Int) (zss:List (List Int)) (k:Nat):Int:=if ctB ps zss k then -(ctN ps zss k:Int) else (ctN ps zss k:Int)
theorem Qgr {n:Nat} {ps:List Int} {zss:List (List Int)} (h:Gr n ps zss) (k:Nat) (hk:k<n):ng (ctZ ps zss k)=ctB ps zss k/\dg (ctZ ps zss k)=dig (ctN ps zss k):=by
 have hq:=Qf7 h.ps.2;have hc:coN (cqN zss k) (pnN ps)<Qae (pnN ps):=Nat.mod_lt _ hq
 have hn:ctB ps zss k=true->0<ctN ps zss k:=fun hb=>by
  unfold ctB at hb;have:=of_decide_eq_true hb;unfold ctN;rw [if_neg (by omega)];omega
 unfold ctZ ng dg
 cases hb:ctB ps zss k
 ·simp
 ·have:=hn hb;simp;omega
theorem Qp3 {z:Int} {k:Nat} (h:(dg z).length<=k):z.natAbs<LB^k:=by
 rcases Nat.lt_or_ge z.natAbs (LB^k) with h1 | h1
 ·exact h1
 ·have:=Qii h1;unfold dg at h;omega
theorem Qa5 {n:Nat} {ps:List Int} {zss:List (List Int)} (h:Gr n ps zss) (k:Nat) (hk:k<n):(dg (ctZ ps zss k)).length<=7:=by
 rw [(Qgr h k hk).2];exact Qx5 h k hk
theorem Qx6 (y:Int) (q:Nat) (hq:0<q):(Qew y q).natAbs<=y.natAbs+1:=by
 unfold Qew
 have h1:(2*y+(q:Int))/(2*(q:Int))<=(y.natAbs:Int)+1:=by
  refine Int.ediv_le_of_le_mul (by omega) ?_
  have h2:2*(y.natAbs:Int)<=2*(q:Int)*(y.natAbs:Int):=Int.mul_le_mul_of_nonneg_right (by omega) (by omega)
  have h3:((y.natAbs:Int)+1)*(2*(q:Int))=2*(q:Int)*(y.natAbs:Int)+2*(q:Int):=by
   rw [Int.add_mul,Int.mul_comm (y.natAbs:Int)];omega
  rw [h3];omega
 have h2 : -((y.natAbs:Int)+1)<=(2*y+(q:Int))/(2*(q:Int)):=by
  refine Int.le_ediv_of_mul_le (by omega) ?_
  have h2:2*(y.natAbs:Int)<=2*(q:Int)*(y.natAbs:Int):=Int.mul_le_mul_of_nonneg_right (by omega) (by omega)
  have h3 : -((y.natAbs:Int)+1)*(2*(q:Int)) = -(2*(q:Int)*(y.natAbs:Int)) - 2*(q:Int):=by
   rw [Int.neg_mul,Int.add_mul,Int.mul_comm (y.natAbs:Int)];omega
  rw [h3];omega
 omega
theorem Qji:LB=268435456:=rfl
theorem Qkn {z T:Int} {k:Nat} (h:(dg z).length<=k) (hT:0<=T/\T<=268435455):(dg (z*T)).length<=k+1:=by
 have h1:=Qp3 h;refine Qay ?_
 rw [Int.natAbs_mul,Nat.pow_succ];exact Nat.mul_lt_mul_of_lt_of_le h1 (by rw [Qji];omega) (by rw [Qji];omega)
theorem Qs0 {y:Int} {q k:Nat} (h:(dg y).length<=k) (hq:0<q):(dg (Qew y q)).length<=k+1:=by
 have h1:=Qp3 h;have h2:=Qx6 y q hq;refine Qay ?_
 rw [Nat.pow_succ];have:LB^k*2<=LB^k*LB:=Nat.mul_le_mul_left _ (by rw [Qji];omega);omega
theorem WsX.at {Nn:Nat} {ps:List Int} {zss:List (List Int)} {base:Nat} {W:World} {v:Value} (h0:0<Nn) (hG:Gr Nn ps zss) (h:WsX Nn ps zss base W v) :
  ∃b cap,v=.slice (some ⟨b,0,none⟩) Nn cap/\b<W.heap.size/\∀k,k<Nn->∃a c,W.cell? ⟨b,k*2,none⟩=some (.bool (ng (ctZ ps zss k)))/\W.cell? ⟨b,k*2+1,none⟩=some (.slice a (dg (ctZ ps zss k)).length c)/\Row W (.slice a (dg (ctZ ps zss k)).length c) (toI (dg (ctZ ps zss k))):=by
 obtain ⟨hi,_,B,hT,_⟩:=h;rcases hT with ⟨e,_⟩ | ⟨p,cap,vs,Bs,e,hc,_⟩
 ·omega
 simp at e;subst e;refine ⟨p,cap,rfl,Qaw hc.row,fun k hk=>?_⟩;obtain ⟨x,e,a,c,e2,ho,_⟩:=hc.el k hk;have c0:=hc.cell k 0 hk (by omega);have c1:=hc.cell k 1 hk (by omega);obtain ⟨f1,f2⟩:=Qgr hG k hk;have eX:=Qkm Nn ps zss k hk;have eB:=Qkl Nn ps zss k hk;rw [eX] at ho e2;rw [e] at c0 c1;simp at e2;subst e2;refine ⟨a,c,?_,?_,?_⟩
 ·rw [f1,<- eB];exact c0
 ·rw [f2];have hl:(toI (dig (ctN ps zss k))).length=(dig (ctN ps zss k)).length:=by simp [toI]
  rw [<- hl];exact c1
 ·rw [f2];have hl:(toI (dig (ctN ps zss k))).length=(dig (ctN ps zss k)).length:=by simp [toI]
  have:=Own.row ho;rw [hl] at this;exact this
def Chn (n:Nat) (W W':World):Prop:=W.heap.size<=W'.heap.size/\∀j,j<W.heap.size->j≠n->W'.heap[j]? = W.heap[j]?
theorem Chn.refl (n:Nat) (W:World):Chn n W W:=⟨Nat.le_refl _,fun _ _ _=>rfl⟩
theorem Chn.trans_old {n:Nat} {W W' W'':World} (h:Chn n W W') (q:Old W' W''):Chn n W W'':=⟨Nat.le_trans h.1 q.size,fun j hj hn=>(q.block j (Nat.lt_of_lt_of_le hj h.1)).trans (h.2 j hj hn)⟩
theorem Chn.set {n:Nat} {W W':World} (h:Chn n W W') (i:Nat) (x:Value):Chn n W (W'.setCell ⟨n,i,none⟩ x):=⟨by rw [World.size_setCell];exact h.1,fun j hj hn=>(heap_setCell_other W' ⟨n,i,none⟩ j _ hn).trans (h.2 j hj hn)⟩
theorem Chn.bk {n:Nat} {W W':World} {k:Nat} {cs:Array Value} {t:TypeId} (h:Chn n W W') (hk:k≠n) (b:Bk W k cs t):Bk W' k cs t:=(h.2 k b.lt hk).trans b
theorem Chn.cell {n:Nat} {W W':World} {b o:Nat} (h:Chn n W W') (hb:b<W.heap.size) (hn:b≠n):W'.cell? ⟨b,o,none⟩=W.cell? ⟨b,o,none⟩:=World.cell?_of_block (h.2 b hb hn)
theorem Chn.row {n:Nat} {W W':World} {v:Value} {xs:List Int} (h:Chn n W W') (hr:Row W v xs) (hv:∀g o l c,v=.slice (some ⟨g,o,none⟩) l c->xs=[]∨g≠n):Row W' v xs:=by
 rcases hr with h0 | ⟨b,o,cap,e,hb,hp,hc⟩
 ·exact .inl h0
 ·have hne:b≠n:=by
   rcases hv _ _ _ _ e with h1 | h1
   ·rw [h1] at hp;simp at hp
   ·exact h1
  exact .inr ⟨b,o,cap,e,Nat.lt_of_lt_of_le hb h.1,hp,fun j hj=>(h.cell hb hne).trans (hc j hj)⟩
def RzN (z:Int) (n:Nat) (W:World) (x:Value):Prop:=∃a c,x=.agg #[.bool (ng z),.slice a (dg z).length c]/\Row W (.slice a (dg z).length c) (toI (dg z))/\∀g o,a=some ⟨g,o,none⟩->dg z=[]∨g≠n
theorem RzN.rz {z:Int} {n:Nat} {W:World} {x:Value} (h:RzN z n W x):Rz z W x:=by
 obtain ⟨a,c,e,r,_⟩:=h;exact ⟨a,c,e,r⟩
theorem RzN.chn {z:Int} {n:Nat} {W W':World} {x:Value} (h:RzN z n W x) (q:Chn n W W'):RzN z n W' x:=by
 obtain ⟨a,c,e,r,hn⟩:=h;refine ⟨a,c,e,q.row r (fun g o l c' e'=>?_),hn⟩;simp only [Value.slice.injEq] at e';rcases hn g o e'.1 with h1 | h1
 ·exact .inl (by rw [h1];rfl)
 ·exact .inr h1
theorem Qs1 {z:Int} {k:Nat} (h:z.natAbs<LB^k):(dg z).length<=k:=Qay h
theorem Qzq {z:Int}:(dg (-z)).length=(dg z).length:=by unfold dg;rw [Int.natAbs_neg]
def pzT (A B:Nat->Int) (n i k:Nat):Int:=if n<=i+k then -(A i*B k) else A i*B k
def pz (A B:Nat->Int) (n:Nat):Nat->Nat->Int
 | 0=>fun _=>0
 | t+1=>fun j=>if j=(t/n+t%n)%n then pz A B n t j+pzT A B n (t/n) (t%n) else pz A B n t j
theorem Qs2 (A B:Nat->Int) (n i k j:Nat) (hk:k<n):pz A B n (i*n+(k+1)) j=if j=(i+k)%n then pz A B n (i*n+k) j+pzT A B n i k else pz A B n (i*n+k) j:=by
 have h1:(i*n+k)/n=i:=by rw [Nat.mul_comm,Nat.mul_add_div (by omega),Nat.div_eq_of_lt hk,Nat.add_zero]
 have h2:(i*n+k)%n=k:=by rw [Nat.mul_comm,Nat.mul_add_mod,Nat.mod_eq_of_lt hk]
 show pz A B n ((i*n+k)+1) j=_
 rw [pz,h1,h2]
theorem Qx7 (A B:Nat->Int) (n i k:Nat) (hk:k<n):pz A B n (i*n+(k+1)) ((i+k)%n)=pz A B n (i*n+k) ((i+k)%n)+pzT A B n i k:=by rw [Qs2 A B n i k _ hk,if_pos rfl]
theorem Qv1 (A B:Nat->Int) (n i k j:Nat) (hk:k<n) (h:j≠(i+k)%n):pz A B n (i*n+(k+1)) j=pz A B n (i*n+k) j:=by rw [Qs2 A B n i k _ hk,if_neg h]
theorem Qv2 (A B:Nat->Int) (n i:Nat):i*n+n=(i+1)*n+0:=by rw [Nat.add_mul];omega
def Bd (f:Nat->Int) (n c:Nat):Prop:=∀k,k<n->(dg (f k)).length<=c
theorem mul_lt {a b:Int} {c d:Nat} (ha:(dg a).length<=c) (hb:(dg b).length<=d):(a*b).natAbs<LB^(c+d):=by
 rw [Int.natAbs_mul,Nat.pow_add];exact Nat.mul_lt_mul'' (Qp3 ha) (Qp3 hb)
theorem Qs3 {a b:Int} {c d:Nat} (ha:(dg a).length<=c) (hb:(dg b).length<=d):(dg (a*b)).length<=c+d:=Qs1 (mul_lt ha hb)
theorem Qx8 (A B:Nat->Int) (n i k:Nat):(pzT A B n i k).natAbs=(A i*B k).natAbs:=by
 unfold pzT;split <;> simp
theorem Qs4 {A B:Nat->Int} {n:Nat} (hA:Bd A n 7) (hB:Bd B n 7) (i k:Nat) (hi:i<n) (hk:k<n):(pzT A B n i k).natAbs<LB^14:=by
 rw [Qx8];exact mul_lt (hA i hi) (hB k hk)
theorem Qv3 {A B:Nat->Int} {n:Nat} (hA:Bd A n 7) (hB:Bd B n 7):∀t,t<=n*n->∀j,(pz A B n t j).natAbs<=t*LB^14
 | 0,_,j=>by show (0:Int).natAbs<=_;simp
 | t+1,h,j=>by
   have h0:=Qv3 hA hB t (by omega) j
   have hn:0<n:=by
    rcases Nat.eq_zero_or_pos n with e | e
    ·subst e;omega
    ·exact e
   have h1:=Qs4 hA hB (t/n) (t%n) (Nat.div_lt_of_lt_mul (by omega)) (Nat.mod_lt _ hn);have h3:(t+1)*LB^14=t*LB^14+LB^14:=Nat.succ_mul _ _
   show (if j=(t/n+t%n)%n then pz A B n t j+pzT A B n (t/n) (t%n) else pz A B n t j).natAbs<=_
   split
   ·have h2:=Int.natAbs_add_le (pz A B n t j) (pzT A B n (t/n) (t%n));omega
   ·omega
theorem Qu2 {A B:Nat->Int} {n:Nat} (hn:n<=16) (hA:Bd A n 7) (hB:Bd B n 7) (t:Nat) (ht:t<=n*n) (j:Nat):(dg (pz A B n t j)).length<=15:=by
 have h1:=Qv3 hA hB t ht j;have h2:n*n<=16*16:=Nat.mul_le_mul hn hn;refine Qs1 (Nat.lt_of_le_of_lt h1 ?_);rw [show LB^15=LB^14*LB from Nat.pow_succ ..,Nat.mul_comm t];exact (Nat.mul_lt_mul_left (Nat.pow_pos (show 0<LB by rw [Qji];omega))).2 (show t<LB by rw [Qji];omega)
def pzF (A B:Nat->Int) (n:Nat):Nat->Int:=pz A B n (n*n)
theorem Qe0 {A B:Nat->Int} {n:Nat} (hn:n<=16) (hA:Bd A n 7) (hB:Bd B n 7) (m:Nat):Bd (pzF A B n) m 15:=fun k _=>Qu2 hn hA hB (n*n) (Nat.le_refl _) k
theorem Qs5 {a b:Int} {c:Nat} (ha:(dg a).length<=c) (hb:(dg b).length<=c):(dg (a+b)).length<=c+1:=by
 refine Qs1 ?_
 have h1:=Qp3 ha;have h2:=Qp3 hb;have h3:=Int.natAbs_add_le a b;have h4:LB^c*2<=LB^c*LB:=Nat.mul_le_mul_left _ (by rw [Qji];omega);rw [Nat.pow_succ];omega
def scF (f:Nat->Int) (T:Int) (q:Nat):Nat->Int:=fun k=>Qew (f k*T) q
theorem Qv4 {f:Nat->Int} {T:Int} {q n c:Nat} (hf:Bd f n c) (hT:0<=T/\T<=65536) (hq:0<q):Bd (scF f T q) n (c+1+1):=fun k hk=>Qs0 (Qkn (hf k hk) (by omega)) hq
def Zr (f:Nat->Int) (n:Nat) (W:World) (v:Value):Prop:=∃(b o cap:Nat) (us:Nat->Value),v=.slice (some ⟨b,o,none⟩) n cap/\b<W.heap.size/\∀k,k<n->W.cell? ⟨b,o+k*2,none⟩=some (.bool (ng (f k)))/\W.cell? ⟨b,o+k*2+1,none⟩=some (us k)/\Row W (us k) (toI (dg (f k)))
theorem Zr.old {f:Nat->Int} {n:Nat} {W W':World} {v:Value} (h:Zr f n W v) (q:Old W W'):Zr f n W' v:=by
 obtain ⟨b,o,cap,us,e,hb,hc⟩:=h;refine ⟨b,o,cap,us,e,Nat.lt_of_lt_of_le hb q.size,fun k hk=>?_⟩;obtain ⟨h0,h1,h2⟩:=hc k hk;exact ⟨(q.cell (p:=⟨b,o+k*2,none⟩) hb).trans h0,(q.cell (p:=⟨b,o+k*2+1,none⟩) hb).trans h1,h2.old q⟩
theorem Zr.slice {f:Nat->Int} {n:Nat} {W:World} {v:Value} (h:Zr f n W v):∃b o cap,v=.slice (some ⟨b,o,none⟩) n cap/\b<W.heap.size:=by
 obtain ⟨b,o,cap,us,e,hb,_⟩:=h;exact ⟨b,o,cap,e,hb⟩
theorem Zr.at {f:Nat->Int} {n:Nat} {W:World} {b o cap:Nat} (h:Zr f n W (.slice (some ⟨b,o,none⟩) n cap)) (k:Nat) (hk:k<n):∃a c,W.cell? ⟨b,o+k*2,none⟩=some (.bool (ng (f k)))/\W.cell? ⟨b,o+k*2+1,none⟩=some (.slice a (dg (f k)).length c)/\Rz (f k) W (.agg #[.bool (ng (f k)),.slice a (dg (f k)).length c]):=by
 obtain ⟨b',o',cap',us,e,hb,hc⟩:=h;simp only [Value.slice.injEq,Option.some.injEq,Addr.mk.injEq,and_true,true_and] at e;obtain ⟨⟨rfl,rfl⟩,_⟩:=e;obtain ⟨h0,h1,h2⟩:=hc k hk;obtain ⟨a,c,ea⟩:=h2.slice;have hl:(toI (dg (f k))).length=(dg (f k)).length:=by simp [toI]
 rw [hl] at ea;rw [ea] at h1 h2;exact ⟨a,c,h0,h1,a,c,rfl,h2⟩
def bsF (f:Nat->Int) (n:Nat):List Bool:=(List.range n).map fun k=>ng (f k)
def xsF (f:Nat->Int) (n:Nat):List (List Int):=(List.range n).map fun k=>toI (dg (f k))
theorem Qhu (f:Nat->Int) (n k:Nat) (h:k<n):(bsF f n).getD k false=ng (f k):=by simp [bsF,List.getD,h]
theorem Qhv (f:Nat->Int) (n k:Nat) (h:k<n):(xsF f n).getD k []=toI (dg (f k)):=by simp [xsF,List.getD,h]
theorem Qs6 (f:Nat->Int) (n:Nat):(bsF f n).length=n:=by simp [bsF]
theorem Qcw (f:Nat->Int) (n:Nat):(xsF f n).length=n:=by simp [xsF]
theorem Zr.rowW {f:Nat->Int} {n:Nat} {W:World} {v:Value} (h:Zr f n W v):Qjw W v (bsF f n) (xsF f n):=by
 obtain ⟨b,o,cap,us,e,hb,hc⟩:=h;refine ⟨by rw [Qs6,Qcw],?_⟩;rcases Nat.eq_zero_or_pos n with h0 | h0
 ·subst h0;exact .inl ⟨_,_,e,rfl⟩
 ·refine .inr ⟨b,o,cap,us,by rw [Qcw];exact e,hb,by rw [Qcw];exact h0,fun j hj=>?_⟩;rw [Qcw] at hj;rw [Qhu f n j hj,Qhv f n j hj];exact hc j hj
theorem Qjw.zr {f:Nat->Int} {n:Nat} {W:World} {v:Value} {bs:List Bool} {xss:List (List Int)} (h0:0<n) (hb:∀k,k<n->bs.getD k false=ng (f k)) (hx:∀k,k<n->xss.getD k []=toI (dg (f k))) (hl:xss.length=n) (h:Qjw W v bs xss):Zr f n W v:=by
 obtain ⟨_,⟨a,cap,e,e2⟩ | ⟨b,o,cap,us,e,hb2,h3,hc⟩⟩:=h
 ·subst e2;simp at hl;omega
 ·refine ⟨b,o,cap,us,by rw [<- hl];exact e,hb2,fun k hk=>?_⟩;have:=hc k (by omega);rw [hb k hk,hx k hk] at this;exact this
theorem Qu3 {Nn:Nat} {ps:List Int} {zss:List (List Int)} {W:World} {v:Value} (h0:0<Nn) (hG:Gr Nn ps zss) (h:Qjw W v (whB Nn ps zss) (whX Nn ps zss)):Zr (ctZ ps zss) Nn W v:=
 Qjw.zr h0 (fun k hk=>by rw [Qkl Nn ps zss k hk,(Qgr hG k hk).1]) (fun k hk=>by rw [Qkm Nn ps zss k hk,(Qgr hG k hk).2]) (Qkk Nn ps zss) h
theorem WsX.zr {Nn:Nat} {ps:List Int} {zss:List (List Int)} {base:Nat} {W:World} {v:Value} (h0:0<Nn) (hG:Gr Nn ps zss) (h:WsX Nn ps zss base W v):Zr (ctZ ps zss) Nn W v:=by
 obtain ⟨b,cap,e,hb,hc⟩:=h.at h0 hG;refine ⟨b,0,cap,fun k=>((W.cell? ⟨b,k*2+1,none⟩).getD (.slice none 0 0)),e,hb,fun k hk=>?_⟩;obtain ⟨a,c,h1,h2,h3⟩:=hc k hk;simp only [Nat.zero_add,h2,Option.getD_some];exact ⟨h1,trivial,h3⟩
def RzG (z:Int) (n:Nat) (W:World) (x:Value):Prop:=∃a c,x=.agg #[.bool (ng z),.slice a (dg z).length c]/\Row W (.slice a (dg z).length c) (toI (dg z))/\∀g o,a=some ⟨g,o,none⟩->dg z=[]∨n<g
theorem RzG.n {z:Int} {n q:Nat} {W:World} {x:Value} (h:RzG z n W x) (hq:q<=n):RzN z q W x:=by
 obtain ⟨a,c,e,r,hn⟩:=h;refine ⟨a,c,e,r,fun g o ea=>?_⟩;rcases hn g o ea with h1 | h1
 ·exact .inl h1
 ·exact .inr (by omega)
theorem RzG.rz {z:Int} {n:Nat} {W:World} {x:Value} (h:RzG z n W x):Rz z W x:=(h.n (Nat.le_refl _)).rz
theorem RzG.old {z:Int} {n:Nat} {W W':World} {x:Value} (h:RzG z n W x) (q:Old W W'):RzG z n W' x:=by
 obtain ⟨a,c,e,r,hn⟩:=h;exact ⟨a,c,e,r.old q,hn⟩
theorem RzG.chn {z:Int} {n:Nat} {W W':World} {x:Value} (h:RzG z n W x) (q:Chn n W W'):RzG z n W' x:=by
 have h1:=(h.n (Nat.le_refl _)).chn q;obtain ⟨a,c,e,r,hn⟩:=h;obtain ⟨a',c',e',r',_⟩:=h1;rw [e] at e';have e2:a=a'/\c=c':=by simpa using e'
 obtain ⟨rfl,rfl⟩:=e2;exact ⟨a,c,e,r',hn⟩
def Zn (f:Nat->Int) (n p:Nat) (W:World):Prop:=p<W.heap.size/\(∀o,W.frozen? ⟨p,o,none⟩=false)/\∀k,k<n->∃a c,W.cell? ⟨p,k*2,none⟩=some (.bool (ng (f k)))/\W.cell? ⟨p,k*2+1,none⟩=some (.slice a (dg (f k)).length c)/\RzG (f k) p W (.agg #[.bool (ng (f k)),.slice a (dg (f k)).length c])
theorem Zn.old {f:Nat->Int} {n p:Nat} {W W':World} (h:Zn f n p W) (q:Old W W'):Zn f n p W':=by
 obtain ⟨hp,hf,hc⟩:=h;refine ⟨Nat.lt_of_lt_of_le hp q.size,fun o=>(q.frozen (p:=⟨p,o,none⟩) hp).trans (hf o),fun k hk=>?_⟩;obtain ⟨a,c,h0,h1,h2⟩:=hc k hk;exact ⟨a,c,(q.cell (p:=⟨p,k*2,none⟩) hp).trans h0,(q.cell (p:=⟨p,k*2+1,none⟩) hp).trans h1,h2.old q⟩
theorem Zn.zr {f:Nat->Int} {n p cap:Nat} {W:World} (h:Zn f n p W):Zr f n W (.slice (some ⟨p,0,none⟩) n cap):=by
 obtain ⟨hp,hf,hc⟩:=h;refine ⟨p,0,cap,fun k=>((W.cell? ⟨p,k*2+1,none⟩).getD (.slice none 0 0)),rfl,hp,fun k hk=>?_⟩;obtain ⟨a,c,h1,h2,h3⟩:=hc k hk;simp only [Nat.zero_add,h2,Option.getD_some];obtain ⟨a',c',e,r⟩:=h3.rz;have e':a=a'/\c=c':=by simpa using e
 obtain ⟨rfl,rfl⟩:=e';exact ⟨h1,trivial,r⟩
theorem Zn.congr {f g:Nat->Int} {n p:Nat} {W:World} (h:Zn f n p W) (e:∀k,k<n->g k=f k):Zn g n p W:=by
 obtain ⟨hp,hf,hc⟩:=h;refine ⟨hp,hf,fun k hk=>?_⟩;rw [e k hk];exact hc k hk
theorem RzG.wz {z:Int} {base p:Nat} {W:World} {x:Value} (h:Wz z base W x) (hp:p<base):RzG z p W x:=by
 obtain ⟨a,c,e,o⟩:=h;refine ⟨a,c,e,Own.row o,fun g o' ea=>?_⟩;subst ea;rcases o.2 with ⟨e1,_⟩ | ⟨p',cap,cur,e1,hb,_⟩
 ·simp at e1
 ·simp only [Value.slice.injEq,Option.some.injEq,Addr.mk.injEq] at e1;refine .inr ?_
  omega
theorem Zn.put {f g:Nat->Int} {n p i:Nat} {W:World} {z:Int} {a:Option Addr} {c:Nat} (h:Zn f n p W) (hi:i<n) (hx:RzG z p W (.agg #[.bool (ng z),.slice a (dg z).length c])) (e1:g i=z) (e2:∀k,k<n->k≠i->g k=f k):Zn g n p ((W.setCell ⟨p,i*2,none⟩ (.bool (ng z))).setCell ⟨p,i*2+1,none⟩ (.slice a (dg z).length c)):=by
 have hch:Chn p W ((W.setCell ⟨p,i*2,none⟩ (.bool (ng z))).setCell ⟨p,i*2+1,none⟩ (.slice a (dg z).length c)):=((Chn.refl p W).set _ _).set _ _;obtain ⟨hp,hf,hc⟩:=h;obtain ⟨a0,c0,k0,k1,_⟩:=hc i hi;refine ⟨by rw [World.size_setCell,World.size_setCell];exact hp,fun o=>by rw [World.frozen?_setCell,World.frozen?_setCell];exact hf o,fun k hk=>?_⟩
 by_cases h:k=i
 ·subst h;rw [e1];refine ⟨a,c,?_,?_,hx.chn hch⟩
  ·refine (World.cell?_setCell_other _ _ _ _ (by simp)).trans ?_
   exact World.cell?_setCell_same _ _ _ k0
  ·refine World.cell?_setCell_same (u:=.slice a0 (dg (f k)).length c0) _ _ _ ?_
   exact (World.cell?_setCell_other _ _ _ _ (by simp)).trans k1
 ·rw [e2 k hk h];obtain ⟨a',c',h0,h1,h2⟩:=hc k hk;refine ⟨a',c',?_,?_,h2.chn hch⟩
  ·exact (World.cell?_setCell_other _ _ _ _ (by simp;try omega)).trans ((World.cell?_setCell_other _ _ _ _ (by simp;try omega)).trans h0)
  ·exact (World.cell?_setCell_other _ _ _ _ (by simp;try omega)).trans ((World.cell?_setCell_other _ _ _ _ (by simp;try omega)).trans h1)
theorem Qp4 (neg:Bool) (k:Nat) (w:World) (hn:cnt k≤80) :
  Calls Tryz.prog 54 #[.bool neg,.agg (szV k)] w fun e w'=>∃v,e=.returned (.agg #[.bool (neg&&decide (k≠0)),v])/\Old w w'/\Own w' w.heap.size v (toI (dig k)):=by
 by_cases h0:k=0
 ·subst h0;refine (Qc2 neg w).mono ?_
  rintro e w' ⟨rfl,g⟩;refine ⟨.slice none 0 0,by simp,g,?_⟩;rw [Qax];exact Qmn _ _
 ·refine (Qci neg k w h0 hn).mono ?_
  rintro e w' ⟨v,rfl,g,o⟩;exact ⟨v,by simp [h0],g,o⟩
theorem Qzr (z:Int):ng (-z)=(!ng z&&decide (z.natAbs≠0)):=by
 unfold ng;rcases Int.lt_trichotomy z 0 with h | h | h
 ·rw [decide_eq_false (by omega),decide_eq_true h];rfl
 ·subst h;rfl
 ·rw [decide_eq_true (by omega),decide_eq_false (by omega),decide_eq_true (by omega)];rfl
theorem Q0e (z:Int) (x:Value) (w:World) (hx:Rz z w x) (hl:(dg z).length≤40) :
  Calls Tryz.prog 89 #[x] w fun e w'=>∃y,e=.returned y/\Old w w'/\Wz (-z) w.heap.size w' y:=by
 obtain ⟨a,c,rfl,hr⟩:=hx
 have hv:val (dg z)=z.natAbs:=by
  have h:=Qso z.natAbs;exact h
 have KS:=Qaa (fun W (g:Old w W)=>Qb1 (ng z) (dg z) (.slice a (dg z).length c) W (hr.old g) (Qfx z).1 (by omega))
 have KW:Hid (∀W,Calls Tryz.prog 54 #[.bool (!ng z),.agg (szV (val (dg z)))] W fun e w'=>∃v,e=.returned (.agg #[.bool (ng (-z)),v])/\Old W w'/\Own w' W.heap.size v (toI (dg (-z)))):=fun W=>by
  rw [hv,Qzr,show dg (-z)=dig z.natAbs by unfold dg;rw [Int.natAbs_neg]];exact Qp4 (!ng z) z.natAbs W (by have h:cnt z.natAbs<=40:=hl;omega)
 generalize szV (val (dg z))=SZ at *;obtain ⟨nz,hnz⟩:∃b,ng (-z)=b:=⟨_,rfl⟩
 obtain ⟨ds,hds⟩:∃d,dg (-z)=d:=⟨_,rfl⟩
 have HEND:Hid (∀(W:World) a' c',Old w W->Own W w.heap.size (.slice a' ds.length c') (toI ds)->∃y,Ending.returned (.agg #[.bool nz,.slice a' ds.length c'])=.returned y/\Old w W/\Wz (-z) w.heap.size W y):=fun W a' c' g o=>by
  refine ⟨_,rfl,g,a',c',?_,?_⟩
  ·rw [hnz,hds]
  ·rw [hds];exact o
 rw [hnz,hds] at KW;generalize ng z=nb at *;generalize (dg z).length=l at *;clear hr hl hv hnz hds;obtain ⟨B,hB⟩:∃B:World,(w.alloc (.cells #[.bool nb,.slice a l c] 60)).alloc (.cells #[.bool false,.slice none 0 0] 60)=B:=⟨_,rfl⟩
 have O:Hid (Old w B):=by rw [<- hB];exact ((Old.refl w).alloc _).alloc _
 have X:Hid (Bk B w.heap.size #[.bool nb,.slice a l c] 60):=by rw [<- hB];exact (Bk.new' w _ _ rfl).alloc _
 have R:Hid (Bk B (w.heap.size+1) #[.bool false,.slice none 0 0] 60):=by rw [<- hB];exact Bk.new' _ _ _ (by simp)
 obtain ⟨kp,hkp⟩:∃k,w.heap.size=k:=⟨_,rfl⟩
 have HKP:=Qaa hkp;rw [hkp] at X R;have HAS:Hid (∀W',Old B W'->W'.cell? ⟨kp,0,none⟩=some (.bool nb)/\W'.cell? ⟨kp,1,none⟩=some (.slice a l c)):=fun W' q=>⟨(X.out.old q).c (i:=0) rfl,(X.out.old q).c (i:=1) rfl⟩
 have HASS:Hid (∀W',Old B W'->∀x y,((W'.setCell ⟨kp+1,0,none⟩ x).setCell ⟨kp+1,1,none⟩ y).cell? ⟨kp,0,none⟩=some (.bool nb)/\((W'.setCell ⟨kp+1,0,none⟩ x).setCell ⟨kp+1,1,none⟩ y).cell? ⟨kp,1,none⟩=some (.slice a l c)):=fun W' q x y=>by
  obtain ⟨k0,k1⟩:=HAS.out W' q;refine ⟨?_,?_⟩
  all_goals
   refine (World.cell?_setCell_other _ _ _ _ (by simp)).trans ((World.cell?_setCell_other _ _ _ _ (by simp)).trans ?_)
   assumption
 obtain ⟨k0,k1⟩:=HAS.out _ (Old.refl B);clear X;go_enter Tryz.func89,Tryz.ntmps89;go_wp2_with fail
 go_region_held3 (fun W'=>W'.cell? ⟨kp,0,none⟩=some (.bool nb)/\W'.cell? ⟨kp,1,none⟩=some (.slice a l c)) (first | with_reducible exact HASS.out _ G6.out _ _ | with_reducible exact HAS.out _ G6.out | with_reducible exact HAS.out _ G5.out | with_reducible exact HAS.out _ (Below.drew (Old.refl B)) | with_reducible exact HAS.out _ (Old.refl B) | fail) (first
  | (go_at_call 54;refine (KW.out _).mono ?_;rintro e w6 ⟨v6,rfl,q6,o6⟩;obtain ⟨a6,c6,rfl⟩:=(Own.row o6).sliceN;have G6:=Qaa (Old.trans G5.out q6);have O6:=Qaa (Own.low o6 (Nat.le_trans O.out.size G5.out.size));have R6:=Qaa (R.out.old G6.out);have y0:=R6.out.c (i:=0) rfl;have y1:=R6.out.c (i:=1) rfl;have f0:w6.frozen? ⟨kp+1,0,none⟩=false:=frozen_of_row _ _ _ _ _ R6.out;have f1:w6.frozen? ⟨kp+1,1,none⟩=false:=frozen_of_row _ _ _ _ _ R6.out;clear q6 o6)
  | (go_at_call 107;refine (KS.out _ (Old.trans O.out (Below.drew (Old.refl B)))).mono ?_;rintro e w5 ⟨rfl,q5⟩;have G5:=Qaa (Old.trans (Below.drew (Old.refl B)) q5);clear q5)
  | fail)
 go_wp2_with fail;have qq:=Qsw R6.out (.bool nz) (.slice a6 ds.length c6);have q0:=qq.c (i:=0) rfl;have q1:=qq.c (i:=1) rfl;refine bodyPost_ret (v:=.agg #[.bool nz,.slice a6 ds.length c6]) (by simp [results,Tryz.results89,go_sem,q0,q1]) rfl ?_
 refine HEND.out _ _ _ (((Old.trans O.out G6.out).own (p:=⟨kp+1,0,none⟩) (by have:=HKP.out;show w.heap.size<=kp+1;omega) _).own (p:=⟨kp+1,1,none⟩) (by have:=HKP.out;show w.heap.size<=kp+1;omega) _) ?_
 exact Qdq (Qdq O6.out R6.out _) (Qov R6.out (.bool nz)) _
theorem Qnj (n k:Nat) (h:k<n):(madeCells (Value.agg #[.bool false,.slice none 0 0]).cells (n*2)).toList[k*2]? = some (.bool false)/\(madeCells (Value.agg #[.bool false,.slice none 0 0]).cells (n*2)).toList[k*2+1]? = some (.slice none 0 0):=by
 have h1:k*2<n*2:=by omega
 have h2:k*2+1<n*2:=by omega
 have h3:(k*2)%2=0:=by omega
 have h4:(k*2+1)%2=1:=by omega
 constructor
 ·simp [madeCells,Value.cells,h1,h3]
 ·simp [madeCells,Value.cells,h2,h4]
theorem Zn.zero {T:TypeId} {n p c:Nat} {W:World} {base:Nat} (h:World.ownsRow W base T 2 (.slice (some ⟨p,0,none⟩) n c) n (madeCells (Value.agg #[.bool false,.slice none 0 0]).cells (n*2)).toList):Zn (fun _=>0) n p W:=by
 refine ⟨Qaw h,fun o=>World.ownsRow.frozenAt h o,fun k hk=>?_⟩;obtain ⟨m0,m1⟩:=Qnj n k hk;have e0:dg 0=[]:=rfl;refine ⟨none,0,?_,?_,none,0,rfl,?_,fun g o e=>by simp at e⟩
 ·rw [World.ownsRow.cellAt h (k*2) (by omega)];exact m0
 ·rw [World.ownsRow.cellAt h (k*2+1) (by omega)];exact m1
 ·exact .inl ⟨none,0,rfl,rfl⟩
theorem Zn.at {f:Nat->Int} {n p:Nat} {W:World} (h:Zn f n p W) (k:Nat) (hk:k<n):∃a c,W.cell? ⟨p,k*2,none⟩=some (.bool (ng (f k)))/\W.cell? ⟨p,k*2+1,none⟩=some (.slice a (dg (f k)).length c)/\Rz (f k) W (.agg #[.bool (ng (f k)),.slice a (dg (f k)).length c]):=by
 obtain ⟨_,_,hc⟩:=h;obtain ⟨a,c,h0,h1,h2⟩:=hc k hk;exact ⟨a,c,h0,h1,h2.rz⟩
theorem Qcs (A B:Nat→Int) (n:Nat) (v u:Value) (w:World) (hn:1≤n∧n≤16) (hA:Bd A n 7) (hB:Bd B n 7) (hv:Zr A n w v) (hu:Zr B n w u) :
  Calls Tryz.prog 60 #[v,u] w fun e w'=>∃p,e=.returned (.slice (some ⟨p,0,none⟩) n n)/\w.heap.size<=p/\Old w w'/\Zn (pzF A B n) n p w':=by
 obtain ⟨i0,hi,hz0,hz1,hz2⟩:=info_parts Tryz.infoWhole;obtain ⟨b0,o0,c0,rfl,hb0⟩:=hv.slice;obtain ⟨b1,o1,c1,rfl,hb1⟩:=hu.slice;have HA:=Qaa (fun k hk=>hv.at k hk);have HB:=Qaa (fun k hk=>hu.at k hk);have KM:=Qaa (fun i k (hi:i<n) (hk:k<n) W x y (hx:Rz (A i) W x) (hy:Rz (B k) W y)=>Qzj (A i) (B k) x y W hx hy (Nat.le_trans (hA i hi) (by omega)) (Nat.le_trans (hB k hk) (by omega)) (Nat.le_trans (Qs3 (hA i hi) (hB k hk)) (by omega)));have KO:=Qaa (fun i k (hi:i<n) (hk:k<n) W x (hx:Rz (A i*B k) W x)=>Q0e (A i*B k) x W hx (Nat.le_trans (Qs3 (hA i hi) (hB k hk)) (by omega)))
 have KP:=Qaa (fun i k (hi:i<n) (hk:k<n) W x y (hx:Rz (pz A B n (i*n+k) ((i+k)%n)) W x) (hy:Rz (pzT A B n i k) W y)=>Qzk (pz A B n (i*n+k) ((i+k)%n)) (pzT A B n i k) x y W hx hy (Nat.le_trans (Qu2 hn.2 hA hB (i*n+k) (by
  have h1:(i+1)*n<=n*n:=Nat.mul_le_mul_right n hi;rw [Nat.add_mul] at h1;omega) _) (by omega)) (Nat.le_trans (Qs1 (Qs4 hA hB i k hi hk)) (by omega)) (by
  rw [<- Qx7 A B n i k hk];refine Nat.le_trans (Qu2 hn.2 hA hB (i*n+(k+1)) ?_ _) (by omega);have h1:(i+1)*n<=n*n:=Nat.mul_le_mul_right n hi;rw [Nat.add_mul] at h1;omega))
 clear hv hu hA hB;have hnn:0<n:=by omega
 go_enter Tryz.func60,Tryz.ntmps60;go_wp2_with (at_make;refine wpList_make_full _ rfl _ _ 105 rfl w.heap.size 60 i0 (.agg #[.bool false,.slice none 0 0]) 2 Tryz.underlying105 hi hz0 hz1 .i64 .i64 _ _ n rfl rfl rfl rfl (by rw [hz2];omega) (by unfold maxLen;omega) (Nat.le_refl _) ?_;intro w1 hown hgrow)
 have HZ:Hid (Zn (pz A B n (0*n+0)) n w.heap.size w1):=by
  rw [Nat.zero_mul];exact Zn.zero hown
 have HG:Hid (Old w w1):=Old.by_ (Old.refl _) hgrow (fun b hb=>by cases hb);obtain ⟨pb,hpb⟩:∃pb,w.heap.size=pb:=⟨_,rfl⟩
 rw [hpb] at HZ ⊢;have HPB:Hid (w.heap.size<=pb):=Nat.le_of_eq hpb;clear hown hgrow hpb
 go_loopw [20,7,8] (fun x _ _ W=>∃i:Nat,i<=n/\x=.int .i64 i/\Hid (Zn (pz A B n (i*n+0)) n pb W)/\Hid (Old w W)) (fun x _ _ _=>n - (intOf x).toNat)
 case atStart=>exact ⟨0,by omega,rfl,HZ,HG⟩
 case round=>
  obtain ⟨i,hi',rfl,HZ1,HG1⟩:=hrel;clear HZ HG
  by_cases hlt:i<n
  ·obtain ⟨ax,cx,x0,x1,hx⟩:=HA.out i hlt;have q0:=(HG1.out.cell (p:=⟨b0,o0+i*2,none⟩) hb0).trans x0;have q1:=(HG1.out.cell (p:=⟨b0,o0+i*2+1,none⟩) hb0).trans x1;have KM1:=Qaa (fun k hk=>KM.out i k hlt hk);have KO1:=Qaa (fun k hk=>KO.out i k hlt hk);have KP1:=Qaa (fun k hk=>KP.out i k hlt hk);have HX:=Qaa hx;have iL:(i:Int)<(n:Int):=by omega
   obtain ⟨nx,hnx⟩:∃b,ng (A i)=b:=⟨_,rfl⟩
   obtain ⟨lx,hlx⟩:∃l,(dg (A i)).length=l:=⟨_,rfl⟩
   rw [hnx,hlx] at HX;rw [hnx] at q0;rw [hlx] at q1;clear x0 x1 hx hnx hlx;obtain ⟨W2,hW2⟩:∃B:World,wr.alloc (.cells #[.bool nx,.slice ax lx cx] 60)=B:=⟨_,rfl⟩
   have A2:Old wr W2:=by rw [<- hW2];exact (Old.refl wr).alloc _
   have BX:Hid (Bk W2 wr.heap.size #[.bool nx,.slice ax lx cx] 60):=by rw [<- hW2];exact Bk.new' wr _ _ rfl
   have HZ2:=Qaa (HZ1.out.old A2);have HG2:=Qaa (Old.trans HG1.out A2);obtain ⟨kx,hkx⟩:∃k,wr.heap.size=k:=⟨_,rfl⟩
   rw [hkx] at BX
   have HKX:Hid (kx≠pb):=by
    show kx≠pb
    have:=HZ1.out.1;omega
   clear A2 HZ1 HG1
   rename World=>wq
   go_wp2_with fail
   go_loopw [27,9,10] (fun x _ _ W=>∃k:Nat,k<=n/\x=.int .i64 k/\Hid (Zn (pz A B n (i*n+k)) n pb W)/\Hid (Old w W)/\Hid (Bk W kx #[.bool nx,.slice ax lx cx] 60)) (fun x _ _ _=>n - (intOf x).toNat)
   case atStart=>exact ⟨0,by omega,rfl,HZ2,HG2,BX⟩
   case round=>
    obtain ⟨k,hk',rfl,HZ3,HG3,BX3⟩:=hrel;clear HZ2 HG2 BX
    by_cases hkt:k<n
    ·obtain ⟨ay,cy,y0,y1,hy⟩:=HB.out k hkt;have q0:=(HG3.out.cell (p:=⟨b1,o1+k*2,none⟩) hb1).trans y0;have q1:=(HG3.out.cell (p:=⟨b1,o1+k*2+1,none⟩) hb1).trans y1;have KM2:=Qaa (KM1.out k hkt);have KO2:=Qaa (KO1.out k hkt);have KP2:=Qaa (KP1.out k hkt);have HY:=Qaa hy;have kL:(k:Int)<(n:Int):=by omega
     obtain ⟨ny,hny⟩:∃b,ng (B k)=b:=⟨_,rfl⟩
     obtain ⟨ly,hly⟩:∃l,(dg (B k)).length=l:=⟨_,rfl⟩
     rw [hny,hly] at HY;rw [hny] at q0;rw [hly] at q1;obtain ⟨pl,hpl⟩:∃p,(i+k)%n=p:=⟨_,rfl⟩
     have hpn:pl<n:=by rw [<- hpl];exact Nat.mod_lt _ (by omega)
     have HZS:=Qaa (fun z (hz:pz A B n (i*n+k) pl+pzT A B n i k=z)=>(⟨by rw [<- hpl] at hz ⊢;rw [Qx7 A B n i k hkt];exact hz,fun j hj hne=>Qv1 A B n i k j hkt (by rw [hpl];exact hne)⟩:pz A B n (i*n+(k+1)) pl=z/\∀j,j<n->j≠pl->pz A B n (i*n+(k+1)) j=pz A B n (i*n+k) j));rw [hpl] at KP2;have HT:Hid ((n<=i+k->pzT A B n i k = -(A i*B k))/\(i+k<n->pzT A B n i k=A i*B k)):=⟨fun h=>if_pos h,fun h=>if_neg (by omega)⟩;have m1:IntKind.i64.wrap ((i:Int)+(k:Int))=(i:Int)+(k:Int):=by rw [IntKind.wrap_i64];omega
     have m2:((i:Int)+(k:Int)).tmod (n:Int)=(pl:Int):=by
      rw [Int.tmod_eq_emod_of_nonneg (by omega),<- hpl]
      push_cast
      rfl
     have m3:((i:Int)+(k:Int))%(n:Int)=(pl:Int):=by
      rw [<- hpl]
      push_cast
      rfl
     have m4:¬(n:Int)=0:=by omega
     have m5:(pl:Int)<(n:Int):=by omega
     clear y0 y1 hy hny hly hpl;obtain ⟨W4,hW4⟩:∃B:World,wr.alloc (.cells #[.bool ny,.slice ay ly cy] 60)=B:=⟨_,rfl⟩
     have A4:Old wr W4:=by rw [<- hW4];exact (Old.refl wr).alloc _
     have BY4:Hid (Bk W4 wr.heap.size #[.bool ny,.slice ay ly cy] 60):=by rw [<- hW4];exact Bk.new' wr _ _ rfl
     have BX4:=Qaa (BX3.out.old A4);have HZ4:=Qaa (HZ3.out.old A4);have HG4:=Qaa (Old.trans HG3.out A4);have HX4:=Qaa (HX.out.old HG4.out);have HY4:=Qaa (HY.out.old HG4.out);obtain ⟨ky,hky⟩:∃k,wr.heap.size=k:=⟨_,rfl⟩
     rw [hky] at BY4;clear A4 HZ3 HG3 BX3;have x0:=BX4.out.c (i:=0) rfl;have x1:=BX4.out.c (i:=1) rfl;have y0:=BY4.out.c (i:=0) rfl;have y1:=BY4.out.c (i:=1) rfl;go_wp2_with fail;refine (KM2.out _ _ _ HX4.out HY4.out).mono ?_
     rintro e w5 ⟨z5,rfl,g5,o5⟩;have HZ5:=Qaa (HZ4.out.old g5);have HG5:=Qaa (Old.trans HG4.out g5);have BX5:=Qaa (BX4.out.old g5);have HZR:=Qaa o5.rz;obtain ⟨az,cz,rfl,_⟩:=o5;obtain ⟨nz,hnz⟩:∃b,ng (A i*B k)=b:=⟨_,rfl⟩
     obtain ⟨lz,hlz⟩:∃l,(dg (A i*B k)).length=l:=⟨_,rfl⟩
     rw [hnz,hlz] at HZR ⊢;clear g5 x0 x1 y0 y1 hnz hlz HZ4 HG4 BX4 BY4 KM2 hW4 hky;obtain ⟨W6,hW6⟩:∃B:World,w5.alloc (.cells #[.bool nz,.slice az lz cz] 60)=B:=⟨_,rfl⟩
     have A6:Old w5 W6:=by rw [<- hW6];exact (Old.refl w5).alloc _
     have BZ6:Hid (Bk W6 w5.heap.size #[.bool nz,.slice az lz cz] 60):=by rw [<- hW6];exact Bk.new' w5 _ _ rfl
     have BX6:=Qaa (BX5.out.old A6);have HZ6:=Qaa (HZ5.out.old A6);have HG6:=Qaa (Old.trans HG5.out A6);have HR6:=Qaa (HZR.out.old A6);obtain ⟨kz,hkz⟩:∃k,w5.heap.size=k:=⟨_,rfl⟩
     rw [hkz] at BZ6;have hkw:w.heap.size<=kz:=by rw [<- hkz];exact HG5.out.size
     have hkx:kx≠kz:=by have:=BX5.out.lt;omega
     have hpz:pb≠kz:=by have:=HZ5.out.1;omega
     have HKZ:Hid (w.heap.size<=kz/\kx≠kz/\pb≠kz):=⟨hkw,hkx,hpz⟩;have A6':=Qaa A6;have h56:Hid (w5.heap.size<=kz):=Nat.le_of_eq hkz;clear A6 BX6 HZ6 HG6 hkw hkx hpz HZR;have z0:=BZ6.out.c (i:=0) rfl;have z1:=BZ6.out.c (i:=1) rfl;rcases Nat.lt_or_ge (i+k) n with hge | hge
     case' inr=>
      have d1:decide ((n:Int)<=(i:Int)+(k:Int))=true:=decide_eq_true (by omega);have d2:(n:Int)<=(i:Int)+(k:Int):=by omega
      go_wp2_with fail;refine (KO2.out _ _ HR6.out).mono ?_
      rintro e w7 ⟨y7,rfl,g7,o7⟩;have BZ7:=Qaa (BZ6.out.old g7);have ez : -(A i*B k)=pzT A B n i k:=(HT.out.1 hge).symm;rw [ez] at o7;obtain ⟨a7,c7,rfl,o7⟩:=o7;have O57:=Old.trans A6'.out g7;obtain ⟨n7,hn7⟩:∃b,ng (pzT A B n i k)=b:=⟨_,rfl⟩
      obtain ⟨l7,hl7⟩:∃l,(dg (pzT A B n i k)).length=l:=⟨_,rfl⟩
      have HY8:Hid (Rz (pzT A B n i k) ((w7.setCell ⟨kz,0,none⟩ (.bool n7)).setCell ⟨kz,1,none⟩ (.slice a7 l7 c7)) (.agg #[.bool n7,.slice a7 l7 c7])):=by
       rw [<- hn7,<- hl7];exact ⟨a7,c7,rfl,Own.row (Qdq (Qdq o7 BZ7.out _) (Qov BZ7.out _) _)⟩
      rw [hn7,hl7];have f0:w7.frozen? ⟨kz,0,none⟩=false:=frozen_of_row _ _ _ _ _ BZ7.out
      have f1:w7.frozen? ⟨kz,1,none⟩=false:=frozen_of_row _ _ _ _ _ BZ7.out
      have Q58:Old w5 ((w7.setCell ⟨kz,0,none⟩ (.bool n7)).setCell ⟨kz,1,none⟩ (.slice a7 l7 c7)):=(O57.own (p:=⟨kz,0,none⟩) h56.out _).own (p:=⟨kz,1,none⟩) h56.out _;have HZ8:=Qaa (HZ5.out.old Q58);have HG8:=Qaa (Old.trans HG5.out Q58);have BX8:=Qaa (BX5.out.old Q58);have BZ8:=Qaa (Qsw BZ7.out (.bool n7) (.slice a7 l7 c7));have z0:=BZ7.out.c (i:=0) rfl;have z1:=BZ7.out.c (i:=1) rfl;clear ez O57 hn7 hl7 o7 g7 BZ7 BZ6 HR6 HZ5 HG5 BX5 KO2 hW6 hkz A6' Q58;obtain ⟨W8,hW8⟩:∃B:World,((w7.setCell ⟨kz,0,none⟩ (.bool n7)).setCell ⟨kz,1,none⟩ (.slice a7 l7 c7))=B:=⟨_,rfl⟩
      rw [hW8] at HY8 HZ8 HG8 BX8 BZ8;go_wp2_with fail;clear hW8 f0 f1
     case' inl=>
      have d1:decide ((n:Int)<=(i:Int)+(k:Int))=false:=decide_eq_false (by omega);have d2:¬(n:Int)<=(i:Int)+(k:Int):=by omega
      have ez:A i*B k=pzT A B n i k:=(HT.out.2 hge).symm;rw [ez] at HR6;go_wp2_with fail;have HY8:=HR6;have HZ8:=Qaa (HZ5.out.old A6'.out);have HG8:=Qaa (Old.trans HG5.out A6'.out);have BX8:=Qaa (BX5.out.old A6'.out);have BZ8:=BZ6;clear ez HR6 HZ5 HG5 BX5 KO2 hW6 hkz A6' BZ6;obtain ⟨n7,hn7⟩:∃n7,nz=n7:=⟨_,rfl⟩
     all_goals
      clear z0 z1;have z0:=BZ8.out.c (i:=0) rfl;have z1:=BZ8.out.c (i:=1) rfl;obtain ⟨ap,cp,p0,p1,hp⟩:=HZ8.out.at pl hpn;have HP8:=Qaa hp;obtain ⟨z,hz⟩:∃z,pz A B n (i*n+k) pl+pzT A B n i k=z:=⟨_,rfl⟩
      have HE:=Qaa (HZS.out z hz);rw [hz] at KP2;obtain ⟨np,hnp⟩:∃b,ng (pz A B n (i*n+k) pl)=b:=⟨_,rfl⟩
      obtain ⟨lp,hlp⟩:∃l,(dg (pz A B n (i*n+k) pl)).length=l:=⟨_,rfl⟩
      rw [hnp] at p0;rw [hlp] at p1;rw [hnp,hlp] at HP8;clear hp hz hnp hlp;have hpb8:=HZ8.out.1;refine Qy7 _ pb pl n np ap lp cp kz _ _ _ _ (fun W u=>∃x,u=.tuple #[x,.bool true]/\RzG z pb W x) (fun W u=>RzG z pb W u) (fun W W' v h q=>?_) (fun W W' v h q=>h.old q) (fun W v h=>?_) (fun W v h=>?_) BZ8.out m5 (fun W q=>⟨(q.cell (p:=⟨pb,pl*2,none⟩) hpb8).trans p0,(q.cell (p:=⟨pb,pl*2+1,none⟩) hpb8).trans p1⟩) (fun W q=>⟨⟨_,(q.cell (p:=⟨pb,pl*2,none⟩) hpb8).trans p0⟩,⟨_,(q.cell (p:=⟨pb,pl*2+1,none⟩) hpb8).trans p1⟩,(HZ8.out.old q).2.1 _,(HZ8.out.old q).2.1 _⟩) (fun W v h=>?_) (fun W q=>?_) (fun W v b u l c h _=>?_) (fun W v b u l c h _=>h.chn (((Chn.refl pb W).set _ _).set _ _)) _ _ ?_ ?_ ?_ ?_ ?_
      ·obtain ⟨x,e,h⟩:=h;exact ⟨x,e,h.old q⟩
      ·obtain ⟨x,e,h⟩:=h;exact ⟨x,_,e,h,rfl⟩
      ·obtain ⟨a,c,e,_⟩:=h;exact ⟨_,e,rfl,by simp [Value.oneCell']⟩
      ·obtain ⟨a,c,e,_⟩:=h;exact ⟨_,_,_,_,e⟩
      ·refine (KP2.out W _ _ (HP8.out.old q) (HY8.out.old q)).mono fun e w' h=>?_
       obtain ⟨x,e1,q',o⟩:=h;exact ⟨_,e1,q',x,rfl,RzG.wz o (Nat.lt_of_lt_of_le hpb8 q.size)⟩
      ·obtain ⟨x,e,h⟩:=h;exact ⟨x,e,h.chn (((Chn.refl pb W).set _ _).set _ _)⟩
      iterate 4 (·exact rfl)
      intro us W9 b9 u9' l9 c9 g9 pv;have hx:=pv;obtain ⟨a',c',e9,_⟩:=hx;have e':b9=ng z/\u9'=a'/\l9=(dg z).length/\c9=c':=by simpa using e9
      obtain ⟨rfl,rfl,rfl,rfl⟩:=e';have N9:=Qaa (Zn.put (HZ8.out.old g9) hpn pv HE.out.1 HE.out.2);have G9:Hid (Old w ((W9.setCell ⟨pb,pl*2,none⟩ (.bool (ng z))).setCell ⟨pb,pl*2+1,none⟩ (.slice u9' (dg z).length c9))):=((Old.trans HG8.out g9).own (p:=⟨pb,pl*2,none⟩) HPB.out _).own (p:=⟨pb,pl*2+1,none⟩) HPB.out _;have X9:=Qaa (Chn.bk (((Chn.refl pb W9).set (pl*2) (.bool (ng z))).set (pl*2+1) (.slice u9' (dg z).length c9)) HKX.out (BX8.out.old g9));simp only [Qal,Act.put,Qef,List.range,List.range.loop,List.map_cons,List.map_nil,List.getD_cons_zero,List.getD_cons_succ,List.setIfInBounds_toArray,List.set_cons_succ,List.set_cons_zero];clear g9 pv e9 p0 p1 z0 z1 HZ8 HG8 BX8 BZ8 HP8 HY8 KP2 HE HZS HT;generalize (W9.setCell ⟨pb,pl*2,none⟩ (.bool (ng z))).setCell ⟨pb,pl*2+1,none⟩ (.slice u9' (dg z).length c9)=W10 at *;go_wp2_with fail;exact ⟨⟨k+1,by omega,by go_num,N9,G9,X9⟩,by simp [intOf];omega⟩
    ·have d1:decide ((k:Int)<(n:Int))=false:=decide_eq_false (by omega);obtain rfl:k=n:=by omega
     have HZ4:Hid (Zn (pz A B k ((i+1)*k+0)) k pb wr):=by
      rw [<- Qv2 A B k i];exact HZ3.out
     go_wp2_with fail;exact ⟨⟨i+1,by omega,by go_num,HZ4,HG3⟩,by simp [intOf];omega⟩
  ·have d1:decide ((i:Int)<(n:Int))=false:=decide_eq_false (by omega);obtain rfl:i=n:=by omega
   go_wp2_with fail;go_ret;exact ⟨pb,rfl,HPB.out,HG1.out,HZ1.out⟩
theorem Qko (N:Int) (ps:List Int) (Rf:Nat→Int) (gr kb:Nat) (w:World) (hr:Rgs w gr N ps Rf ps.length) (hm:1≤ps.length∧ps.length≤1000) (zss:List (List Int))
  (cj:∀k,k<ps.length->∀W,Old w W->Calls Tryz.prog 92 #[.int .i64 (ps.getD k 0),.pointer (some ⟨kb,0,none⟩)] W fun e w'=>∃v',e=.returned v'/\Old W w'/\Own w' W.heap.size v' (zss.getD k [])) :
  Calls Tryz.prog 91 #[.slice (some ⟨gr,0,none⟩) ps.length ps.length,.func (.func 92) #[] #[.pointer (some ⟨kb,0,none⟩)]] w fun e w'=>e=.returned (.slice (some ⟨w.heap.size,0,none⟩) ps.length ps.length)/\Old w w'/\Ows (TS 135 5 ps.length (elR N false ps Rf zss)) w' w.heap.size w'.heap.size [.slice (some ⟨w.heap.size,0,none⟩) ps.length ps.length]:=by
 obtain ⟨i0,hi,hz0,hz1,hz2⟩:=info_parts Tryz.infoRingRow;have HC:=Qaa (fun k hk=>hr.at k hk hk);have hb:=hr.lt;have HCJ:=Qaa cj;have HEL:Hid (∀k,elR N false ps Rf zss k=TR (ps.getD k 0) N (Rf k) false (TI (zss.getD k []))):=fun k=>rfl
 have HGD:=Qaa (Qcq N false ps Rf zss);generalize elR N false ps Rf zss=Es at *;clear hr cj;go_enter Tryz.func91,Tryz.ntmps91;go_wp2_with (at_make;refine wpList_make_full _ rfl _ _ 65 rfl 0 135 i0 (.agg #[.int .i64 0,.int .i64 0,.int .i64 0,.bool false,.slice none 0 0]) 5 Tryz.underlying65 hi hz0 hz1 .i64 .i64 _ _ ps.length rfl rfl rfl rfl (by rw [hz2];omega) (by unfold maxLen;omega) (Nat.zero_le _) ?_;intro w1 hown hgrow);have HO:Hid (TSc 135 5 ps.length 0 Es w1 w.heap.size ps.length _ (fun _ _=>False)):=TSc.start hown;have HG:Hid (Old w w1):=Below.grown (Below.refl _ _) hgrow (Nat.le_refl _) (fun _ h=>by cases h);clear hown hgrow
 go_loopw [13,6,7] (fun i _ _ W=>∃(k:Nat) (vs:List Value) (Bs:Nat->Nat->Prop),k<=ps.length/\i=.int .i64 k/\Hid (TSc 135 5 ps.length k Es W w.heap.size ps.length vs Bs)/\Hid (∀j b,j<k->Bs j b->w.heap.size<b)/\Hid (Old w W)) (fun i _ _ _=>ps.length - (intOf i).toNat)
 case atStart=>exact ⟨0,_,_,by omega,rfl,HO,(fun j b hj=>by omega),HG⟩
 case round=>
  obtain ⟨k,vs,Bs,hk,rfl,H1,HB,HG1⟩:=hrel;clear HO HG
  by_cases hlt:k<ps.length
  ·have ilt:(k:Int)<(ps.length:Int):=by omega
   obtain ⟨c0,c1,c2⟩:=HC.out k hlt;have cj:=HCJ.out k hlt;have q0:=(HG1.out.cell (p:=⟨gr,k*3,none⟩) hb).trans c0;have q1:=(HG1.out.cell (p:=⟨gr,k*3+1,none⟩) hb).trans c1;have q2:=(HG1.out.cell (p:=⟨gr,k*3+2,none⟩) hb).trans c2;have hsr:=Qaw H1.out.row;have HEK:=Qaa (HEL.out k);clear c0 c1 c2;generalize ps.getD k 0=P at *;generalize Rf k=R at *;generalize zss.getD k []=zs at *
   have HAS5:Hid (∀W',Old (wr.alloc (.cells #[.int .i64 P,.int .i64 N,.int .i64 R] 114)) W'->(W'.cell? ⟨wr.heap.size,0,none⟩=some (.int .i64 P)/\W'.cell? ⟨wr.heap.size,1,none⟩=some (.int .i64 N)/\W'.cell? ⟨wr.heap.size,2,none⟩=some (.int .i64 R))):=fun W' q=>
    ⟨(q.cell (p:=⟨wr.heap.size,0,none⟩) (by simp)).trans (Qaj _ _ _ _ _ rfl),(q.cell (p:=⟨wr.heap.size,1,none⟩) (by simp)).trans (Qaj _ _ _ _ _ rfl),(q.cell (p:=⟨wr.heap.size,2,none⟩) (by simp)).trans (Qaj _ _ _ _ _ rfl)⟩
   have HAS6:Hid (∀W' y0 y1 y2 y3 y4,Old (wr.alloc (.cells #[.int .i64 P,.int .i64 N,.int .i64 R] 114)) W'->((fun W'=>W'.cell? ⟨wr.heap.size,0,none⟩=some (.int .i64 P)/\W'.cell? ⟨wr.heap.size,1,none⟩=some (.int .i64 N)/\W'.cell? ⟨wr.heap.size,2,none⟩=some (.int .i64 R)) (((((W'.setCell ⟨w.heap.size,k*5,none⟩ y0).setCell ⟨w.heap.size,k*5+1,none⟩ y1).setCell ⟨w.heap.size,k*5+2,none⟩ y2).setCell ⟨w.heap.size,k*5+3,none⟩ y3).setCell ⟨w.heap.size,k*5+4,none⟩ y4))):=fun W' y0 y1 y2 y3 y4 q=>by
    obtain ⟨s0,s1,s2⟩:=HAS5.out W' q
    have key:∀(bb j:Nat) (z:Value),bb≠w.heap.size->W'.cell? ⟨bb,j,none⟩=some z->(((((W'.setCell ⟨w.heap.size,k*5,none⟩ y0).setCell ⟨w.heap.size,k*5+1,none⟩ y1).setCell ⟨w.heap.size,k*5+2,none⟩ y2).setCell ⟨w.heap.size,k*5+3,none⟩ y3).setCell ⟨w.heap.size,k*5+4,none⟩ y4).cell? ⟨bb,j,none⟩=some z:=fun bb j z hb hz=>by
     rw [Qdi _ _ _ _ hb,Qdi _ _ _ _ hb,Qdi _ _ _ _ hb,Qdi _ _ _ _ hb,Qdi _ _ _ _ hb];exact hz
    exact ⟨key _ _ _ (by omega) s0,key _ _ _ (by omega) s1,key _ _ _ (by omega) s2⟩
   have HGA:Hid (Old w (wr.alloc (.cells #[.int .i64 P,.int .i64 N,.int .i64 R] 114))):=HG1.out.alloc _
   have HX:Hid (∀w6 y n c Bz,Old (wr.alloc (.cells #[.int .i64 P,.int .i64 N,.int .i64 R] 114)) w6->TI zs w6 Bz [.slice y n c]->(∀b,Bz b->wr.heap.size+1<=b)->(∃vs',TSc 135 5 ps.length (k+1) Es (((((w6.setCell ⟨w.heap.size,k*5,none⟩ (.int .i64 P)).setCell ⟨w.heap.size,k*5+1,none⟩ (.int .i64 N)).setCell ⟨w.heap.size,k*5+2,none⟩ (.int .i64 R)).setCell ⟨w.heap.size,k*5+3,none⟩ (.bool false)).setCell ⟨w.heap.size,k*5+4,none⟩ (.slice y n c)) w.heap.size ps.length vs' (fun q=>if q=k then Bz else Bs q))/\(∀j b,j<k+1->(fun q=>if q=k then Bz else Bs q) j b->w.heap.size<b)/\Old w (((((w6.setCell ⟨w.heap.size,k*5,none⟩ (.int .i64 P)).setCell ⟨w.heap.size,k*5+1,none⟩ (.int .i64 N)).setCell ⟨w.heap.size,k*5+2,none⟩ (.int .i64 R)).setCell ⟨w.heap.size,k*5+3,none⟩ (.bool false)).setCell ⟨w.heap.size,k*5+4,none⟩ (.slice y n c))):=fun w6 y n c Bz g6 hTI hlo=>by
    have g7:=Old.trans ((Old.refl wr).alloc _) g6;refine ⟨(H1.out.old HGD.out g7).store5 HGD.out hlt _ _ _ _ _ (B:=Bz) (fun W' hW'=>?_) (fun hb=>by have:=hlo _ hb;omega) (fun j hj b h1 h2=>?_),fun j b hj hb=>?_,?_⟩
    ·rw [HEK.out];exact ⟨_,rfl,(Qb9 zs).far hTI (fun b hb=>hW' b (by have:=hlo b hb;omega))⟩
    ·have h4:=H1.out.lt HGD.out j b hj h1;have:=hlo b h2;omega
    ·by_cases e:j=k
     ·simp only [e,if_true] at hb;have:=hlo b hb;omega
     ·simp only [e,if_false] at hb;exact HB.out j b (by omega) hb
    ·exact (((((Old.trans HG1.out g7).own (p:=⟨w.heap.size,k*5,none⟩) (Nat.le_refl _) _).own (p:=⟨w.heap.size,k*5+1,none⟩) (Nat.le_refl _) _).own (p:=⟨w.heap.size,k*5+2,none⟩) (Nat.le_refl _) _).own (p:=⟨w.heap.size,k*5+3,none⟩) (Nat.le_refl _) _).own (p:=⟨w.heap.size,k*5+4,none⟩) (Nat.le_refl _) _
   have HCE:Hid (∀w6,Old (wr.alloc (.cells #[.int .i64 P,.int .i64 N,.int .i64 R] 114)) w6->∀i,i<5->(∃z,w6.cell? ⟨w.heap.size,k*5+i,none⟩=some z)/\w6.frozen? ⟨w.heap.size,k*5+i,none⟩=false):=fun w6 g6 i hi5=>by
    have H2:=H1.out.old HGD.out (Old.trans ((Old.refl wr).alloc _) g6);have h5:=H2.cell k i hlt hi5;have h6:=Qbi H2.row.1 k hlt;exact ⟨⟨_,h5.trans (List.getElem?_eq_getElem (by omega))⟩,H2.frozen _⟩
   clear H1 HB HEK;go_wp2_with fail
   go_region_held3 (fun W'=>W'.cell? ⟨wr.heap.size,0,none⟩=some (.int .i64 P)/\W'.cell? ⟨wr.heap.size,1,none⟩=some (.int .i64 N)/\W'.cell? ⟨wr.heap.size,2,none⟩=some (.int .i64 R)) (first | with_reducible exact HAS5.out _ Q5.out | with_reducible exact HAS5.out _ (Below.drew (Old.refl _)) | with_reducible exact HAS6.out _ _ _ _ _ _ Q5.out | with_reducible exact HAS5.out _ (Old.refl _)) (first
    | (go_at_call 92;refine (cj _ (Below.drew HGA.out)).mono ?_;rintro e w5 ⟨v5,rfl,q5,o5⟩;obtain ⟨x5,c5,rfl⟩:=(Own.row o5).slice;have Q5:=Qaa (Old.trans (Below.drew (Old.refl _)) q5);have O5:=Qaa (by simp at o5;exact o5);clear q5 o5;obtain ⟨⟨z0,hz0⟩,hf0⟩:=HCE.out w5 Q5.out 0 (by omega);obtain ⟨⟨z1,hz1⟩,hf1⟩:=HCE.out w5 Q5.out 1 (by omega);obtain ⟨⟨z2,hz2⟩,hf2⟩:=HCE.out w5 Q5.out 2 (by omega);obtain ⟨⟨z3,hz3⟩,hf3⟩:=HCE.out w5 Q5.out 3 (by omega);obtain ⟨⟨z4,hz4⟩,hf4⟩:=HCE.out w5 Q5.out 4 (by omega);rw [Nat.add_zero] at hz0 hf0)
    | fail)
   all_goals
    obtain ⟨Bz,hTI,hlo⟩:=TI.of O5.out;obtain ⟨⟨vs',n1⟩,n2,n3⟩:=HX.out w5 x5 zs.length c5 Bz Q5.out hTI hlo;have N1:=Qaa n1;have N2:Hid (∀j b,j<k+1->(fun q=>if q=k then Bz else Bs q) j b->w.heap.size<b):=n2;have N3:=Qaa n3;clear n1 n2 n3 hTI hlo HX;go_wp2_with fail;exact ⟨⟨k+1,vs',_,by omega,by go_num,N1,N2,N3⟩,by simp [intOf];omega⟩
  ·have d1:decide ((k:Int)<(ps.length:Int))=false:=by simp;omega
   obtain rfl:k=ps.length:=by omega
   have HE:=Qaa (H1.out.done HGD.out (Nat.le_refl _) (fun j b hj hb=>Nat.le_of_lt (HB.out j b hj hb)));go_wp2_with fail;go_ret;exact ⟨rfl,HG1.out,HE.out⟩
def upF (f:Nat->Int) (k:Nat):Nat->Int:=fun j=>if j<k then f j else 0
theorem Qv5 (f:Nat->Int) (k:Nat):upF f (k+1) k=f k:=if_pos (by omega)
theorem Qs7 (f:Nat->Int) (k j:Nat) (h:j≠k):upF f (k+1) j=upF f k j:=by
 unfold upF
 by_cases h1:j<k
 ·rw [if_pos h1,if_pos (by omega)]
 ·rw [if_neg h1,if_neg (by omega)]
theorem Qs8 (f:Nat->Int) (n:Nat):∀k,k<n->f k=upF f n k:=fun k hk=>(if_pos hk).symm
theorem Qnk (A B:Nat→Int) (n:Nat) (v u:Value) (w:World) (hn:1≤n∧n≤16) (hA:Bd A n 15) (hB:Bd B n 15) (hv:Zr A n w v) (hu:Zr B n w u) :
  Calls Tryz.prog 59 #[v,u] w fun e w'=>∃p,e=.returned (.slice (some ⟨p,0,none⟩) n n)/\w.heap.size<=p/\Old w w'/\Zn (fun k=>A k+B k) n p w':=by
 obtain ⟨i0,hi,hz0,hz1,hz2⟩:=info_parts Tryz.infoWhole;obtain ⟨b0,o0,c0,rfl,hb0⟩:=hv.slice;obtain ⟨b1,o1,c1,rfl,hb1⟩:=hu.slice;have HA:=Qaa (fun k hk=>hv.at k hk);have HB:=Qaa (fun k hk=>hu.at k hk);have KP:=Qaa (fun k (hk:k<n) W x y (hx:Rz (A k) W x) (hy:Rz (B k) W y)=>Qzk (A k) (B k) x y W hx hy (Nat.le_trans (hA k hk) (by omega)) (Nat.le_trans (hB k hk) (by omega)) (Nat.le_trans (Qs5 (hA k hk) (hB k hk)) (by omega)));clear hv hu hA hB;have HC:Hid (∀p W,Zn (upF (fun k=>A k+B k) n) n p W->Zn (fun k=>A k+B k) n p W):=fun p W h=>h.congr (Qs8 _ n)
 have HU:Hid (∀k,upF (fun k=>A k+B k) (k+1) k=A k+B k):=fun k=>Qv5 _ k
 have HO:Hid (∀k j,j≠k->upF (fun k=>A k+B k) (k+1) j=upF (fun k=>A k+B k) k j):=fun k j h=>Qs7 _ k j h
 have H0:Hid (∀p W,Zn (fun _=>0) n p W->Zn (upF (fun k=>A k+B k) 0) n p W):=fun p W h=>h.congr (fun k _=>if_neg (by omega))
 generalize upF (fun k=>A k+B k)=F at *;go_enter Tryz.func59,Tryz.ntmps59;go_wp2_with (at_make;refine wpList_make_full _ rfl _ _ 105 rfl w.heap.size 60 i0 (.agg #[.bool false,.slice none 0 0]) 2 Tryz.underlying105 hi hz0 hz1 .i64 .i64 _ _ n rfl rfl rfl rfl (by rw [hz2];omega) (by unfold maxLen;omega) (Nat.le_refl _) ?_;intro w1 hown hgrow);have HZ:=Qaa (H0.out _ _ (Zn.zero hown));have HG:Hid (Old w w1):=Old.by_ (Old.refl _) hgrow (fun b hb=>by cases hb);obtain ⟨pb,hpb⟩:∃pb,w.heap.size=pb:=⟨_,rfl⟩
 rw [hpb] at HZ ⊢;have HPB:Hid (w.heap.size<=pb):=Nat.le_of_eq hpb;clear hown hgrow hpb H0
 go_loopw [13,6,7] (fun x _ _ W=>∃k:Nat,k<=n/\x=.int .i64 k/\Hid (Zn (F k) n pb W)/\Hid (Old w W)) (fun x _ _ _=>n - (intOf x).toNat)
 case atStart=>exact ⟨0,by omega,rfl,HZ,HG⟩
 case round=>
  obtain ⟨k,hk',rfl,HZ1,HG1⟩:=hrel;clear HZ HG
  by_cases hlt:k<n
  ·obtain ⟨ax,cx,x0,x1,hx⟩:=HA.out k hlt;obtain ⟨ay,cy,y0,y1,hy⟩:=HB.out k hlt;have q0:=(HG1.out.cell (p:=⟨b0,o0+k*2,none⟩) hb0).trans x0;have q1:=(HG1.out.cell (p:=⟨b0,o0+k*2+1,none⟩) hb0).trans x1;have KP1:=Qaa (KP.out k hlt);have HE1:=Qaa (HU.out k);have HE2:=Qaa (fun j (_ : j<n) (h:j≠k)=>HO.out k j h);have HX:=Qaa hx;have HY:=Qaa hy;have iL:(k:Int)<(n:Int):=by omega
   obtain ⟨nx,hnx⟩:∃b,ng (A k)=b:=⟨_,rfl⟩
   obtain ⟨lx,hlx⟩:∃l,(dg (A k)).length=l:=⟨_,rfl⟩
   obtain ⟨ny,hny⟩:∃b,ng (B k)=b:=⟨_,rfl⟩
   obtain ⟨ly,hly⟩:∃l,(dg (B k)).length=l:=⟨_,rfl⟩
   rw [hnx,hlx] at HX;rw [hnx] at q0;rw [hlx] at q1;rw [hny,hly] at HY;rw [hny] at y0;rw [hly] at y1;generalize A k+B k=z at *;have HYY:Hid (w.cell? ⟨b1,o1+k*2,none⟩=some (.bool ny)/\w.cell? ⟨b1,o1+k*2+1,none⟩=some (.slice ay ly cy)):=⟨y0,y1⟩;clear x0 x1 hx hnx hlx y0 y1 hy hny hly;obtain ⟨W2,hW2⟩:∃B:World,wr.alloc (.cells #[.bool nx,.slice ax lx cx] 60)=B:=⟨_,rfl⟩
   have A2:Old wr W2:=by rw [<- hW2];exact (Old.refl wr).alloc _
   have BX:Hid (Bk W2 wr.heap.size #[.bool nx,.slice ax lx cx] 60):=by rw [<- hW2];exact Bk.new' wr _ _ rfl
   have HZ2:=Qaa (HZ1.out.old A2);have HG2:=Qaa (Old.trans HG1.out A2);obtain ⟨kx,hkx⟩:∃k,wr.heap.size=k:=⟨_,rfl⟩
   rw [hkx] at BX;clear A2 HZ1 HG1;go_wp2_with fail;obtain ⟨_,_,p0,p1,_⟩:=HZ2.out.at k hlt;have hpb2:=HZ2.out.1;refine Qy8 W2 pb n k kx nx ax lx cx b1 o1 c1 ny ay ly cy (fun W u=>∃x,u=.tuple #[x,.bool true]/\RzG z pb W x) (fun W u=>RzG z pb W u) (fun W W' v h q=>?_) (fun W W' v h q=>h.old q) (fun W v h=>?_) (fun W v h=>?_) BX.out iL (fun W q=>⟨((Old.trans HG2.out q).cell (p:=⟨b1,o1+k*2,none⟩) hb1).trans HYY.out.1,((Old.trans HG2.out q).cell (p:=⟨b1,o1+k*2+1,none⟩) hb1).trans HYY.out.2⟩) (fun W q=>⟨⟨_,(q.cell (p:=⟨pb,k*2,none⟩) hpb2).trans p0⟩,⟨_,(q.cell (p:=⟨pb,k*2+1,none⟩) hpb2).trans p1⟩,(HZ2.out.old q).2.1 _,(HZ2.out.old q).2.1 _⟩) (fun W v h=>?_) (fun W q=>?_) (fun W v b u l c h _=>?_) (fun W v b u l c h _=>h.chn (((Chn.refl pb W).set _ _).set _ _)) _ _ ?_ ?_ ?_ ?_ ?_ ?_
   ·obtain ⟨x,e,h⟩:=h;exact ⟨x,e,h.old q⟩
   ·obtain ⟨x,e,h⟩:=h;exact ⟨x,_,e,h,rfl⟩
   ·obtain ⟨a,c,e,_⟩:=h;exact ⟨_,e,rfl,by simp [Value.oneCell']⟩
   ·obtain ⟨a,c,e,_⟩:=h;exact ⟨_,_,_,_,e⟩
   ·refine (KP1.out W _ _ (HX.out.old (Old.trans HG2.out q)) (HY.out.old (Old.trans HG2.out q))).mono fun e w' h=>?_
    obtain ⟨x,e1,q',o⟩:=h;exact ⟨_,e1,q',x,rfl,RzG.wz o (Nat.lt_of_lt_of_le hpb2 q.size)⟩
   ·obtain ⟨x,e,h⟩:=h;exact ⟨x,e,h.chn (((Chn.refl pb W).set _ _).set _ _)⟩
   iterate 5 (·exact rfl)
   intro us W9 b9 u9' l9 c9 g9 pv;have hx:=pv;obtain ⟨a',c',e9,_⟩:=hx;have e':b9=ng z/\u9'=a'/\l9=(dg z).length/\c9=c':=by simpa using e9
   obtain ⟨rfl,rfl,rfl,rfl⟩:=e';have N9:=Qaa (Zn.put (HZ2.out.old g9) hlt pv HE1.out HE2.out);have G9:Hid (Old w ((W9.setCell ⟨pb,k*2,none⟩ (.bool (ng z))).setCell ⟨pb,k*2+1,none⟩ (.slice u9' (dg z).length c9))):=((Old.trans HG2.out g9).own (p:=⟨pb,k*2,none⟩) HPB.out _).own (p:=⟨pb,k*2+1,none⟩) HPB.out _;simp only [Qal,Act.put,Qd4,List.range,List.range.loop,List.map_cons,List.map_nil,List.getD_cons_zero,List.getD_cons_succ,List.setIfInBounds_toArray,List.set_cons_succ,List.set_cons_zero];clear g9 pv e9 p0 p1 HZ2 HG2 BX HX HY KP1 HYY HE1 HE2 HU HO;generalize (W9.setCell ⟨pb,k*2,none⟩ (.bool (ng z))).setCell ⟨pb,k*2+1,none⟩ (.slice u9' (dg z).length c9)=W10 at *;go_wp2_with fail;exact ⟨⟨k+1,by omega,by go_num,N9,G9⟩,by simp [intOf];omega⟩
  ·have d1:decide ((k:Int)<(n:Int))=false:=decide_eq_false (by omega);obtain rfl:k=n:=by omega
   have HF:=Qaa (HC.out _ _ HZ1.out);go_wp2_with fail;go_ret;exact ⟨pb,rfl,HPB.out,HG1.out,HF.out⟩
def rwZ (f:Nat->Int) (n:Nat) (ps:List Int):List (List Int):=Qti (bsF f n) (xsF f n) ps
theorem Qs9 (f:Nat->Int) (n:Nat) (ps:List Int):(rwZ f n ps).length=ps.length:=Qj6 _ _ _
theorem Qx9 (f:Nat->Int) (n:Nat) (ps:List Int) (k:Nat) (hk:k<ps.length):(rwZ f n ps).getD k []=lbZ (bsF f n) (xsF f n) (ps.getD k 0):=Qom _ _ _ k hk
theorem Qzs {f:Nat->Int} {n:Nat} (hf:Bd f n 40):Q0l (bsF f n) (xsF f n) 0=true:=decide_eq_true (fun i h1 _=>by
 rw [Qcw] at h1;rw [Qhu f n i h1,Qhv f n i h1];exact Qht (hf i h1))
theorem Qu4 (f:Nat→Int) (n:Nat) (p:Int) (v:Value) (w:World) (hn:n≤16) (hf:Bd f n 40) (hv:Zr f n w v) (hp:2≤p∧p≤268435456) :
  Calls Tryz.prog 93 #[.int .i64 p,v] w fun e w'=>∃v',e=.returned v'/\Old w w'/\Own w' w.heap.size v' (lbZ (bsF f n) (xsF f n) p):=by
 refine (Qpq (bsF f n) (xsF f n) p v w hv.rowW (by rw [Qcw];omega) (fun r hr=>?_) (Qzs hf) hp).mono fun e w' h=>⟨_,h.1,h.2.1,?_⟩
 ·obtain ⟨k,hk,rfl⟩:=List.mem_map.1 hr;have:=hf k (List.mem_range.1 hk);simp only [toI,List.length_map];omega
 ·have h3:=h.2.2;have e:(lbZ (bsF f n) (xsF f n) p).length=(xsF f n).length:=Qhn _ _ _;rw [<- e] at h3 ⊢;exact h3
theorem Qp5 (f:Nat→Int) (n:Nat) (p:Int) (kb pb c:Nat) (w:World) (hn:n≤16) (hf:Bd f n 40) (hb:Bk w kb #[.slice (some ⟨pb,0,none⟩) n c] 105) (hv:Zr f n w (.slice (some ⟨pb,0,none⟩) n c)) (hp:2≤p∧p≤268435456) :
  Calls Tryz.prog 92 #[.int .i64 p,.pointer (some ⟨kb,0,none⟩)] w fun e w'=>∃v',e=.returned v'/\Old w w'/\Own w' w.heap.size v' (lbZ (bsF f n) (xsF f n) p):=by
 have K:=Qaa (Qu4 f n p (.slice (some ⟨pb,0,none⟩) n c) w hn hf hv hp);have c0:=hb.c (i:=0) rfl;clear hb hv hf;generalize lbZ (bsF f n) (xsF f n) p=zs at *;go_enter Tryz.func92,Tryz.ntmps92;go_wp2_with fail;refine K.out.mono ?_
 rintro e w1 ⟨v',rfl,g1,o1⟩;have G1:=Qaa g1;have O1:=Qaa o1;clear g1 o1;go_wp2_with fail;go_ret;exact ⟨_,rfl,G1.out,O1.out⟩
theorem Qej (N T E:Int) (q:Nat) (ps:List Int) (Rf:Nat→Int) (f:Nat→Int) (n gr:Nat) (a3:Option Addr) (l3 c3:Nat) (a6:Option Addr) (l6 c6:Nat) (v:Value) (w:World) (hv:Zr f n w v) (hn:1≤n∧n≤16) (hf:Bd f n 16) (hq:0<q) (hqr:Rz q w (.agg #[.bool false,.slice a6 l6 c6])) (lq:(dg (q:Int)).length≤40) (hT:0≤T∧T≤65536) (hr:Rgs w gr N ps Rf ps.length) (hm:1≤ps.length∧ps.length≤1000) (hp:∀k,k<ps.length→2≤ps.getD k 0∧ps.getD k 0≤268435456) :
  Calls Tryz.prog 61 #[.agg #[.int .i64 N,.int .i64 T,.int .i64 E,.slice a3 l3 c3,.slice (some ⟨gr,0,none⟩) ps.length ps.length,.bool false,.slice a6 l6 c6],v] w fun e w'=>∃g,e=.returned (.slice (some ⟨g,0,none⟩) ps.length ps.length)/\Old w w'/\Ows (TS 135 5 ps.length (elR N false ps Rf (rwZ (scF f T q) n ps))) w' w.heap.size w'.heap.size [.slice (some ⟨g,0,none⟩) ps.length ps.length]:=by
 obtain ⟨i0,hi,hz0,hz1,hz2⟩:=info_parts Tryz.infoWhole;obtain ⟨b0,o0,c0,rfl,hb0⟩:=hv.slice;have HA:=Qaa (fun k hk=>hv.at k hk);have KD:=Qaa (fun k (hk:k<n) W x (g:Old w W) (hx:Rz (f k) W x)=>Ql3 N T E q (f k) a3 l3 c3 (some ⟨gr,0,none⟩) ps.length ps.length a6 l6 c6 x W hx hq (hqr.old g) hT (Nat.le_trans (hf k hk) (by omega)) (Nat.le_trans (Qkn (hf k hk) (by omega)) (by omega)) lq (Nat.le_trans (Qs0 (Qkn (hf k hk) (by omega)) hq) (by omega)));have hbd:=Qv4 (n:=n) hf hT hq
 have KR:=Qaa (fun W kb pb (g:Old w W) (hb:Bk W kb #[.slice (some ⟨pb,0,none⟩) n n] 105) (hz:Zr (scF f T q) n W (.slice (some ⟨pb,0,none⟩) n n))=>Qko N ps Rf gr kb W (hr.old g) hm (rwZ (scF f T q) n ps) (fun k hk W2 g2=>by
  rw [Qx9 _ _ _ k hk];exact Qp5 (scF f T q) n (ps.getD k 0) kb pb n W2 hn.2 (fun j hj=>Nat.le_trans (hbd j hj) (by omega)) (hb.old g2) (hz.old g2) (hp k hk)))
 clear hv hqr hf hbd hr hp;have HC:Hid (∀p W,Zn (upF (scF f T q) n) n p W->Zn (scF f T q) n p W):=fun p W h=>h.congr (Qs8 _ n)
 have HU:Hid (∀k,upF (scF f T q) (k+1) k=Qew (f k*T) q):=fun k=>Qv5 _ k
 have HO:Hid (∀k j,j≠k->upF (scF f T q) (k+1) j=upF (scF f T q) k j):=fun k j h=>Qs7 _ k j h
 have H0:Hid (∀p W,Zn (fun _=>0) n p W->Zn (upF (scF f T q) 0) n p W):=fun p W h=>h.congr (fun k _=>if_neg (by omega))
 generalize upF (scF f T q)=F at *;generalize rwZ (scF f T q) n ps=zss at *;generalize scF f T q=sf at *;obtain ⟨m,hmm⟩:∃m,ps.length=m:=⟨_,rfl⟩
 rw [hmm] at KD KR hm ⊢;clear hmm;obtain ⟨B,hB⟩:∃B:World,w.alloc (.cells #[.int .i64 N,.int .i64 T,.int .i64 E,.slice a3 l3 c3,.slice (some ⟨gr,0,none⟩) m m,.bool false,.slice a6 l6 c6] 62)=B:=⟨_,rfl⟩
 have O:Hid (Old w B):=by rw [<- hB];exact (Old.refl w).alloc _
 have X:Hid (Bk B w.heap.size #[.int .i64 N,.int .i64 T,.int .i64 E,.slice a3 l3 c3,.slice (some ⟨gr,0,none⟩) m m,.bool false,.slice a6 l6 c6] 62):=by rw [<- hB];exact Bk.new' w _ _ rfl
 obtain ⟨bx,hbx⟩:∃k,w.heap.size=k:=⟨_,rfl⟩
 rw [hbx] at X;go_enter Tryz.func61,Tryz.ntmps61;go_wp2_with (at_make;refine wpList_make_full _ rfl _ _ 105 rfl B.heap.size 60 i0 (.agg #[.bool false,.slice none 0 0]) 2 Tryz.underlying105 hi hz0 hz1 .i64 .i64 _ _ n rfl rfl rfl rfl (by rw [hz2];omega) (by unfold maxLen;omega) (Nat.le_refl _) ?_;intro w1 hown hgrow;obtain ⟨pb,hpb⟩:∃pb,B.heap.size=pb:=⟨_,rfl⟩;rw [hpb];obtain ⟨B2,hB2⟩:∃C:World,w1.alloc (.cells #[.slice (some ⟨pb,0,none⟩) n n] 105)=C:=⟨_,rfl⟩;obtain ⟨kb,hkb⟩:∃k,w1.heap.size=k:=⟨_,rfl⟩);have A1:Old B w1:=Old.by_ (Old.refl _) hgrow (fun b hb=>by cases hb);have A2:Old w1 B2:=by rw [<- hB2];exact (Old.refl w1).alloc _
 rw [hpb] at hown;have HZ:=Qaa ((H0.out _ _ (Zn.zero hown)).old A2);have HG:=Qaa (Old.trans (Old.trans O.out A1) A2);have HX:=Qaa (X.out.old (Old.trans A1 A2));have HK:Hid (Bk B2 kb #[.slice (some ⟨pb,0,none⟩) n n] 105):=by rw [<- hB2,<- hkb];exact Bk.new' w1 _ _ rfl
 have HPB:Hid (w.heap.size<=pb):=by
  rw [<- hpb];exact O.out.size
 have HNE:Hid (bx≠pb/\kb≠pb):=by
  have h1:=X.out.lt;have h2:pb<w1.heap.size:=Qaw hown
  show bx≠pb/\kb≠pb
  omega
 clear hown hgrow hpb H0 A1 A2 X O hB hB2 hkb hbx
 go_loopw [13,6,7] (fun x _ _ W=>∃k:Nat,k<=n/\x=.int .i64 k/\Hid (Zn (F k) n pb W)/\Hid (Old w W)/\Hid (Bk W bx #[.int .i64 N,.int .i64 T,.int .i64 E,.slice a3 l3 c3,.slice (some ⟨gr,0,none⟩) m m,.bool false,.slice a6 l6 c6] 62)/\Hid (Bk W kb #[.slice (some ⟨pb,0,none⟩) n n] 105)) (fun x _ _ _=>n - (intOf x).toNat)
 case atStart=>exact ⟨0,by omega,rfl,HZ,HG,HX,HK⟩
 case round=>
  obtain ⟨k,hk',rfl,HZ1,HG1,HX1,HK1⟩:=hrel;clear HZ HG HX HK
  by_cases hlt:k<n
  ·obtain ⟨ax,cx,x0,x1,hx⟩:=HA.out k hlt;have q0:=(HG1.out.cell (p:=⟨b0,o0+k*2,none⟩) hb0).trans x0;have q1:=(HG1.out.cell (p:=⟨b0,o0+k*2+1,none⟩) hb0).trans x1;have KD1:=Qaa (KD.out k hlt);have HE1:=Qaa (HU.out k);have HE2:=Qaa (fun j (_ : j<n) (h:j≠k)=>HO.out k j h);have HX':=Qaa hx;have iL:(k:Int)<(n:Int):=by omega
   obtain ⟨nx,hnx⟩:∃b,ng (f k)=b:=⟨_,rfl⟩
   obtain ⟨lx,hlx⟩:∃l,(dg (f k)).length=l:=⟨_,rfl⟩
   rw [hnx,hlx] at HX';rw [hnx] at q0;rw [hlx] at q1;generalize Qew (f k*T) q=z at *;clear x0 x1 hx hnx hlx;obtain ⟨W2,hW2⟩:∃B:World,wr.alloc (.cells #[.bool nx,.slice ax lx cx] 60)=B:=⟨_,rfl⟩
   have A2:Old wr W2:=by rw [<- hW2];exact (Old.refl wr).alloc _
   have BX:Hid (Bk W2 wr.heap.size #[.bool nx,.slice ax lx cx] 60):=by rw [<- hW2];exact Bk.new' wr _ _ rfl
   have HZ2:=Qaa (HZ1.out.old A2);have HG2:=Qaa (Old.trans HG1.out A2);have HX2:=Qaa (HX1.out.old A2);have HK2:=Qaa (HK1.out.old A2);obtain ⟨kx,hkx⟩:∃k,wr.heap.size=k:=⟨_,rfl⟩
   rw [hkx] at BX;clear A2 HZ1 HG1 HX1 HK1;go_wp2_with fail;obtain ⟨_,_,p0,p1,_⟩:=HZ2.out.at k hlt;have hpb2:=HZ2.out.1;refine Qy9 W2 N T E a3 l3 c3 (some ⟨gr,0,none⟩) m m a6 l6 c6 bx kb pb n k kx nx ax lx cx (fun W u=>RzG z pb W u) (fun W W' v h q=>h.old q) (fun W v h=>?_) HX2.out HK2.out BX.out iL (fun W q=>⟨⟨_,(q.cell (p:=⟨pb,k*2,none⟩) hpb2).trans p0⟩,⟨_,(q.cell (p:=⟨pb,k*2+1,none⟩) hpb2).trans p1⟩,(HZ2.out.old q).2.1 _,(HZ2.out.old q).2.1 _⟩) (fun W v h=>?_) (fun W q=>?_) _ _ ?_ ?_ ?_ ?_ ?_ ?_
   ·obtain ⟨a,c,e,_⟩:=h;exact ⟨_,e,rfl,by simp [Value.oneCell']⟩
   ·obtain ⟨a,c,e,_⟩:=h;exact ⟨_,_,_,_,e⟩
   ·refine (KD1.out W _ (Old.trans HG2.out q) (HX'.out.old (Old.trans HG2.out q))).mono fun e w' h=>?_
    obtain ⟨x,e1,q',o⟩:=h;exact ⟨_,e1,q',RzG.wz o (Nat.lt_of_lt_of_le hpb2 q.size)⟩
   iterate 5 (·exact rfl)
   intro us W9 b9 u9' l9 c9 g9 pv;have hx:=pv;obtain ⟨a',c',e9,_⟩:=hx;have e':b9=ng z/\u9'=a'/\l9=(dg z).length/\c9=c':=by simpa using e9
   obtain ⟨rfl,rfl,rfl,rfl⟩:=e';have hch:=((Chn.refl pb W9).set (k*2) (.bool (ng z))).set (k*2+1) (.slice u9' (dg z).length c9);have N9:=Qaa (Zn.put (HZ2.out.old g9) hlt pv HE1.out HE2.out);have G9:Hid (Old w ((W9.setCell ⟨pb,k*2,none⟩ (.bool (ng z))).setCell ⟨pb,k*2+1,none⟩ (.slice u9' (dg z).length c9))):=((Old.trans HG2.out g9).own (p:=⟨pb,k*2,none⟩) HPB.out _).own (p:=⟨pb,k*2+1,none⟩) HPB.out _;have X9:=Qaa (Chn.bk hch HNE.out.1 (HX2.out.old g9));have K9:=Qaa (Chn.bk hch HNE.out.2 (HK2.out.old g9));simp only [Qal,Act.put,Qd5,List.range,List.range.loop,List.map_cons,List.map_nil,List.getD_cons_zero,List.getD_cons_succ,List.setIfInBounds_toArray,List.set_cons_succ,List.set_cons_zero];clear hch g9 pv e9 p0 p1 HZ2 HG2 BX HX2 HK2 HX' KD1 HE1 HE2 HU HO;generalize (W9.setCell ⟨pb,k*2,none⟩ (.bool (ng z))).setCell ⟨pb,k*2+1,none⟩ (.slice u9' (dg z).length c9)=W10 at *;go_wp2_with fail;exact ⟨⟨k+1,by omega,by go_num,N9,G9,X9,K9⟩,by simp [intOf];omega⟩
  ·have d1:decide ((k:Int)<(n:Int))=false:=decide_eq_false (by omega);obtain rfl:k=n:=by omega
   have x4:=HX1.out.c (i:=4) rfl;have KR1:=Qaa (KR.out wr kb pb HG1.out HK1.out (Zn.zr (HC.out _ _ HZ1.out)));clear HZ1 HX1 HK1 HC KR;have hmf:∀(fn:Fn) (first cap:Array Value) (w:World),(Instr.makeFunc fn first cap).run Tryz.prog w=.ok (.func fn first cap) w:=fun _ _ _ _=>rfl
   go_wp2_with fail;refine KR1.out.mono ?_
   rintro e w5 ⟨rfl,g5,o5⟩;have G5:=Qaa (Old.trans HG1.out g5);have O5:=Qaa (o5.low HG1.out.size (Nat.le_refl _) o5.1);clear g5 o5 KR1;go_wp2_with fail;go_ret;exact ⟨_,rfl,G5.out,O5.out⟩
theorem Ows.putE {E:Qbf} {W:World} {lo hi k j:Nat} {cs:List Value} {x:Value} (g:GoodT E) (h:Ows E W lo hi cs) (hk:k<lo∨hi<=k):Ows E (W.setCell ⟨k,j,none⟩ x) lo hi cs:=by
 obtain ⟨h1,B,hE,hB⟩:=h;exact ⟨by rw [World.size_setCell];exact h1,B,g.far hE (fun b hb=>heap_setCell_other _ _ _ _ (by have:=hB b hb;show b≠k;omega)),hB⟩
theorem Qu5 {w:World} {k:Nat} {x y z:Value} {t:TypeId} (h:Bk w k #[x,y,z] t) (x' y' z':Value):Bk (((w.setCell ⟨k,0,none⟩ x').setCell ⟨k,1,none⟩ y').setCell ⟨k,2,none⟩ z') k #[x',y',z'] t:=heap_setCell_same _ k 2 _ _ z' (heap_setCell_same _ k 1 _ _ y' (heap_setCell_same w k 0 _ _ x' h))
theorem Qu6 {Nn:Nat} {ps:List Int} {Rf:Nat→Int} {z0 z1 z2:List (List Int)} {w:World} {lo m1 m2 hi:Nat} {s0 s1 s2:Value} (h0:Ows (TS 135 5 ps.length (elR Nn false ps Rf z0)) w lo m1 [s0]) (h1:Ows (TS 135 5 ps.length (elR Nn false ps Rf z1)) w m1 m2 [s1]) (h2:Ows (TS 135 5 ps.length (elR Nn false ps Rf z2)) w m2 hi [s2]) (hl1:lo≤m1) (hl2:m1≤m2) (hl3:m2≤hi) :
  Ows (TS 65 1 3 (elP Nn false ps Rf [z0,z1,z2])) (w.alloc (.cells #[s0,s1,s2] 65)) lo (w.alloc (.cells #[s0,s1,s2] 65)).heap.size [.slice (some ⟨w.heap.size,0,none⟩) 3 3]:=by
 have hh0:=h0.1;have hh1:=h1.1;have hh2:=h2.1;have O:Old w (w.alloc (.cells #[s0,s1,s2] 65)):=(Old.refl w).alloc _;obtain ⟨_,B0,t0,b0⟩:=Ows.old (Qc6 _ _ _ (Qcq _ _ _ _ _)) h0 O;obtain ⟨_,B1,t1,b1⟩:=Ows.old (Qc6 _ _ _ (Qcq _ _ _ _ _)) h1 O;obtain ⟨_,B2,t2,b2⟩:=Ows.old (Qc6 _ _ _ (Qcq _ _ _ _ _)) h2 O;have hrow:=World.ownsRow_lit (base:=0) (e:=65) (size:=1) w #[s0,s1,s2] 3 (Nat.zero_le _) (by unfold maxLen;omega) rfl;have hs:(w.alloc (.cells #[s0,s1,s2] 65)).heap.size=w.heap.size+1:=by simp
 have hb:∀j b,j<3->(fun j=>if j=0 then B0 else if j=1 then B1 else B2) j b->(if j=0 then lo else if j=1 then m1 else m2)<=b/\b<(if j=0 then m1 else if j=1 then m2 else hi):=fun j b hj h=>by
  rcases (show j=0∨j=1∨j=2 by omega) with rfl | rfl | rfl
  ·exact b0 b h
  ·exact b1 b h
  ·exact b2 b h
 refine ⟨Nat.le_refl _,fun b=>b=w.heap.size∨∃j,j<3/\(fun j=>if j=0 then B0 else if j=1 then B1 else B2) j b,.inr ⟨w.heap.size,3,[s0,s1,s2],fun j=>if j=0 then B0 else if j=1 then B1 else B2,rfl,⟨hrow,fun j hj=>?_,fun j hj h=>?_,fun i j hi' hj' hij b p1 p2=>?_⟩,fun b=>Iff.rfl⟩,fun b h=>?_⟩
 ·rcases (show j=0∨j=1∨j=2 by omega) with rfl | rfl | rfl
  ·exact t0
  ·exact t1
  ·exact t2
 ·have:=hb j _ hj h;rcases (show j=0∨j=1∨j=2 by omega) with rfl | rfl | rfl <;> simp at this <;> omega
 ·have q1:=hb i b hi' p1;have q2:=hb j b hj' p2;rcases (show i=0∨i=1∨i=2 by omega) with rfl | rfl | rfl <;> rcases (show j=0∨j=1∨j=2 by omega) with rfl | rfl | rfl <;> simp at q1 q2 hij <;> omega
 ·rcases h with rfl | ⟨j,hj,h⟩
  ·omega
  ·have:=hb j b hj h;rcases (show j=0∨j=1∨j=2 by omega) with rfl | rfl | rfl <;> simp at this <;> omega
theorem Qp6 (Nn:Nat) (ps:List Int) (Rf:Nat→Int) (z0 z1 z2:List (List Int)) (lo m1 m2 hi:Nat) (g0 g1 g2:Option Addr) (l0 c0 l1 c1 l2 c2:Nat) (w:World) (h0:Ows (TS 135 5 ps.length (elR Nn false ps Rf z0)) w lo m1 [.slice g0 l0 c0]) (h1:Ows (TS 135 5 ps.length (elR Nn false ps Rf z1)) w m1 m2 [.slice g1 l1 c1]) (h2:Ows (TS 135 5 ps.length (elR Nn false ps Rf z2)) w m2 hi [.slice g2 l2 c2]) (hl1:lo≤m1) (hl2:m1≤m2) (hl3:m2≤hi) :
  Calls Tryz.prog 30 #[.agg #[.slice g0 l0 c0,.slice g1 l1 c1,.slice g2 l2 c2]] w fun e w'=>∃p,e=.returned (.slice (some ⟨p,0,none⟩) 3 3)/\Old w w'/\Ows (TS 65 1 3 (elP Nn false ps Rf [z0,z1,z2])) w' lo w'.heap.size [.slice (some ⟨p,0,none⟩) 3 3]:=by
 have O:Hid (Old w (w.alloc (.cells #[.slice g0 l0 c0,.slice g1 l1 c1,.slice g2 l2 c2] 73))):=(Old.refl w).alloc _;have k0:=Qaa (Ows.old (Qc6 _ _ _ (Qcq _ _ _ _ _)) h0 O.out);have k1:=Qaa (Ows.old (Qc6 _ _ _ (Qcq _ _ _ _ _)) h1 O.out);have k2:=Qaa (Ows.old (Qc6 _ _ _ (Qcq _ _ _ _ _)) h2 O.out);clear h0 h1 h2;go_enter Tryz.func30,Tryz.ntmps30;go_wp2_with fail;go_ret;have e:(w.alloc (.cells #[.slice g0 l0 c0,.slice g1 l1 c1,.slice g2 l2 c2] 73)).heap.size=w.heap.size+1:=by simp
 have L:=Qu6 k0.out k1.out k2.out hl1 hl2 hl3;rw [e] at L;exact ⟨_,rfl,O.out.alloc _,L⟩
theorem Ql5 (Nn:Nat) (T E:Int) (a3:Option Addr) (c3:Nat) (gr:Nat) (a6:Option Addr) (l6 c6:Nat) (ps:List Int) (Rf:Nat→Int) (x0 x1 y0 y1:List (List Int)) (g0 g1 h0 h1:Option Addr) (q0 q1 r0 r1:Nat) (w:World) (hv:Row w (.slice a3 ps.length c3) ps) (hf:Fit (.slice a3 ps.length c3)) (hN:2≤Nn∧Nn≤16) (hps:1≤ps.length∧ps.length≤6) (hpb:∀k,k<ps.length→2≤ps.getD k 0∧ps.getD k 0≤268435456) (hT:0≤T∧T≤65536) (hrg:Rgs w gr Nn ps Rf ps.length) (hq:Rz (Qae (pnN ps):Nat) w (.agg #[.bool false,.slice a6 l6 c6])) (hqp:0<Qae (pnN ps)) (hql:(dg (Qae (pnN ps):Nat)).length≤40)
  (k0:Gr Nn ps x0) (k1:Gr Nn ps x1) (j0:Gr Nn ps y0) (j1:Gr Nn ps y1) (d0:RdX Nn ps Rf x0 w (.slice g0 ps.length q0)) (d1:RdX Nn ps Rf x1 w (.slice g1 ps.length q1)) (e0:RdX Nn ps Rf y0 w (.slice h0 ps.length r0)) (e1:RdX Nn ps Rf y1 w (.slice h1 ps.length r1)) :
  Calls Tryz.prog 29 #[.agg #[.int .i64 (Nn:Int),.int .i64 T,.int .i64 E,.slice a3 ps.length c3,.slice (some ⟨gr,0,none⟩) ps.length ps.length,.bool false,.slice a6 l6 c6],.agg #[.slice g0 ps.length q0,.slice g1 ps.length q1],.agg #[.slice h0 ps.length r0,.slice h1 ps.length r1]] w fun e w'=>∃p0 p1 p2 m1 m2,e=.returned (.agg #[.slice (some ⟨p0,0,none⟩) ps.length ps.length,.slice (some ⟨p1,0,none⟩) ps.length ps.length,.slice (some ⟨p2,0,none⟩) ps.length ps.length])/\Old w w'/\w.heap.size<=m1/\m1<=m2/\m2<=w'.heap.size/\Ows (TS 135 5 ps.length (elR Nn false ps Rf (rwZ (scF (pzF (ctZ ps x0) (ctZ ps y0) Nn) T (Qae (pnN ps))) Nn ps))) w' w.heap.size m1 [.slice (some ⟨p0,0,none⟩) ps.length ps.length]/\Ows (TS 135 5 ps.length (elR Nn false ps Rf (rwZ (scF (fun k=>pzF (ctZ ps x0) (ctZ ps y1) Nn k+pzF (ctZ ps x1) (ctZ ps y0) Nn k) T (Qae (pnN ps))) Nn ps))) w' m1 m2 [.slice (some ⟨p1,0,none⟩) ps.length ps.length]/\Ows (TS 135 5 ps.length (elR Nn false ps Rf (rwZ (scF (pzF (ctZ ps x1) (ctZ ps y1) Nn) T (Qae (pnN ps))) Nn ps))) w' m2 w'.heap.size [.slice (some ⟨p2,0,none⟩) ps.length ps.length]:=by
 have hN1:1<=Nn/\Nn<=16:=by omega
 have KC0:Hid (∀W,Old w W->Calls Tryz.prog 58 #[.agg #[.int .i64 (Nn:Int),.int .i64 T,.int .i64 E,.slice a3 ps.length c3,.slice (some ⟨gr,0,none⟩) ps.length ps.length,.bool false,.slice a6 l6 c6],.slice g0 ps.length q0] W fun e w'=>∃v',e=.returned v'/\Old W w'/\Zr (ctZ ps x0) Nn w' v'):=fun W g=>
  (Qfr Nn T E ps Rf x0 a3 c3 (some ⟨gr,0,none⟩) ps.length ps.length a6 l6 c6 (.slice g0 ps.length q0) W (hv.old g) hf hN1 hps k0 (d0.old g)).mono fun e w' h=>by
   obtain ⟨v',e1,q,o⟩:=h;exact ⟨v',e1,q,o.zr (by omega) k0⟩
 have KC1:Hid (∀W,Old w W->Calls Tryz.prog 58 #[.agg #[.int .i64 (Nn:Int),.int .i64 T,.int .i64 E,.slice a3 ps.length c3,.slice (some ⟨gr,0,none⟩) ps.length ps.length,.bool false,.slice a6 l6 c6],.slice g1 ps.length q1] W fun e w'=>∃v',e=.returned v'/\Old W w'/\Zr (ctZ ps x1) Nn w' v'):=fun W g=>
  (Qfr Nn T E ps Rf x1 a3 c3 (some ⟨gr,0,none⟩) ps.length ps.length a6 l6 c6 (.slice g1 ps.length q1) W (hv.old g) hf hN1 hps k1 (d1.old g)).mono fun e w' h=>by
   obtain ⟨v',e1,q,o⟩:=h;exact ⟨v',e1,q,o.zr (by omega) k1⟩
 have KC2:Hid (∀W,Old w W->Calls Tryz.prog 58 #[.agg #[.int .i64 (Nn:Int),.int .i64 T,.int .i64 E,.slice a3 ps.length c3,.slice (some ⟨gr,0,none⟩) ps.length ps.length,.bool false,.slice a6 l6 c6],.slice h0 ps.length r0] W fun e w'=>∃v',e=.returned v'/\Old W w'/\Zr (ctZ ps y0) Nn w' v'):=fun W g=>
  (Qfr Nn T E ps Rf y0 a3 c3 (some ⟨gr,0,none⟩) ps.length ps.length a6 l6 c6 (.slice h0 ps.length r0) W (hv.old g) hf hN1 hps j0 (e0.old g)).mono fun e w' h=>by
   obtain ⟨v',e1,q,o⟩:=h;exact ⟨v',e1,q,o.zr (by omega) j0⟩
 have KC3:Hid (∀W,Old w W->Calls Tryz.prog 58 #[.agg #[.int .i64 (Nn:Int),.int .i64 T,.int .i64 E,.slice a3 ps.length c3,.slice (some ⟨gr,0,none⟩) ps.length ps.length,.bool false,.slice a6 l6 c6],.slice h1 ps.length r1] W fun e w'=>∃v',e=.returned v'/\Old W w'/\Zr (ctZ ps y1) Nn w' v'):=fun W g=>
  (Qfr Nn T E ps Rf y1 a3 c3 (some ⟨gr,0,none⟩) ps.length ps.length a6 l6 c6 (.slice h1 ps.length r1) W (hv.old g) hf hN1 hps j1 (e1.old g)).mono fun e w' h=>by
   obtain ⟨v',e1,q,o⟩:=h;exact ⟨v',e1,q,o.zr (by omega) j1⟩
 have KW00:Hid (∀W u v,Zr (ctZ ps x0) Nn W u->Zr (ctZ ps y0) Nn W v->Calls Tryz.prog 60 #[u,v] W fun e w'=>∃p,e=.returned (.slice (some ⟨p,0,none⟩) Nn Nn)/\Old W w'/\Zr (pzF (ctZ ps x0) (ctZ ps y0) Nn) Nn w' (.slice (some ⟨p,0,none⟩) Nn Nn)):=fun W u v h1 h2=>
  (Qcs _ _ Nn u v W hN1 (fun k hk=>Qa5 k0 k hk) (fun k hk=>Qa5 j0 k hk) h1 h2).mono fun e w' h=>by
   obtain ⟨p,e1,_,q,o⟩:=h;exact ⟨p,e1,q,o.zr⟩
 have KW01:Hid (∀W u v,Zr (ctZ ps x0) Nn W u->Zr (ctZ ps y1) Nn W v->Calls Tryz.prog 60 #[u,v] W fun e w'=>∃p,e=.returned (.slice (some ⟨p,0,none⟩) Nn Nn)/\Old W w'/\Zr (pzF (ctZ ps x0) (ctZ ps y1) Nn) Nn w' (.slice (some ⟨p,0,none⟩) Nn Nn)):=fun W u v h1 h2=>
  (Qcs _ _ Nn u v W hN1 (fun k hk=>Qa5 k0 k hk) (fun k hk=>Qa5 j1 k hk) h1 h2).mono fun e w' h=>by
   obtain ⟨p,e1,_,q,o⟩:=h;exact ⟨p,e1,q,o.zr⟩
 have KW10:Hid (∀W u v,Zr (ctZ ps x1) Nn W u->Zr (ctZ ps y0) Nn W v->Calls Tryz.prog 60 #[u,v] W fun e w'=>∃p,e=.returned (.slice (some ⟨p,0,none⟩) Nn Nn)/\Old W w'/\Zr (pzF (ctZ ps x1) (ctZ ps y0) Nn) Nn w' (.slice (some ⟨p,0,none⟩) Nn Nn)):=fun W u v h1 h2=>
  (Qcs _ _ Nn u v W hN1 (fun k hk=>Qa5 k1 k hk) (fun k hk=>Qa5 j0 k hk) h1 h2).mono fun e w' h=>by
   obtain ⟨p,e1,_,q,o⟩:=h;exact ⟨p,e1,q,o.zr⟩
 have KW11:Hid (∀W u v,Zr (ctZ ps x1) Nn W u->Zr (ctZ ps y1) Nn W v->Calls Tryz.prog 60 #[u,v] W fun e w'=>∃p,e=.returned (.slice (some ⟨p,0,none⟩) Nn Nn)/\Old W w'/\Zr (pzF (ctZ ps x1) (ctZ ps y1) Nn) Nn w' (.slice (some ⟨p,0,none⟩) Nn Nn)):=fun W u v h1 h2=>
  (Qcs _ _ Nn u v W hN1 (fun k hk=>Qa5 k1 k hk) (fun k hk=>Qa5 j1 k hk) h1 h2).mono fun e w' h=>by
   obtain ⟨p,e1,_,q,o⟩:=h;exact ⟨p,e1,q,o.zr⟩
 have KSM:Hid (∀W u v,Zr (pzF (ctZ ps x0) (ctZ ps y1) Nn) Nn W u->Zr (pzF (ctZ ps x1) (ctZ ps y0) Nn) Nn W v->Calls Tryz.prog 59 #[u,v] W fun e w'=>∃p,e=.returned (.slice (some ⟨p,0,none⟩) Nn Nn)/\Old W w'/\Zr (fun k=>pzF (ctZ ps x0) (ctZ ps y1) Nn k+pzF (ctZ ps x1) (ctZ ps y0) Nn k) Nn w' (.slice (some ⟨p,0,none⟩) Nn Nn)):=fun W u v h1 h2=>
  (Qnk _ _ Nn u v W hN1 (Qe0 hN.2 (fun k hk=>Qa5 k0 k hk) (fun k hk=>Qa5 j1 k hk) Nn) (Qe0 hN.2 (fun k hk=>Qa5 k1 k hk) (fun k hk=>Qa5 j0 k hk) Nn) h1 h2).mono fun e w' h=>by
   obtain ⟨p,e1,_,q,o⟩:=h;exact ⟨p,e1,q,o.zr⟩
 have KS0:Hid (∀W v,Old w W->Zr (pzF (ctZ ps x0) (ctZ ps y0) Nn) Nn W v->Calls Tryz.prog 61 #[.agg #[.int .i64 (Nn:Int),.int .i64 T,.int .i64 E,.slice a3 ps.length c3,.slice (some ⟨gr,0,none⟩) ps.length ps.length,.bool false,.slice a6 l6 c6],v] W fun e w'=>∃g,e=.returned (.slice (some ⟨g,0,none⟩) ps.length ps.length)/\Old W w'/\Ows (TS 135 5 ps.length (elR Nn false ps Rf (rwZ (scF (pzF (ctZ ps x0) (ctZ ps y0) Nn) T (Qae (pnN ps))) Nn ps))) w' W.heap.size w'.heap.size [.slice (some ⟨g,0,none⟩) ps.length ps.length]):=fun W v g hz=>
  Qej Nn T E (Qae (pnN ps)) ps Rf (pzF (ctZ ps x0) (ctZ ps y0) Nn) Nn gr a3 ps.length c3 a6 l6 c6 v W hz hN1 (fun k hk=>Nat.le_trans (Qe0 hN.2 (fun k hk=>Qa5 k0 k hk) (fun k hk=>Qa5 j0 k hk) Nn k hk) (by omega)) hqp (hq.old g) hql hT (hrg.old g) (by omega) hpb
 have KS1:Hid (∀W v,Old w W->Zr (fun k=>pzF (ctZ ps x0) (ctZ ps y1) Nn k+pzF (ctZ ps x1) (ctZ ps y0) Nn k) Nn W v->Calls Tryz.prog 61 #[.agg #[.int .i64 (Nn:Int),.int .i64 T,.int .i64 E,.slice a3 ps.length c3,.slice (some ⟨gr,0,none⟩) ps.length ps.length,.bool false,.slice a6 l6 c6],v] W fun e w'=>∃g,e=.returned (.slice (some ⟨g,0,none⟩) ps.length ps.length)/\Old W w'/\Ows (TS 135 5 ps.length (elR Nn false ps Rf (rwZ (scF (fun k=>pzF (ctZ ps x0) (ctZ ps y1) Nn k+pzF (ctZ ps x1) (ctZ ps y0) Nn k) T (Qae (pnN ps))) Nn ps))) w' W.heap.size w'.heap.size [.slice (some ⟨g,0,none⟩) ps.length ps.length]):=fun W v g hz=>
  Qej Nn T E (Qae (pnN ps)) ps Rf (fun k=>pzF (ctZ ps x0) (ctZ ps y1) Nn k+pzF (ctZ ps x1) (ctZ ps y0) Nn k) Nn gr a3 ps.length c3 a6 l6 c6 v W hz hN1 (fun k hk=>Qs5 (Qe0 hN.2 (fun k hk=>Qa5 k0 k hk) (fun k hk=>Qa5 j1 k hk) Nn k hk) (Qe0 hN.2 (fun k hk=>Qa5 k1 k hk) (fun k hk=>Qa5 j0 k hk) Nn k hk)) hqp (hq.old g) hql hT (hrg.old g) (by omega) hpb
 have KS2:Hid (∀W v,Old w W->Zr (pzF (ctZ ps x1) (ctZ ps y1) Nn) Nn W v->Calls Tryz.prog 61 #[.agg #[.int .i64 (Nn:Int),.int .i64 T,.int .i64 E,.slice a3 ps.length c3,.slice (some ⟨gr,0,none⟩) ps.length ps.length,.bool false,.slice a6 l6 c6],v] W fun e w'=>∃g,e=.returned (.slice (some ⟨g,0,none⟩) ps.length ps.length)/\Old W w'/\Ows (TS 135 5 ps.length (elR Nn false ps Rf (rwZ (scF (pzF (ctZ ps x1) (ctZ ps y1) Nn) T (Qae (pnN ps))) Nn ps))) w' W.heap.size w'.heap.size [.slice (some ⟨g,0,none⟩) ps.length ps.length]):=fun W v g hz=>
  Qej Nn T E (Qae (pnN ps)) ps Rf (pzF (ctZ ps x1) (ctZ ps y1) Nn) Nn gr a3 ps.length c3 a6 l6 c6 v W hz hN1 (fun k hk=>Nat.le_trans (Qe0 hN.2 (fun k hk=>Qa5 k1 k hk) (fun k hk=>Qa5 j1 k hk) Nn k hk) (by omega)) hqp (hq.old g) hql hT (hrg.old g) (by omega) hpb
 obtain ⟨m,hm⟩:∃m,ps.length=m:=⟨_,rfl⟩
 have gE:∀zss,GoodT (TS 135 5 ps.length (elR Nn false ps Rf zss)):=fun zss=>Qc6 _ _ _ (Qcq _ _ _ _ _)
 obtain ⟨E0,hE0⟩:∃E,(TS 135 5 ps.length (elR Nn false ps Rf (rwZ (scF (pzF (ctZ ps x0) (ctZ ps y0) Nn) T (Qae (pnN ps))) Nn ps)))=E:=⟨_,rfl⟩
 have GE0:Hid (GoodT E0):=by rw [<- hE0];exact gE _
 rw [hE0] at KS0 ⊢;clear hE0;obtain ⟨E1,hE1⟩:∃E,(TS 135 5 ps.length (elR Nn false ps Rf (rwZ (scF (fun k=>pzF (ctZ ps x0) (ctZ ps y1) Nn k+pzF (ctZ ps x1) (ctZ ps y0) Nn k) T (Qae (pnN ps))) Nn ps)))=E:=⟨_,rfl⟩
 have GE1:Hid (GoodT E1):=by rw [<- hE1];exact gE _
 rw [hE1] at KS1 ⊢;clear hE1;obtain ⟨E2,hE2⟩:∃E,(TS 135 5 ps.length (elR Nn false ps Rf (rwZ (scF (pzF (ctZ ps x1) (ctZ ps y1) Nn) T (Qae (pnN ps))) Nn ps)))=E:=⟨_,rfl⟩
 have GE2:Hid (GoodT E2):=by rw [<- hE2];exact gE _
 rw [hE2] at KS2 ⊢;clear hE2;rw [hm] at KC0 KC1 KC2 KC3 KS0 KS1 KS2 ⊢;generalize pzF (ctZ ps x0) (ctZ ps y0) Nn=P00 at *;generalize pzF (ctZ ps x1) (ctZ ps y1) Nn=P11 at *;generalize (fun k=>pzF (ctZ ps x0) (ctZ ps y1) Nn k+pzF (ctZ ps x1) (ctZ ps y0) Nn k)=PS at *;generalize pzF (ctZ ps x0) (ctZ ps y1) Nn=P01 at *;generalize pzF (ctZ ps x1) (ctZ ps y0) Nn=P10 at *;generalize ctZ ps x0=A0 at *;generalize ctZ ps x1=A1 at *;generalize ctZ ps y0=B0 at *;generalize ctZ ps y1=B1 at *;clear gE hv hf hN hN1 hps hpb hT hrg hq hqp hql k0 k1 j0 j1 d0 d1 e0 e1 hm;obtain ⟨B,hB⟩:∃B:World,(((w.alloc (.cells #[.int .i64 (Nn:Int),.int .i64 T,.int .i64 E,.slice a3 m c3,.slice (some ⟨gr,0,none⟩) m m,.bool false,.slice a6 l6 c6] 62)).alloc (.cells #[.slice g0 m q0,.slice g1 m q1] 67)).alloc (.cells #[.slice h0 m r0,.slice h1 m r1] 67)).alloc (.cells #[.slice none 0 0,.slice none 0 0,.slice none 0 0] 73)=B:=⟨_,rfl⟩
 have O:Hid (Old w B):=by rw [<- hB];exact ((((Old.refl w).alloc _).alloc _).alloc _).alloc _
 have X:Hid (Bk B w.heap.size #[.int .i64 (Nn:Int),.int .i64 T,.int .i64 E,.slice a3 m c3,.slice (some ⟨gr,0,none⟩) m m,.bool false,.slice a6 l6 c6] 62):=by rw [<- hB];exact (((Bk.new' w _ _ rfl).alloc _).alloc _).alloc _
 have XA:Hid (Bk B (w.heap.size+1) #[.slice g0 m q0,.slice g1 m q1] 67):=by rw [<- hB];exact ((Bk.new' _ _ _ (by simp)).alloc _).alloc _
 have XB:Hid (Bk B (w.heap.size+1+1) #[.slice h0 m r0,.slice h1 m r1] 67):=by rw [<- hB];exact (Bk.new' _ _ _ (by simp)).alloc _
 have R:Hid (Bk B (w.heap.size+1+1+1) #[.slice none 0 0,.slice none 0 0,.slice none 0 0] 73):=by rw [<- hB];exact Bk.new' _ _ _ (by simp)
 obtain ⟨kr,hkr⟩:∃k,w.heap.size=k:=⟨_,rfl⟩
 have HKR:=Qaa hkr;rw [hkr] at X XA XB R
 have HAS:Hid (∀W',Old B W'->W'.cell? ⟨kr,0,none⟩=some (.int .i64 (Nn:Int))/\W'.cell? ⟨kr,1,none⟩=some (.int .i64 T)/\W'.cell? ⟨kr,2,none⟩=some (.int .i64 E)/\W'.cell? ⟨kr,3,none⟩=some (.slice a3 m c3)/\W'.cell? ⟨kr,4,none⟩=some (.slice (some ⟨gr,0,none⟩) m m)/\W'.cell? ⟨kr,5,none⟩=some (.bool false)/\W'.cell? ⟨kr,6,none⟩=some (.slice a6 l6 c6)/\W'.cell? ⟨kr+1,0,none⟩=some (.slice g0 m q0)/\W'.cell? ⟨kr+1,1,none⟩=some (.slice g1 m q1)/\W'.cell? ⟨kr+1+1,0,none⟩=some (.slice h0 m r0)/\W'.cell? ⟨kr+1+1,1,none⟩=some (.slice h1 m r1)):=fun W' q=>by
  have b1:=X.out.old q;have b2:=XA.out.old q;have b3:=XB.out.old q;exact ⟨b1.c (i:=0) rfl,b1.c (i:=1) rfl,b1.c (i:=2) rfl,b1.c (i:=3) rfl,b1.c (i:=4) rfl,b1.c (i:=5) rfl,b1.c (i:=6) rfl,b2.c (i:=0) rfl,b2.c (i:=1) rfl,b3.c (i:=0) rfl,b3.c (i:=1) rfl⟩
 obtain ⟨v0,v1,v2,v3,v4,v5,v6,v7,v8,v9,v10⟩:=HAS.out _ (Old.refl B);clear X XA XB;go_enter Tryz.func29,Tryz.ntmps29;go_wp2_with fail
 go_region_held3 (fun W'=>W'.cell? ⟨kr,0,none⟩=some (.int .i64 (Nn:Int))/\W'.cell? ⟨kr,1,none⟩=some (.int .i64 T)/\W'.cell? ⟨kr,2,none⟩=some (.int .i64 E)/\W'.cell? ⟨kr,3,none⟩=some (.slice a3 m c3)/\W'.cell? ⟨kr,4,none⟩=some (.slice (some ⟨gr,0,none⟩) m m)/\W'.cell? ⟨kr,5,none⟩=some (.bool false)/\W'.cell? ⟨kr,6,none⟩=some (.slice a6 l6 c6)/\W'.cell? ⟨kr+1,0,none⟩=some (.slice g0 m q0)/\W'.cell? ⟨kr+1,1,none⟩=some (.slice g1 m q1)/\W'.cell? ⟨kr+1+1,0,none⟩=some (.slice h0 m r0)/\W'.cell? ⟨kr+1+1,1,none⟩=some (.slice h1 m r1)) (first | with_reducible exact HAS.out _ GB.out | with_reducible exact HAS.out _ GA.out | with_reducible exact HAS.out _ (Below.drew (Old.refl B)) | with_reducible exact HAS.out _ (Old.refl B) | fail) (first
  | (go_at_call 58;refine (KC1.out _ (Old.trans O.out GA.out)).mono ?_;rintro e wb ⟨vb,rfl,gb,zb⟩;obtain ⟨_,_,_,rfl,_⟩:=zb.slice;have GB:=Qaa (Old.trans GA.out gb);have ZB:=Qaa zb;have QB:=Qaa gb;clear gb zb)
  | (go_at_call 58;refine (KC0.out _ (Old.trans O.out (Below.drew (Old.refl B)))).mono ?_;rintro e wa ⟨va,rfl,ga,za⟩;obtain ⟨_,_,_,rfl,_⟩:=za.slice;have GA:=Qaa (Old.trans (Below.drew (Old.refl B)) ga);have ZA:=Qaa za;clear ga za)
  | fail)
 have ZA2:=Qaa (ZA.out.old QB.out);clear v0 v1 v2 v3 v4 v5 v6 v7 v8 v9 v10 ZA QB GA;obtain ⟨v0,v1,v2,v3,v4,v5,v6,v7,v8,v9,v10⟩:=HAS.out _ GB.out;have HAS2:Hid (∀W',Old wb W'->W'.cell? ⟨kr,0,none⟩=some (.int .i64 (Nn:Int))/\W'.cell? ⟨kr,1,none⟩=some (.int .i64 T)/\W'.cell? ⟨kr,2,none⟩=some (.int .i64 E)/\W'.cell? ⟨kr,3,none⟩=some (.slice a3 m c3)/\W'.cell? ⟨kr,4,none⟩=some (.slice (some ⟨gr,0,none⟩) m m)/\W'.cell? ⟨kr,5,none⟩=some (.bool false)/\W'.cell? ⟨kr,6,none⟩=some (.slice a6 l6 c6)/\W'.cell? ⟨kr+1,0,none⟩=some (.slice g0 m q0)/\W'.cell? ⟨kr+1,1,none⟩=some (.slice g1 m q1)/\W'.cell? ⟨kr+1+1,0,none⟩=some (.slice h0 m r0)/\W'.cell? ⟨kr+1+1,1,none⟩=some (.slice h1 m r1)):=fun W' q=>HAS.out W' (Old.trans GB.out q)
 clear HAS;go_wp2_with fail
 go_region_held3 (fun W'=>W'.cell? ⟨kr,0,none⟩=some (.int .i64 (Nn:Int))/\W'.cell? ⟨kr,1,none⟩=some (.int .i64 T)/\W'.cell? ⟨kr,2,none⟩=some (.int .i64 E)/\W'.cell? ⟨kr,3,none⟩=some (.slice a3 m c3)/\W'.cell? ⟨kr,4,none⟩=some (.slice (some ⟨gr,0,none⟩) m m)/\W'.cell? ⟨kr,5,none⟩=some (.bool false)/\W'.cell? ⟨kr,6,none⟩=some (.slice a6 l6 c6)/\W'.cell? ⟨kr+1,0,none⟩=some (.slice g0 m q0)/\W'.cell? ⟨kr+1,1,none⟩=some (.slice g1 m q1)/\W'.cell? ⟨kr+1+1,0,none⟩=some (.slice h0 m r0)/\W'.cell? ⟨kr+1+1,1,none⟩=some (.slice h1 m r1)) (first | with_reducible exact HAS2.out _ GD.out | with_reducible exact HAS2.out _ GC.out | with_reducible exact HAS2.out _ (Below.drew (Old.refl wb)) | with_reducible exact HAS2.out _ (Old.refl wb) | fail) (first
  | (go_at_call 58;refine (KC3.out _ (Old.trans O.out (Old.trans GB.out GC.out))).mono ?_;rintro e wd ⟨vd,rfl,gd,zd⟩;obtain ⟨_,_,_,rfl,_⟩:=zd.slice;have GD:=Qaa (Old.trans GC.out gd);have ZD:=Qaa zd;have QD:=Qaa gd;clear gd zd)
  | (go_at_call 58;refine (KC2.out _ (Old.trans O.out (Old.trans GB.out (Below.drew (Old.refl wb))))).mono ?_;rintro e wc ⟨vc,rfl,gc,zc⟩;obtain ⟨_,_,_,rfl,_⟩:=zc.slice;have GC:=Qaa (Old.trans (Below.drew (Old.refl wb)) gc);have ZC:=Qaa zc;clear gc zc)
  | fail)
 have ZA4:=Qaa (ZA2.out.old GD.out);have ZB4:=Qaa (ZB.out.old GD.out);have ZC4:=Qaa (ZC.out.old QD.out);have HAS4:Hid (∀W',Old wd W'->W'.cell? ⟨kr,0,none⟩=some (.int .i64 (Nn:Int))/\W'.cell? ⟨kr,1,none⟩=some (.int .i64 T)/\W'.cell? ⟨kr,2,none⟩=some (.int .i64 E)/\W'.cell? ⟨kr,3,none⟩=some (.slice a3 m c3)/\W'.cell? ⟨kr,4,none⟩=some (.slice (some ⟨gr,0,none⟩) m m)/\W'.cell? ⟨kr,5,none⟩=some (.bool false)/\W'.cell? ⟨kr,6,none⟩=some (.slice a6 l6 c6)/\W'.cell? ⟨kr+1,0,none⟩=some (.slice g0 m q0)/\W'.cell? ⟨kr+1,1,none⟩=some (.slice g1 m q1)/\W'.cell? ⟨kr+1+1,0,none⟩=some (.slice h0 m r0)/\W'.cell? ⟨kr+1+1,1,none⟩=some (.slice h1 m r1)):=fun W' q=>HAS2.out W' (Old.trans GD.out q)
 have OD:=Qaa (Old.trans O.out (Old.trans GB.out GD.out));have RD:=Qaa (R.out.old (Old.trans GB.out GD.out));clear v0 v1 v2 v3 v4 v5 v6 v7 v8 v9 v10 ZA2 ZB ZC QD GC GD GB HAS2 R O;go_wp2_with fail;refine (KW01.out _ _ _ ZA4.out ZD.out).mono ?_
 rintro e w5 ⟨p5,rfl,q5,z5⟩;have G5:=Qaa q5;have Z5:=Qaa z5;clear q5 z5;go_wp2_with fail;refine (KW10.out _ _ _ (ZB4.out.old G5.out) (ZC4.out.old G5.out)).mono ?_
 rintro e w6 ⟨p6,rfl,q6,z6⟩;have G6:=Qaa (Old.trans G5.out q6);have Z56:=Qaa (Z5.out.old q6);have Z6:=Qaa z6;clear q6 z6 G5 Z5;go_wp2_with fail;refine (KSM.out _ _ _ Z56.out Z6.out).mono ?_
 rintro e w7 ⟨p7,rfl,q7,z7⟩;have G7:=Qaa (Old.trans G6.out q7);have Z7:=Qaa z7;clear q7 z7 G6 Z56 Z6 KW01 KW10 KSM KC0 KC1 KC2 KC3;have ZA7:=Qaa (ZA4.out.old G7.out);have ZB7:=Qaa (ZB4.out.old G7.out);have ZC7:=Qaa (ZC4.out.old G7.out);have ZD7:=Qaa (ZD.out.old G7.out);have O7:=Qaa (Old.trans OD.out G7.out);have R7:=Qaa (RD.out.old G7.out)
 have HA7:Hid (∀W',Old w7 W'->W'.cell? ⟨kr,0,none⟩=some (.int .i64 (Nn:Int))/\W'.cell? ⟨kr,1,none⟩=some (.int .i64 T)/\W'.cell? ⟨kr,2,none⟩=some (.int .i64 E)/\W'.cell? ⟨kr,3,none⟩=some (.slice a3 m c3)/\W'.cell? ⟨kr,4,none⟩=some (.slice (some ⟨gr,0,none⟩) m m)/\W'.cell? ⟨kr,5,none⟩=some (.bool false)/\W'.cell? ⟨kr,6,none⟩=some (.slice a6 l6 c6)):=fun W' q=>by
  obtain ⟨v0,v1,v2,v3,v4,v5,v6,_⟩:=HAS4.out W' (Old.trans G7.out q);exact ⟨v0,v1,v2,v3,v4,v5,v6⟩
 have HAX:Hid (∀W',Old w7 W'->∀x y z,(((W'.setCell ⟨kr+1+1+1,0,none⟩ x).setCell ⟨kr+1+1+1,1,none⟩ y).setCell ⟨kr+1+1+1,2,none⟩ z).cell? ⟨kr,0,none⟩=some (.int .i64 (Nn:Int))/\(((W'.setCell ⟨kr+1+1+1,0,none⟩ x).setCell ⟨kr+1+1+1,1,none⟩ y).setCell ⟨kr+1+1+1,2,none⟩ z).cell? ⟨kr,1,none⟩=some (.int .i64 T)/\(((W'.setCell ⟨kr+1+1+1,0,none⟩ x).setCell ⟨kr+1+1+1,1,none⟩ y).setCell ⟨kr+1+1+1,2,none⟩ z).cell? ⟨kr,2,none⟩=some (.int .i64 E)/\(((W'.setCell ⟨kr+1+1+1,0,none⟩ x).setCell ⟨kr+1+1+1,1,none⟩ y).setCell ⟨kr+1+1+1,2,none⟩ z).cell? ⟨kr,3,none⟩=some (.slice a3 m c3)/\(((W'.setCell ⟨kr+1+1+1,0,none⟩ x).setCell ⟨kr+1+1+1,1,none⟩ y).setCell ⟨kr+1+1+1,2,none⟩ z).cell? ⟨kr,4,none⟩=some (.slice (some ⟨gr,0,none⟩) m m)/\(((W'.setCell ⟨kr+1+1+1,0,none⟩ x).setCell ⟨kr+1+1+1,1,none⟩ y).setCell ⟨kr+1+1+1,2,none⟩ z).cell? ⟨kr,5,none⟩=some (.bool false)/\(((W'.setCell ⟨kr+1+1+1,0,none⟩ x).setCell ⟨kr+1+1+1,1,none⟩ y).setCell ⟨kr+1+1+1,2,none⟩ z).cell? ⟨kr,6,none⟩=some (.slice a6 l6 c6)):=fun W' q x y z=>by
  obtain ⟨v0,v1,v2,v3,v4,v5,v6⟩:=HA7.out W' q;refine ⟨?_,?_,?_,?_,?_,?_,?_⟩
  all_goals
   refine (World.cell?_setCell_other _ _ _ _ (by simp)).trans ((World.cell?_setCell_other _ _ _ _ (by simp)).trans ((World.cell?_setCell_other _ _ _ _ (by simp)).trans ?_))
   assumption
 obtain ⟨v0,v1,v2,v3,v4,v5,v6⟩:=HA7.out _ (Old.refl w7);have y0:=R7.out.c (i:=0) rfl;clear ZA4 ZB4 ZC4 ZD G7 OD RD HAS4 hkr;go_wp2_with fail
 go_region_held3 (fun W'=>W'.cell? ⟨kr,0,none⟩=some (.int .i64 (Nn:Int))/\W'.cell? ⟨kr,1,none⟩=some (.int .i64 T)/\W'.cell? ⟨kr,2,none⟩=some (.int .i64 E)/\W'.cell? ⟨kr,3,none⟩=some (.slice a3 m c3)/\W'.cell? ⟨kr,4,none⟩=some (.slice (some ⟨gr,0,none⟩) m m)/\W'.cell? ⟨kr,5,none⟩=some (.bool false)/\W'.cell? ⟨kr,6,none⟩=some (.slice a6 l6 c6)) (first | with_reducible exact HAX.out _ GT.out _ _ _ | with_reducible exact HA7.out _ GT.out | with_reducible exact HA7.out _ GS.out | with_reducible exact HA7.out _ GR.out | with_reducible exact HA7.out _ GQ.out | with_reducible exact HA7.out _ GP.out | with_reducible exact HA7.out _ (Below.drew (Old.refl w7)) | with_reducible exact HA7.out _ (Old.refl w7) | fail) (first
  | (go_at_call 61;refine (KS2.out _ _ (Old.trans O7.out GS.out) ZS.out).mono ?_;rintro e wt ⟨gt,rfl,qt,ot⟩;have GT:=Qaa (Old.trans GS.out qt);have QT:=Qaa qt;have OT:=Qaa ot;have RT:=Qaa (R7.out.old GT.out);have y0:=RT.out.c (i:=0) rfl;have y1:=RT.out.c (i:=1) rfl;have y2:=RT.out.c (i:=2) rfl;have f0:wt.frozen? ⟨kr+1+1+1,0,none⟩=false:=frozen_of_row _ _ _ _ _ RT.out;have f1:wt.frozen? ⟨kr+1+1+1,1,none⟩=false:=frozen_of_row _ _ _ _ _ RT.out;have f2:wt.frozen? ⟨kr+1+1+1,2,none⟩=false:=frozen_of_row _ _ _ _ _ RT.out;clear qt ot)
  | (go_at_call 60;refine (KW11.out _ _ _ (ZB7.out.old GR.out) (ZD7.out.old GR.out)).mono ?_;rintro e ws ⟨ps',rfl,qs,zs⟩;have GS:=Qaa (Old.trans GR.out qs);have QS:=Qaa qs;have ZS:=Qaa zs;clear qs zs)
  | (go_at_call 61;refine (KS1.out _ _ (Old.trans O7.out GQ.out) (Z7.out.old GQ.out)).mono ?_;rintro e wx ⟨gx,rfl,qx,ox⟩;have GR:=Qaa (Old.trans GQ.out qx);have QR:=Qaa qx;have OR:=Qaa ox;clear qx ox)
  | (go_at_call 61;refine (KS0.out _ _ (Old.trans O7.out GP.out) ZP.out).mono ?_;rintro e wq ⟨gq,rfl,qq,oq⟩;have GQ:=Qaa (Old.trans GP.out qq);have OQ:=Qaa oq;have QQ:=Qaa qq;clear qq oq)
  | (go_at_call 60;refine (KW00.out _ _ _ (ZA7.out.old (Below.drew (Old.refl w7))) (ZC7.out.old (Below.drew (Old.refl w7)))).mono ?_;rintro e wp ⟨pp,rfl,qp,zp⟩;have GP:=Qaa (Old.trans (Below.drew (Old.refl w7)) qp);have ZP:=Qaa zp;clear qp zp)
  | fail)
 have HR7:Hid (kr+1+1+1<w7.heap.size):=R7.out.lt;have OQ9:=Qaa (Ows.old GE0.out OQ.out (Old.trans QR.out (Old.trans QS.out QT.out)));have HP:=Qaa (⟨GP.out.size,O7.out.size⟩:w7.heap.size<=wp.heap.size/\w.heap.size<=w7.heap.size);have OR9:=Qaa (Ows.old GE1.out OR.out (Old.trans QS.out QT.out));have OT9:=Qaa (OT.out.low (lo':=wx.heap.size) QS.out.size (Nat.le_refl _) (Nat.le_refl _));have O9:=Qaa (Old.trans O7.out GT.out);have HS:Hid (w.heap.size<=wq.heap.size/\wq.heap.size<=wx.heap.size/\wx.heap.size<=wt.heap.size/\w7.heap.size<=wq.heap.size):=⟨Nat.le_trans O7.out.size GQ.out.size,QR.out.size,Nat.le_trans QS.out.size QT.out.size,GQ.out.size⟩;clear v0 v1 v2 v3 v4 v5 v6 HA7 HAX KS0 KS1 KS2 KW00 KW11 OQ OR OT QQ QR QS QT GP GQ GR GS GT ZP ZS ZA7 ZB7 ZC7 ZD7 Z7 O7 R7 hB;go_wp2_with fail;have qq:=Qu5 RT.out (.slice (some ⟨gq,0,none⟩) m m) (.slice (some ⟨gx,0,none⟩) m m) (.slice (some ⟨gt,0,none⟩) m m);have z0:=qq.c (i:=0) rfl;have z1:=qq.c (i:=1) rfl;have z2:=qq.c (i:=2) rfl;refine bodyPost_ret (v:=.agg #[.slice (some ⟨gq,0,none⟩) m m,.slice (some ⟨gx,0,none⟩) m m,.slice (some ⟨gt,0,none⟩) m m]) (by simp [results,Tryz.results29,go_sem,z0,z1,z2]) rfl ?_
 obtain ⟨s1,s2,s3,s4⟩:=HS.out;have hkr:=HKR.out;have hr7:=HR7.out;have low:∀(E:Qbf),Hid (GoodT E)->∀lo hi cs,w7.heap.size<=lo->Hid (Ows E wt lo hi cs)->Ows E (((wt.setCell ⟨kr+1+1+1,0,none⟩ (.slice (some ⟨gq,0,none⟩) m m)).setCell ⟨kr+1+1+1,1,none⟩ (.slice (some ⟨gx,0,none⟩) m m)).setCell ⟨kr+1+1+1,2,none⟩ (.slice (some ⟨gt,0,none⟩) m m)) lo hi cs:=fun E g lo hi cs hl h=>((h.out.putE g.out (.inl (by omega))).putE g.out (.inl (by omega))).putE g.out (.inl (by omega))
 refine ⟨gq,gx,gt,wq.heap.size,wx.heap.size,rfl,((O9.out.own (p:=⟨kr+1+1+1,0,none⟩) (by show w.heap.size<=kr+1+1+1;omega) _).own (p:=⟨kr+1+1+1,1,none⟩) (by show w.heap.size<=kr+1+1+1;omega) _).own (p:=⟨kr+1+1+1,2,none⟩) (by show w.heap.size<=kr+1+1+1;omega) _,s1,s2,by simp only [World.size_setCell];exact s3,?_,?_,?_⟩
 ·exact (low _ GE0 _ _ _ HP.out.1 OQ9).low (Nat.le_trans HP.out.2 HP.out.1) (Nat.le_refl _) (by simp only [World.size_setCell];omega)
 ·exact low _ GE1 _ _ _ s4 OR9
 ·rw [World.size_setCell,World.size_setCell,World.size_setCell];exact low _ GE2 _ _ _ (by omega) OT9
end Go.Proofs.YtjjohooeehjjcaaGreatDoor
