/- Proved: what its theorems say. -/
import Derived.Test.YthcidnnkakppcaaGreatDoorDe37
import Derived.Test.YthcidnnkakppcaaGreatDoorDe42
set_option linter.unusedVariables false
set_option linter.unusedSimpArgs false
set_option maxHeartbeats 8000000
set_option maxRecDepth 100000
namespace Go.Proofs.YthcidnnkakppcaaGreatDoor
open Go.ChangeShapes Go.WideShapes Go.ChangeAt Go.RowKit
open M2
def Qlf (zss:List (List Int)) (k:Nat):List Int:=zss.map (fun r=>r.getD k 0)
theorem Qf2 (zss:List (List Int)) (k:Nat):(Qlf zss k).length=zss.length:=by simp [Qlf]
theorem Qhc (zss:List (List Int)) (k j:Nat) (h:j<zss.length):(Qlf zss k).getD j 0=(zss.getD j []).getD k 0:=by simp [Qlf,List.getD,h]
def cqN (zss:List (List Int)) (k:Nat):List Nat:=(Qlf zss k).map Int.toNat
def pnN (ps:List Int):List Nat:=ps.map Int.toNat
def ctB (ps:List Int) (zss:List (List Int)) (k:Nat):Bool:=decide (Qaf (pnN ps)<=coN (cqN zss k) (pnN ps)*2)
def ctN (ps:List Int) (zss:List (List Int)) (k:Nat):Nat:=if coN (cqN zss k) (pnN ps)*2<Qaf (pnN ps) then coN (cqN zss k) (pnN ps) else Qaf (pnN ps) - coN (cqN zss k) (pnN ps)
def whB (n:Nat) (ps:List Int) (zss:List (List Int)):List Bool:=(List.range n).map (ctB ps zss)
def whX (n:Nat) (ps:List Int) (zss:List (List Int)):List (List Int):=(List.range n).map (fun k=>toI (dig (ctN ps zss k)))
theorem Q1o (n:Nat) (ps:List Int) (zss:List (List Int)):(whB n ps zss).length=n:=by simp [whB]
theorem Qlg (n:Nat) (ps:List Int) (zss:List (List Int)):(whX n ps zss).length=n:=by simp [whX]
theorem Qlh (n:Nat) (ps:List Int) (zss:List (List Int)) (k:Nat) (h:k<n):(whB n ps zss).getD k false=ctB ps zss k:=by simp [whB,List.getD,h]
theorem Qli (n:Nat) (ps:List Int) (zss:List (List Int)) (k:Nat) (h:k<n):(whX n ps zss).getD k []=toI (dig (ctN ps zss k)):=by simp [whX,List.getD,h]
structure Gr (n:Nat) (ps:List Int) (zss:List (List Int)):Prop where
 bas:Qgq ps=true
 len:zss.length=ps.length
 row:∀j,j<ps.length->(zss.getD j []).length=n/\∀i,i<n->0<=(zss.getD j []).getD i 0/\(zss.getD j []).getD i 0<ps.getD j 0
theorem Qvc {xs:List Int} (h:∀i,i<xs.length->0<=xs.getD i 0):toZ (xs.map Int.toNat)=xs:=by
 rw [toZ,List.map_map];refine (List.map_congr_left fun x hx=>?_).trans (List.map_id _);obtain ⟨i,hi,rfl⟩:=List.getElem_of_mem hx;have:=h i hi;rw [show xs.getD i 0=xs[i] by simp [List.getD,hi]] at this
 show ((xs[i].toNat:Nat):Int)=xs[i]
 omega
theorem Gr.ps {n:Nat} {ps:List Int} {zss:List (List Int)} (h:Gr n ps zss):ps=toZ (pnN ps)/\Bas (pnN ps):=by
 obtain ⟨qs,e,hb⟩:=Qkk h.bas;have:pnN ps=qs:=by unfold pnN;rw [e];exact Qk2 qs
 rw [this];exact ⟨e,hb⟩
theorem Gr.col {n:Nat} {ps:List Int} {zss:List (List Int)} (h:Gr n ps zss) (k:Nat) (hk:k<n):Qlf zss k=toZ (cqN zss k)/\Res (cqN zss k) (pnN ps):=by
 have e1:Qlf zss k=toZ (cqN zss k):=by
  unfold cqN;rw [Qvc];intro i hi;rw [Qf2] at hi;rw [Qhc zss k i hi];exact ((h.row i (by have:=h.len;omega)).2 k hk).1
 refine ⟨e1,h.ps.2,?_,fun i hi=>?_⟩
 ·unfold cqN pnN;rw [List.length_map,Qf2,h.len,List.length_map]
 ·have hi':i<ps.length:=by simpa [pnN] using hi
  have hz:i<zss.length:=by have:=h.len;omega
  have h1:=(h.row i hi').2 k hk
  have e2:(cqN zss k).getD i 0=((zss.getD i []).getD k 0).toNat:=by
   rw [<- Qhc zss k i hz];unfold cqN;have:i<(Qlf zss k).length:=by rw [Qf2];exact hz
   simp [List.getD,this]
  have e3:(pnN ps).getD i 0=(ps.getD i 0).toNat:=by simp [pnN,List.getD,hi']
  rw [e2,e3];omega
theorem Q1p {n:Nat} {ps:List Int} {zss:List (List Int)} (h:Gr n ps zss) (k:Nat) (hk:k<n):(dig (ctN ps zss k)).length<=7:=by
 obtain ⟨_,hR⟩:=h.col k hk;unfold ctN;split
 ·exact Qc8 hR
 ·exact Nat.le_trans (cnt_mono (Nat.sub_le _ _)) hR.bas.cnt
theorem Qvd {n:Nat} {ps:List Int} {zss:List (List Int)} (h:Gr n ps zss) (k:Nat) (hk:k<n) (v u:Value) (W:World) (hv:Row W v (Qlf zss k)) (hu:Row W u ps) (hf:Fit u) :
  Calls Tryz.prog 100 #[v,u] W fun e w'=>∃v',e=.returned (.agg #[.bool (ctB ps zss k),v'])/\Old W w'/\Own w' W.heap.size v' (toI (dig (ctN ps zss k))):=by
 obtain ⟨e1,hR⟩:=h.col k hk;obtain ⟨e2,hb⟩:=h.ps;rw [e1] at hv;rw [e2] at hu;unfold ctB ctN
 by_cases hc:coN (cqN zss k) (pnN ps)*2<Qaf (pnN ps)
 ·rw [if_pos hc,decide_eq_false (by omega)];exact Qo5 (cqN zss k) (pnN ps) v u W hv hu hf hR hc
 ·rw [if_neg hc,decide_eq_true (by omega)];exact Qnj (cqN zss k) (pnN ps) v u W hv hu hf hR hc
theorem Qnm (zss:List (List Int)) (v:Value) (q:Nat) (w:World) (hv:Qdq w v zss) (h0:1≤zss.length∧zss.length≤1000) (hq:∀j,j<zss.length→q<(zss.getD j []).length∧(zss.getD j []).length≤1000) :
  Calls Tryz.prog 101 #[v,.int .i64 q] w fun e w'=>e=.returned (.slice (some ⟨w.heap.size,0,none⟩) zss.length zss.length)/\Old w w'/\Own w' w.heap.size (.slice (some ⟨w.heap.size,0,none⟩) zss.length zss.length) (Qlf zss q):=by
 obtain ⟨i0,hi,hz0,hz1,hz2⟩:=info_parts Tryz.infoInt;obtain ⟨a0,cap0,ev⟩:=hv.slice;subst ev;rcases hv with ⟨a,cap,e,e2⟩ | ⟨b,o,cap,us,e,hb2,h3,hc⟩
 ·subst e2;simp at h0
 simp only [Value.slice.injEq,true_and] at e;obtain ⟨rfl,rfl⟩:=e;have HC:=Qaa hc;have HQ:=Qaa hq;have HZ:=Qaa (fun j hj=>Qhc zss q j hj);have hlen:=Qf2 zss q;generalize Qlf zss q=zs at *;clear hc hq;go_enter Tryz.func101,Tryz.ntmps101;go_wp2_with (at_make;refine wpList_make_full _ rfl _ _ 22 rfl w.heap.size 3 i0 (.int .i64 0) 1 Tryz.underlying22 hi hz0 hz1 .i64 .i64 _ _ zss.length rfl rfl rfl rfl (by rw [hz2];omega) (by unfold maxLen;omega) (Nat.le_refl _) ?_;intro w3 hown hgrow)
 have HO:Hid (Qbc w3 w.heap.size w.heap.size zss.length (List.replicate zss.length 0)):=by
  rw [Qbj] at hown;exact hown
 have HG3:=Qaa (Old.by_ (Old.refl _) hgrow (fun b hb=>by cases hb));clear hown hgrow
 go_loopw [13,6,7] (fun i _ _ W=>∃k:Nat,k<=zss.length/\i=.int .i64 k/\Hid (Qbc W w.heap.size w.heap.size zss.length (Qbr zs k))/\Hid (Old w W)) (fun i _ _ _=>zss.length - (intOf i).toNat)
 case atStart=>exact ⟨0,by omega,rfl,(by show Qbc _ _ _ _ _;rw [Qch,hlen];exact HO.out),HG3⟩
 case round=>
  obtain ⟨k,hk,rfl,HO1,HG4⟩:=hrel;clear HO HG3
  by_cases hlt:k<zss.length
  ·obtain ⟨c0,r0⟩:=HC.out k hlt;obtain ⟨l1,l2⟩:=HQ.out k hlt;have hzk:=HZ.out k hlt;rcases r0 with ⟨x,y,e,e'⟩ | ⟨b3,o3,cap3,e,hb3,h03,hc3⟩
   ·rw [e'] at l1;simp at l1
   have q1:=((HG4.out.cell (p:=⟨b,o+k,none⟩) hb2).trans c0).trans (by rw [e]);have q2:=(HG4.out.cell (p:=⟨b3,o3+q,none⟩) hb3).trans (hc3 q l1)
   have HPU:Hid (Qbc (wr.setCell ⟨w.heap.size,k,none⟩ (.int .i64 ((zss.getD k []).getD q 0))) w.heap.size w.heap.size zss.length (Qbr zs (k+1))):=by
    have:=HO1.out.put k (zs.getD k 0);rw [Qc4 zs k (by omega),hzk] at this;exact this
   have i1:(k:Int)<(zss.length:Int):=by omega
   have i2:(q:Int)<((zss.getD k []).length:Int):=by omega
   have c3:=HO1.out.get (Qbd zs k (by omega) |>.trans hlen) k hlt;have c4:=HO1.out.free k;generalize (Qbr zs k).getD k 0=oldv at *;have HG6:Hid (Old w (wr.setCell ⟨w.heap.size,k,none⟩ (.int .i64 ((zss.getD k []).getD q 0)))):=HG4.out.own (p:=⟨w.heap.size,k,none⟩) (Nat.le_refl _) _;clear c0 e hc3 hzk HO1 l1;generalize (zss.getD k []).getD q 0=y at *;generalize (zss.getD k []).length=n at *;go_wp2_with fail;exact ⟨⟨k+1,by omega,by go_num,HPU,HG6⟩,by simp [intOf];omega⟩
  ·have d1:decide ((k:Int)<(zss.length:Int))=false:=by simp;omega
   obtain rfl:k=zss.length:=by omega
   have HF:Hid (Own wr w.heap.size (.slice (some ⟨w.heap.size,0,none⟩) zss.length zss.length) zs):=by
    have:=HO1.out.own ((Qbd zs zss.length (by omega)).trans hlen);rw [show Qbr zs zss.length=zs by rw [<- hlen];exact Qc3 zs] at this;exact this
   go_wp2_with fail;go_ret;exact ⟨rfl,HG4.out,HF.out⟩
theorem Qgk (Nn:Nat) (ps:List Int) (zss:List (List Int)) (v u:Value) (w:World) (hu:Row w u ps) (hf:Fit u) (hv:Qdq w v zss) (hN:1≤Nn∧Nn≤16) (hps:1≤ps.length∧ps.length≤6) (hG:Gr Nn ps zss) :
  Calls Tryz.prog 65 #[v,u] w fun e w'=>∃v',e=.returned v'/\Old w w'/\Ows (TS 65 2 Nn (elW (whB Nn ps zss) (whX Nn ps zss))) w' w.heap.size w'.heap.size [v']:=by
 obtain ⟨i0,hi,hz0,hz1,hz2⟩:=info_parts Tryz.infoWhole;obtain ⟨a0,c0,rfl⟩:=hu.slice;have hzl:=hG.len
 have HCO:Hid (∀k,k<Nn->∀W v',Qdq W v' zss->Calls Tryz.prog 101 #[v',.int .i64 k] W fun e w'=>e=.returned (.slice (some ⟨W.heap.size,0,none⟩) ps.length ps.length)/\Old W w'/\Row w' (.slice (some ⟨W.heap.size,0,none⟩) ps.length ps.length) (Qlf zss k)):=fun k hk W v' hr=>by
  have h1:=Qnm zss v' k W hr (by omega) (fun j hj=>by have:=(hG.row j (by omega)).1;omega);rw [hzl] at h1;exact h1.mono fun e w' h=>⟨h.1,h.2.1,Own.row h.2.2⟩
 have HCE:Hid (∀k,k<Nn->∀W v',Old w W->Row W v' (Qlf zss k)->Calls Tryz.prog 100 #[v',.slice a0 ps.length c0] W fun e w'=>∃v',e=.returned (.agg #[.bool ((whB Nn ps zss).getD k false),v'])/\Old W w'/\Own w' W.heap.size v' ((whX Nn ps zss).getD k [])):=fun k hk W v' g hr=>by
  rw [Qlh Nn ps zss k hk,Qli Nn ps zss k hk];exact Qvd hG k hk v' _ W hr (hu.old g) hf
 have HEL:Hid (∀k,elW (whB Nn ps zss) (whX Nn ps zss) k=TB ((whB Nn ps zss).getD k false) (TI ((whX Nn ps zss).getD k []))):=fun k=>rfl
 have HGD:Hid (∀j,GoodT (elW (whB Nn ps zss) (whX Nn ps zss) j)):=Qp9 _ _;have RV:=Qaa hv
 obtain ⟨b,o,cap,ev,x0,u0,n0,cc0,eu⟩:∃b o cap,v=.slice (some ⟨b,o,none⟩) ps.length cap/\∃x0 u0 n0 cc0,w.cell? ⟨b,o,none⟩=some (.slice u0 Nn cc0)/\x0=n0/\n0=cc0:=by
  rcases hv with ⟨a,cap,e,e2⟩ | ⟨b,o,cap,us,e,hb2,h3,hc⟩
  ·rw [e2] at hzl;simp at hzl;omega
  ·obtain ⟨h5,h6⟩:=hc 0 h3;obtain ⟨ua,uc,ue⟩:=h6.slice;have h7:=(hG.row 0 (by omega)).1;rw [ue,h7] at h5;exact ⟨b,o,cap,by rw [e,hzl],uc,ua,uc,uc,by simpa using h5,rfl,rfl⟩
 obtain ⟨q0,rfl,rfl⟩:=eu;subst ev;generalize elW (whB Nn ps zss) (whX Nn ps zss)=Es at *;generalize whB Nn ps zss=bs at *;generalize whX Nn ps zss=yss at *;have p1:0<ps.length:=by omega
 clear hv hf hG hzl hu;go_enter Tryz.func65,Tryz.ntmps65;go_wp2_with (at_make;refine wpList_make_full _ rfl _ _ 74 rfl 0 65 i0 (.agg #[.bool false,.slice none 0 0]) 2 Tryz.underlying74 hi hz0 hz1 .i64 .i64 _ _ Nn rfl rfl rfl rfl (by rw [hz2];omega) (by unfold maxLen;omega) (Nat.zero_le _) ?_;intro w3 hown hgrow);have HO:Hid (TSc 65 2 Nn 0 Es w3 w.heap.size Nn _ (fun _ _=>False)):=TSc.start (by simpa using hown);have HG3:Hid (Old w w3):=Below.grown (Below.refl _ _) hgrow (Nat.le_refl _) (fun _ h=>by cases h);clear hown hgrow q0
 go_loopw [14,6] (fun i _ W=>∃(k:Nat) (vs:List Value) (Bs:Nat->Nat->Prop),k<=Nn/\i=.int .i64 k/\Hid (TSc 65 2 Nn k Es W w.heap.size Nn vs Bs)/\Hid (∀j b,j<k->Bs j b->w.heap.size<b)/\Hid (Old w W)) (fun i _ _=>Nn - (intOf i).toNat)
 case atStart=>exact ⟨0,_,_,by omega,rfl,HO,(fun j b hj=>by omega),HG3⟩
 case round=>
  obtain ⟨k,vs,Bs,hk,rfl,H1,HB,HG4⟩:=hrel;clear HO HG3
  by_cases hlt:k<Nn
  ·have ilt:(k:Int)<(Nn:Int):=by omega
   have cc:=HCO.out k hlt;have ce:=HCE.out k hlt;have HEK:=Qaa (HEL.out k);have hsr:=Qa1 H1.out.row;generalize bs.getD k false=sg at *;generalize yss.getD k []=xs at *
   have HX:Hid (∀w6 x6 c6 Bz,Old wr w6->TI xs w6 Bz [.slice x6 xs.length c6]->(∀b,Bz b->wr.heap.size<=b)->(∃vs',TSc 65 2 Nn (k+1) Es ((w6.setCell ⟨w.heap.size,k*2,none⟩ (.bool sg)).setCell ⟨w.heap.size,k*2+1,none⟩ (.slice x6 xs.length c6)) (w.heap.size) Nn vs' (fun q=>if q=k then Bz else Bs q))/\(∀j b,j<k+1->(fun q=>if q=k then Bz else Bs q) j b->w.heap.size<b)/\Old w ((w6.setCell ⟨w.heap.size,k*2,none⟩ (.bool sg)).setCell ⟨w.heap.size,k*2+1,none⟩ (.slice x6 xs.length c6))):=fun w6 x6 c6 Bz g6 hTI hlo=>by
    refine ⟨(H1.out.old HGD.out g6).store2 HGD.out hlt _ _ (B:=Bz) (fun W' hW'=>?_) (fun hb=>by have:=hlo _ hb;omega) (fun j hj b h1 h2=>?_),fun j b hj hb=>?_,?_⟩
    ·rw [HEK.out];exact ⟨_,rfl,(Qcr xs).far hTI (fun b hb=>hW' b (by have:=hlo b hb;omega))⟩
    ·have h4:=H1.out.lt HGD.out j b hj h1;have:=hlo b h2;omega
    ·by_cases e:j=k
     ·simp only [e,if_true] at hb;have:=hlo b hb;omega
     ·simp only [e,if_false] at hb;exact HB.out j b (by omega) hb
    ·exact ((Old.trans HG4.out g6).own (p:=⟨w.heap.size,k*2,none⟩) (by simp) _).own (p:=⟨w.heap.size,k*2+1,none⟩) (by simp) _
   have HCL:Hid (∀w6,Old wr w6->∀i,i<2->(∃z,w6.cell? ⟨w.heap.size,k*2+i,none⟩=some z)/\w6.frozen? ⟨w.heap.size,k*2+i,none⟩=false):=fun w6 g6 i hi2=>by
    have H2:=H1.out.old HGD.out g6;have h5:=H2.cell k i hlt hi2;have h6:=Qbe H2.row.1 k hlt;exact ⟨⟨_,h5.trans (List.getElem?_eq_getElem (by omega))⟩,H2.frozen _⟩
   have RB4:=RV.out.old HG4.out;clear H1 HB HEK;go_wp2_with fail;refine (cc _ _ RB4).mono ?_
   rintro e w5 ⟨rfl,q5,o5⟩;have Q5:=Qaa q5;have O5:=Qaa o5;clear q5 o5;go_wp2_with fail;refine (ce _ _ (Old.trans HG4.out Q5.out) O5.out).mono ?_
   rintro e w6 ⟨v6,rfl,q6,o6⟩;obtain ⟨x6,c6,rfl⟩:=(Own.row o6).slice;have Q6:=Qaa (Old.trans Q5.out q6);have O6:=Qaa (o6.low Q5.out.size);clear q6 o6;obtain ⟨⟨z0,hz0⟩,hf0⟩:=HCL.out w6 Q6.out 0 (by omega);obtain ⟨⟨z1,hz1⟩,hf1⟩:=HCL.out w6 Q6.out 1 (by omega);simp only [Nat.add_zero] at hz0 hf0;obtain ⟨Bz,hTI,hlo⟩:=TI.of O6.out;obtain ⟨⟨vs',n1⟩,n2,n3⟩:=HX.out w6 x6 c6 Bz Q6.out hTI hlo;have N1:=Qaa n1;have N2:Hid (∀j b,j<k+1->(fun q=>if q=k then Bz else Bs q) j b->w.heap.size<b):=n2;have N3:=Qaa n3;clear n1 n2 n3 hTI hlo HX HCL;go_wp2_with fail;exact ⟨⟨k+1,vs',_,by omega,by go_num,N1,N2,N3⟩,by simp [intOf];omega⟩
  ·have d1:decide ((k:Int)<(Nn:Int))=false:=by simp;omega
   obtain rfl:k=Nn:=by omega
   have HE:=Qaa (H1.out.done HGD.out (Nat.le_refl _) (fun j b hj hb=>Nat.le_of_lt (HB.out j b hj hb)));go_wp2_with fail;go_ret;exact ⟨_,rfl,HG4.out,HE.out⟩
end Go.Proofs.YthcidnnkakppcaaGreatDoor
namespace Go.Proofs.YthcidnnkakppcaaGreatDoor
open Go.ChangeShapes Go.WideShapes Go.ChangeAt Go.RowKit
def TV (x:Value):Qba:=fun W B cs=>cs=[x]/\∀b,¬B b
theorem Qve (x:Value):GoodT (TV x):=⟨fun h _=>h,fun h b hb=>absurd hb (h.2 b)⟩
theorem Qo7 (N:Int) (a:Bool) (P R:Nat→Int) (us:Nat→Value) (m p cap:Nat) (w:World) (hpl:p<w.heap.size) (hm:1≤m∧m≤1000)
  (hC:∀k,k<m->w.cell? ⟨p,k*5,none⟩=some (.int .i64 (P k))/\w.cell? ⟨p,k*5+1,none⟩=some (.int .i64 N)/\w.cell? ⟨p,k*5+2,none⟩=some (.int .i64 (R k))/\w.cell? ⟨p,k*5+3,none⟩=some (.bool a)/\w.cell? ⟨p,k*5+4,none⟩=some (us k)) (hU:∀k,k<m->∃y n c,us k=.slice y n c) :
  Calls Tryz.prog 66 #[.slice (some ⟨p,0,none⟩) m cap] w fun e w'=>e=.returned (.slice (some ⟨w.heap.size,0,none⟩) m m)/\Old w w'/\w.heap.size<w'.heap.size/\∀j,j<m->w'.cell? ⟨w.heap.size,j,none⟩=some (us j):=by
 obtain ⟨j0,ji,jz0,jz1,jz2⟩:=info_parts Tryz.infoInts;have HC:=Qaa hC;have HU:=Qaa hU;clear hC hU;go_enter Tryz.func66,Tryz.ntmps66;go_wp2_with (at_make;refine wpList_make_full _ rfl _ _ 54 rfl 0 22 j0 (.slice none 0 0) 1 Tryz.underlying54 ji jz0 jz1 .i64 .i64 _ _ m rfl rfl rfl rfl (by rw [jz2];omega) (by unfold maxLen;omega) (Nat.zero_le _) ?_;intro w1 hown hgrow);have HO:Hid (TSc 22 1 m 0 (fun k=>TV (us k)) w1 w.heap.size m _ (fun _ _=>False)):=TSc.start hown;have HG:Hid (Old w w1):=Below.grown (Below.refl _ _) hgrow (Nat.le_refl _) (fun _ h=>by cases h);clear hown hgrow
 go_loopw [11,4,5] (fun i _ _ W=>∃(k:Nat) (vs:List Value) (Ds:Nat->Nat->Prop),k<=m/\i=.int .i64 k/\Hid (TSc 22 1 m k (fun k=>TV (us k)) W w.heap.size m vs Ds)/\Hid (Old w W)) (fun i _ _ _=>m - (intOf i).toNat)
 case atStart=>exact ⟨0,_,_,by omega,rfl,HO,HG⟩
 case round=>
  obtain ⟨k,vs,Ds,hk,rfl,H1,HG1⟩:=hrel;clear HO HG
  by_cases hlt:k<m
  ·obtain ⟨c0,c1,c2,c3,c4⟩:=HC.out k hlt;obtain ⟨y,n,c,eu⟩:=HU.out k hlt;rw [eu] at c4;have q0:=(HG1.out.cell (p:=⟨p,k*5,none⟩) hpl).trans c0;have q1:=(HG1.out.cell (p:=⟨p,k*5+1,none⟩) hpl).trans c1;have q2:=(HG1.out.cell (p:=⟨p,k*5+2,none⟩) hpl).trans c2;have q3:=(HG1.out.cell (p:=⟨p,k*5+3,none⟩) hpl).trans c3;have q4:=(HG1.out.cell (p:=⟨p,k*5+4,none⟩) hpl).trans c4;have hsr:=Qa1 H1.out.row
   have hst:=
    H1.out.store1 (fun j=>Qve _) hlt _ (B:=fun _=>False) (fun W' hW'=>⟨by rw [eu],fun b h=>h⟩) (fun h=>h) (fun j hj b h1 h2=>h2)
   obtain ⟨vs',hst⟩:=hst
   obtain ⟨z,hz⟩:∃z,wr.cell? ⟨w.heap.size,k,none⟩=some z:=by
    have h5:=H1.out.cell k 0 hlt (by omega);rw [Nat.mul_one,Nat.add_zero] at h5;have h6:=Qbe H1.out.row.1 k hlt;exact ⟨_,h5.trans (List.getElem?_eq_getElem (by omega))⟩
   have hfz:wr.frozen? ⟨w.heap.size,k,none⟩=false:=H1.out.frozen _
   generalize P k=P' at *;generalize R k=R' at *;have HN:Hid (TSc 22 1 m (k+1) (fun k=>TV (us k)) ((wr.setCell ⟨w.heap.size,k,none⟩ (.slice y n c)).alloc (.cells #[.int .i64 P',.int .i64 N,.int .i64 R',.bool a,.slice y n c] 149)) w.heap.size m vs' (fun q=>if q=k then (fun _=>False) else Ds q)):=hst.old (fun j=>Qve _) ((Old.refl _).alloc _);have HG2:Hid (Old w ((wr.setCell ⟨w.heap.size,k,none⟩ (.slice y n c)).alloc (.cells #[.int .i64 P',.int .i64 N,.int .i64 R',.bool a,.slice y n c] 149))):=(HG1.out.own (p:=⟨w.heap.size,k,none⟩) (Nat.le_refl _) _).alloc _;clear c0 c1 c2 c3 c4 hst H1 eu;go_wp2_with fail;exact ⟨⟨k+1,vs',_,by omega,by go_num,HN,HG2⟩,by simp [intOf];omega⟩
  ·have d1:decide ((k:Int)<(m:Int))=false:=by simp;omega
   obtain rfl:k=m:=by omega
   have HE:Hid (w.heap.size<wr.heap.size/\∀j,j<k->wr.cell? ⟨w.heap.size,j,none⟩=some (us j)):=⟨Qa1 H1.out.row,fun j hj=>by
    have h5:=H1.out.cell j 0 hj (by omega);rw [Nat.mul_one,Nat.add_zero] at h5;rw [h5,(H1.out.el j hj).1];rfl⟩
   go_wp2_with fail;go_ret;exact ⟨rfl,HG1.out,HE.out⟩
theorem Qo8 (Nn:Nat) (ps:List Int) (Rf:Nat→Int) (zss:List (List Int)) (v:Value) (w:World) (hm:1≤ps.length∧ps.length≤1000) (hz:zss.length=ps.length) (h:RdX Nn ps Rf zss w v) :
  Calls Tryz.prog 66 #[v] w fun e w'=>e=.returned (.slice (some ⟨w.heap.size,0,none⟩) ps.length ps.length)/\Old w w'/\Qdq w' (.slice (some ⟨w.heap.size,0,none⟩) ps.length ps.length) zss:=by
 obtain ⟨us,⟨p,cap,rfl,hp,hc⟩,hus⟩:=h
 refine (Qo7 Nn false (fun k=>ps.getD k 0) Rf us ps.length p cap w hp hm hc (fun k hk=>by
  obtain ⟨_,x,c,e⟩:=hus k hk;exact ⟨x,_,c,e⟩)).mono fun e w' h=>?_
 obtain ⟨h1,h2,h3,h4⟩:=h;refine ⟨h1,h2,.inr ⟨_,0,ps.length,us,by rw [hz],h3,by omega,fun j hj=>?_⟩⟩;rw [Nat.zero_add];exact ⟨h4 j (by omega),(hus j (by omega)).1.old h2⟩
def WsX (Nn:Nat) (ps:List Int) (zss:List (List Int)) (base:Nat) (W:World) (v:Value):Prop:=∃hi,Ows (TS 65 2 Nn (elW (whB Nn ps zss) (whX Nn ps zss))) W base hi [v]
theorem WsX.low {Nn:Nat} {ps:List Int} {zss:List (List Int)} {base lo:Nat} {W:World} {v:Value} (h:WsX Nn ps zss base W v) (q:lo<=base):WsX Nn ps zss lo W v:=by
 obtain ⟨hi,h⟩:=h;exact ⟨hi,Ows.low h q (Nat.le_refl _) h.1⟩
theorem Qy5 {Nn:Nat} {ps:List Int} {zss:List (List Int)} (hb:Qgq ps=true) (hz:zss.length=ps.length) (h:OkX Nn ps zss):Gr Nn ps zss:=⟨hb,hz,h⟩
theorem Qvf (Nn:Nat) (T E:Int) (ps:List Int) (Rf:Nat→Int) (zss:List (List Int)) (a3:Option Addr) (c3:Nat) (a4:Option Addr) (l4 c4:Nat) (a6:Option Addr) (l6 c6:Nat) (v:Value) (w:World) (hv:Row w (.slice a3 ps.length c3) ps) (hf:Fit (.slice a3 ps.length c3)) (hN:1≤Nn∧Nn≤16) (hps:1≤ps.length∧ps.length≤6) (hG:Gr Nn ps zss) (h:RdX Nn ps Rf zss w v) :
  Calls Tryz.prog 34 #[.agg #[.int .i64 Nn,.int .i64 T,.int .i64 E,.slice a3 ps.length c3,.slice a4 l4 c4,.bool false,.slice a6 l6 c6],v] w fun e w'=>∃v',e=.returned v'/\Old w w'/\WsX Nn ps zss w.heap.size w' v':=by
 have K1:=Qaa (fun W (g:Old w W)=>(Qo8 Nn ps Rf zss v W (by omega) hG.len (h.old g)).mono fun e w' h=>(⟨_,h.1,h.2.1,h.2.2⟩:∃p,e=.returned (.slice (some ⟨p,0,none⟩) ps.length ps.length)/\Old W w'/\Qdq w' (.slice (some ⟨p,0,none⟩) ps.length ps.length) zss))
 have K2:Hid (∀W u,Old w W->Qdq W u zss->Calls Tryz.prog 65 #[u,.slice a3 ps.length c3] W fun e w'=>∃a l c,e=.returned (.slice a l c)/\Old W w'/\WsX Nn ps zss w.heap.size w' (.slice a l c)):=fun W u g hu=>(Qgk Nn ps zss u (.slice a3 ps.length c3) W (hv.old g) hf hu hN hps hG).mono fun e w' h=>by
  obtain ⟨v',e1,q,o⟩:=h;have o2:WsX Nn ps zss w.heap.size w' v':=⟨_,Ows.low o g.size (Nat.le_refl _) o.1⟩;obtain ⟨_,B,hT,_⟩:=o;rcases hT with ⟨_,e2,_⟩ | ⟨p,cap,vs,Bs,e2,_⟩ <;> simp at e2 <;> subst e2 <;> exact ⟨_,_,_,e1,q,o2⟩
 obtain ⟨pa,pc,rfl⟩:=h.slice;clear hv hf hN hps hG h;obtain ⟨m,hm⟩:∃m,ps.length=m:=⟨_,rfl⟩
 rw [hm] at K1 K2 ⊢;obtain ⟨Ni,hNi⟩:∃Ni:Int,(Nn:Int)=Ni:=⟨_,rfl⟩
 rw [hNi];clear hm hNi;obtain ⟨B,hB⟩:∃B:World,w.alloc (.cells #[.int .i64 Ni,.int .i64 T,.int .i64 E,.slice a3 m c3,.slice a4 l4 c4,.bool false,.slice a6 l6 c6] 67)=B:=⟨_,rfl⟩
 have O:Hid (Old w B):=by rw [<- hB];exact (Old.refl w).alloc _
 have X:Hid (Bk B w.heap.size #[.int .i64 Ni,.int .i64 T,.int .i64 E,.slice a3 m c3,.slice a4 l4 c4,.bool false,.slice a6 l6 c6] 67):=by rw [<- hB];exact Bk.new' w _ _ rfl
 obtain ⟨kb,hkb⟩:∃kb,w.heap.size=kb:=⟨_,rfl⟩
 rw [hkb] at X;go_enter Tryz.func34,Tryz.ntmps34;go_wp2_with fail;have HAS:Hid (∀W',Old B W'->W'.cell? ⟨kb,3,none⟩=some (.slice a3 m c3)):=fun W' q=>(X.out.old q).c (i:=3) rfl
 have k0:=HAS.out _ (Old.refl B)
 go_region_held3 (fun W'=>W'.cell? ⟨kb,3,none⟩=some (.slice a3 m c3)) (first | with_reducible exact HAS.out _ GB.out | with_reducible exact HAS.out _ GA.out | with_reducible exact HAS.out _ (Below.drew (Old.refl B)) | with_reducible exact HAS.out _ (Old.refl B) | fail) (first
  | (go_at_call 65;refine (K2.out _ _ (Old.trans O.out GA.out) VA.out).mono ?_;rintro e wb ⟨_,_,_,rfl,gb,ob⟩;have GB:=Qaa (Old.trans GA.out gb);have VB:=Qaa ob;clear gb ob)
  | (go_at_call 66;refine (K1.out _ (Old.trans O.out (Below.drew (Old.refl B)))).mono ?_;rintro e wa ⟨_,rfl,ga,ra⟩;have GA:=Qaa (Old.trans (Below.drew (Old.refl B)) ga);have VA:=Qaa ra;clear ga ra)
  | fail)
 have G2:=Qaa (Old.trans O.out GB.out);clear K1 K2 X hB hkb HAS GA GB k0;go_wp2_with fail;go_ret;exact ⟨_,rfl,G2.out,VB.out⟩
end Go.Proofs.YthcidnnkakppcaaGreatDoor
namespace Go.Proofs.YthcidnnkakppcaaGreatDoor
open Go.ChangeShapes Go.WideShapes Go.ChangeAt Go.RowKit
open M2
theorem Qgl {ps:List Nat} (hb:Bas ps):0<Qaf ps:=by
 have:=Qh5 ps hb.lo ps.length (Nat.le_refl _)
 rwa [List.take_length] at this
def ctZ (ps:List Int) (zss:List (List Int)) (k:Nat):Int:=if ctB ps zss k then -(ctN ps zss k:Int) else (ctN ps zss k:Int)
theorem Qlj {n:Nat} {ps:List Int} {zss:List (List Int)} (h:Gr n ps zss) (k:Nat) (hk:k<n):ng (ctZ ps zss k)=ctB ps zss k/\dg (ctZ ps zss k)=dig (ctN ps zss k):=by
 have hq:=Qgl h.ps.2;have hc:coN (cqN zss k) (pnN ps)<Qaf (pnN ps):=Nat.mod_lt _ hq
 have hn:ctB ps zss k=true->0<ctN ps zss k:=fun hb=>by
  unfold ctB at hb;have:=of_decide_eq_true hb;unfold ctN;rw [if_neg (by omega)];omega
 unfold ctZ ng dg
 cases hb:ctB ps zss k
 ·simp
 ·have:=hn hb;simp;omega
theorem Q3m {z:Int} {k:Nat} (h:(dg z).length<=k):z.natAbs<LB^k:=by
 rcases Nat.lt_or_ge z.natAbs (LB^k) with h1 | h1
 ·exact h1
 ·have:=Qi2 h1;unfold dg at h;omega
theorem Qy6 {n:Nat} {ps:List Int} {zss:List (List Int)} (h:Gr n ps zss) (k:Nat) (hk:k<n):(dg (ctZ ps zss k)).length<=7:=by
 rw [(Qlj h k hk).2];exact Q1p h k hk
theorem Q1q (y:Int) (q:Nat) (hq:0<q):(Qd7 y q).natAbs<=y.natAbs+1:=by
 unfold Qd7
 have h1:(2*y+(q:Int))/(2*(q:Int))<=(y.natAbs:Int)+1:=by
  refine Int.ediv_le_of_le_mul (by omega) ?_
  have h2:2*(y.natAbs:Int)<=2*(q:Int)*(y.natAbs:Int):=Int.mul_le_mul_of_nonneg_right (by omega) (by omega)
  have h3:((y.natAbs:Int)+1)*(2*(q:Int))=2*(q:Int)*(y.natAbs:Int)+2*(q:Int):=by
   rw [Int.add_mul,Int.mul_comm (y.natAbs:Int)];omega
  rw [h3];omega
 have h2 : -((y.natAbs:Int)+1)<=(2*y+(q:Int))/(2*(q:Int)):=by
  refine Int.le_ediv_of_mul_le (by omega) ?_
  have h2:2*(y.natAbs:Int)<=2*(q:Int)*(y.natAbs:Int):=Int.mul_le_mul_of_nonneg_right (by omega) (by omega)
  have h3 : -((y.natAbs:Int)+1)*(2*(q:Int)) = -(2*(q:Int)*(y.natAbs:Int)) - 2*(q:Int):=by
   rw [Int.neg_mul,Int.add_mul,Int.mul_comm (y.natAbs:Int)];omega
  rw [h3];omega
 omega
theorem Qvg:LB=268435456:=rfl
theorem Qig {z T:Int} {k:Nat} (h:(dg z).length<=k) (hT:0<=T/\T<=268435455):(dg (z*T)).length<=k+1:=by
 have h1:=Q3m h;refine Qay ?_
 rw [Int.natAbs_mul,Nat.pow_succ];exact Nat.mul_lt_mul_of_lt_of_le h1 (by rw [Qvg];omega) (by rw [Qvg];omega)
theorem Qo9 {y:Int} {q k:Nat} (h:(dg y).length<=k) (hq:0<q):(dg (Qd7 y q)).length<=k+1:=by
 have h1:=Q3m h;have h2:=Q1q y q hq;refine Qay ?_
 rw [Nat.pow_succ];have:LB^k*2<=LB^k*LB:=Nat.mul_le_mul_left _ (by rw [Qvg];omega);omega
def Qy7 (Nn:Nat) (T:Int) (ps:List Int) (zss:List (List Int)):List Int:=(List.range Nn).map fun k=>Qd7 (ctZ ps zss k*T) (Qaf (pnN ps))%T
theorem Qlk (Nn:Nat) (T:Int) (ps:List Int) (zss:List (List Int)):(Qy7 Nn T ps zss).length=Nn:=by simp [Qy7]
theorem Qq2 (Nn:Nat) (T:Int) (ps:List Int) (zss:List (List Int)) (k:Nat) (h:k<Nn):(Qy7 Nn T ps zss).getD k 0=Qd7 (ctZ ps zss k*T) (Qaf (pnN ps))%T:=by simp [Qy7,List.getD,h]
def Chn (n:Nat) (W W':World):Prop:=W.heap.size<=W'.heap.size/\∀j,j<W.heap.size->j≠n->W'.heap[j]? = W.heap[j]?
theorem Chn.refl (n:Nat) (W:World):Chn n W W:=⟨Nat.le_refl _,fun _ _ _=>rfl⟩
theorem Chn.trans_old {n:Nat} {W W' W'':World} (h:Chn n W W') (q:Old W' W''):Chn n W W'':=⟨Nat.le_trans h.1 q.size,fun j hj hn=>(q.block j (Nat.lt_of_lt_of_le hj h.1)).trans (h.2 j hj hn)⟩
theorem Chn.set {n:Nat} {W W':World} (h:Chn n W W') (i:Nat) (x:Value):Chn n W (W'.setCell ⟨n,i,none⟩ x):=⟨by rw [World.size_setCell];exact h.1,fun j hj hn=>(heap_setCell_other W' ⟨n,i,none⟩ j _ hn).trans (h.2 j hj hn)⟩
theorem Chn.bk {n:Nat} {W W':World} {k:Nat} {cs:Array Value} {t:TypeId} (h:Chn n W W') (hk:k≠n) (b:Bk W k cs t):Bk W' k cs t:=(h.2 k b.lt hk).trans b
theorem Chn.cell {n:Nat} {W W':World} {b o:Nat} (h:Chn n W W') (hb:b<W.heap.size) (hn:b≠n):W'.cell? ⟨b,o,none⟩=W.cell? ⟨b,o,none⟩:=World.cell?_of_block (h.2 b hb hn)
theorem Chn.row {n:Nat} {W W':World} {v:Value} {xs:List Int} (h:Chn n W W') (hr:Row W v xs) (hv:∀g o l c,v=.slice (some ⟨g,o,none⟩) l c->xs=[]∨g≠n):Row W' v xs:=by
 rcases hr with h0 | ⟨b,o,cap,e,hb,hp,hc⟩
 ·exact .inl h0
 ·have hne:b≠n:=by
   rcases hv _ _ _ _ e with h1 | h1
   ·rw [h1] at hp;simp at hp
   ·exact h1
  exact .inr ⟨b,o,cap,e,Nat.lt_of_lt_of_le hb h.1,hp,fun j hj=>(h.cell hb hne).trans (hc j hj)⟩
def RzN (z:Int) (n:Nat) (W:World) (x:Value):Prop:=∃a c,x=.agg #[.bool (ng z),.slice a (dg z).length c]/\Row W (.slice a (dg z).length c) (toI (dg z))/\∀g o,a=some ⟨g,o,none⟩->dg z=[]∨g≠n
theorem RzN.rz {z:Int} {n:Nat} {W:World} {x:Value} (h:RzN z n W x):Rz z W x:=by
 obtain ⟨a,c,e,r,_⟩:=h;exact ⟨a,c,e,r⟩
theorem RzN.chn {z:Int} {n:Nat} {W W':World} {x:Value} (h:RzN z n W x) (q:Chn n W W'):RzN z n W' x:=by
 obtain ⟨a,c,e,r,hn⟩:=h;refine ⟨a,c,e,q.row r (fun g o l c' e'=>?_),hn⟩;simp only [Value.slice.injEq] at e';rcases hn g o e'.1 with h1 | h1
 ·exact .inl (by rw [h1];rfl)
 ·exact .inr h1
theorem RzN.of {z:Int} {n:Nat} {W:World} {x:Value} (h:Rz z W x) (hn:W.heap.size<=n):RzN z n W x:=by
 obtain ⟨a,c,e,r⟩:=h;refine ⟨a,c,e,r,fun g o ea=>?_⟩;rcases r with ⟨a',c',e1,e2⟩ | ⟨b,o',cap,e1,hb,_⟩
 ·refine .inl ?_
  have:(toI (dg z)).length=0:=by rw [e2];rfl
  simp only [toI,List.length_map] at this;exact List.length_eq_zero_iff.1 this
 ·simp only [Value.slice.injEq] at e1;rw [ea] at e1;have:=e1.1;simp at this;refine .inr ?_
  omega
theorem RzN.old {z:Int} {n:Nat} {W W':World} {x:Value} (h:RzN z n W x) (q:Old W W'):RzN z n W' x:=by
 obtain ⟨a,c,e,r,hn⟩:=h;exact ⟨a,c,e,r.old q,hn⟩
theorem WsX.atN {Nn:Nat} {ps:List Int} {zss:List (List Int)} {base n:Nat} {W:World} {v:Value} (h0:0<Nn) (hG:Gr Nn ps zss) (hn:n<base) (h:WsX Nn ps zss base W v) :
  ∃b cap,v=.slice (some ⟨b,0,none⟩) Nn cap/\b<W.heap.size/\b≠n/\∀k,k<Nn->∃a c,W.cell? ⟨b,k*2,none⟩=some (.bool (ng (ctZ ps zss k)))/\W.cell? ⟨b,k*2+1,none⟩=some (.slice a (dg (ctZ ps zss k)).length c)/\RzN (ctZ ps zss k) n W (.agg #[.bool (ng (ctZ ps zss k)),.slice a (dg (ctZ ps zss k)).length c]):=by
 obtain ⟨hi,_,B,hT,hbd⟩:=h;rcases hT with ⟨e,_⟩ | ⟨p,cap,vs,Bs,e,hc,hB⟩
 ·omega
 simp at e;subst e;have hp:=(hbd p ((hB p).2 (.inl rfl))).1;refine ⟨p,cap,rfl,Qa1 hc.row,by omega,fun k hk=>?_⟩;obtain ⟨x,e,a,c,e2,ho,_,hbb⟩:=hc.el k hk;have c0:=hc.cell k 0 hk (by omega);have c1:=hc.cell k 1 hk (by omega);obtain ⟨f1,f2⟩:=Qlj hG k hk;have eX:=Qli Nn ps zss k hk;have eB:=Qlh Nn ps zss k hk;rw [eX] at ho e2 hbb;rw [e] at c0 c1;simp at e2;subst e2;have hl:(toI (dig (ctN ps zss k))).length=(dig (ctN ps zss k)).length:=by simp [toI]
 refine ⟨a,c,?_,?_,a,c,rfl,?_,fun g o ea=>?_⟩
 ·rw [f1,<- eB];exact c0
 ·rw [f2,<- hl];exact c1
 ·rw [f2];have:=Own.row ho;rw [hl] at this;exact this
 ·subst ea;rw [f2];rcases Nat.eq_zero_or_pos (dig (ctN ps zss k)).length with hz | hz
  ·exact .inl (List.length_eq_zero_iff.1 hz)
  ·refine .inr ?_
   have h1:=hbb g;have h2:=h1.2 rfl;have:=(hbd g ((hB g).2 (.inr ⟨k,hk,h2⟩))).1;omega
theorem Qq3 {N:Nat} {ss:List Int} (h:wiB N 1 ss=true):ss.length=N/\∀i,i<ss.length->-1<=ss.getD i 0/\ss.getD i 0<=1:=by
 unfold wiB Qwj at h;rw [Bool.and_eq_true,decide_eq_true_eq,decide_eq_true_eq] at h;exact ⟨by omega,fun i hi=>h.2 i hi (by omega)⟩
theorem Qih {W:World} {base p n:Nat} {xs:List Int} (h:Qbc W base p n xs):p<W.heap.size:=(World.ownsRow.lt h p rfl).2
def LbD (w:World) (zs:List Int) (ok:Bool) (e:Ending) (w':World):Prop:=∃v',e=.returned (.tuple #[v',.bool ok])/\Old w w'/\Own w' w.heap.size v' zs
theorem Qnn (N T E:Int) (ps:List Int) (xsss:List (List (List Int))) (ss:List Int) (v u u2:Value) (w:World) (lo hi:Nat) (hP:Qe0 w) (hT:Qbb w) (hv:Row w v ps) (hf:Fit v) (hu:Ows (TTT xsss) w lo hi [u]) (hu2:Row w u2 ss) (hl2:ss.length≤9223372036854775807) (hlp:ps.length≤9223372036854775807) (hl:xsss.length≤1048576) (hr:∀r∈xsss,r.length≤1048576∧∀q∈r,q.length≤1048576) (Z:List Int) (ok:Bool) (hy:(prB N T E ps&&ciB N ps xsss&&wiB N 1 ss)=true→Z=Qy7 N.toNat T ps (Qie N.toNat ps xsss (smS ps ss))∧ok=true) (hn:(prB N T E ps&&ciB N ps xsss&&wiB N 1 ss)=false→Z=[]∧ok=false) :
  Calls Tryz.prog 10 #[.agg #[.int .i64 N,.int .i64 T,.int .i64 E,v],u2,.agg #[u]] w (LbD w Z ok):=by
 have HY:=Qaa hy;have HNN:=Qaa hn;clear hy hn;obtain ⟨Rf,hRb⟩:=Qp3 N ps;have hRf:=fun k hk=>(hRb k hk).1
 have HRB:Hid (∀Nn:Nat,N=Nn->spB N ps=true->RtS Nn ps Rf):=fun Nn e hs=>by
  subst e;exact Qyr hRb hs
 have HU2:=Qaa hu2;have HTW:=Qaa hT;have HV:Hid (Row w v ps/\Fit v):=⟨hv,hf⟩;obtain ⟨a2,c2',eu2⟩:=hu2.slice;have K1:=fun W (g:Old w W)=>Qh8 N T E ps Rf v W (hP.old g) (hT.old g) (hv.old g) hf hlp hRf
 obtain ⟨a0,c0,ev⟩:=hv.slice;obtain ⟨a1,c1,eu⟩:=hu.rowT.slice;subst ev eu eu2;obtain ⟨au,cu,uf,cf,hpa⟩:=CiI.of ps hu;have HPA:=Qaa hpa;have HR:=Qaa hr;have HA:Hid (Old w ((w.alloc (.cells #[.int .i64 N,.int .i64 T,.int .i64 E,.slice a0 ps.length c0] 32)).alloc (.cells #[.slice a1 xsss.length c1] 35))):=((Old.refl w).alloc _).alloc _;have BP:Hid (Bk ((w.alloc (.cells #[.int .i64 N,.int .i64 T,.int .i64 E,.slice a0 ps.length c0] 32)).alloc (.cells #[.slice a1 xsss.length c1] 35)) w.heap.size #[.int .i64 N,.int .i64 T,.int .i64 E,.slice a0 ps.length c0] 32):=(Bk.new' w _ _ rfl).alloc _;have BB:Hid (Bk ((w.alloc (.cells #[.int .i64 N,.int .i64 T,.int .i64 E,.slice a0 ps.length c0] 32)).alloc (.cells #[.slice a1 xsss.length c1] 35)) (w.heap.size+1) #[.slice a1 xsss.length c1] 35):=Bk.new' _ _ _ (by simp);clear hv hf hu hP hT hRf hr hpa hRb hu2;go_enter Tryz.func10,Tryz.ntmps10;go_wp2_with fail;refine (K1 _ HA.out).mono ?_
 rintro e w1 ⟨g1,h⟩;have HG1:=Qaa (Old.trans HA.out g1);have P1:=Qaa (BP.out.old g1);have B1:=Qaa (BB.out.old g1);clear g1 K1 BB BP HA;rcases h with ⟨hB,rfl⟩ | ⟨hB,g,a,l,c,hg,rfl,hrg,qs,eqs,hbs,hll,hown⟩
 ·have HB:=Qaa (HNN.out (by rw [hB];rfl));have HG2:Hid (Old w (w1.alloc (.cells rk0 67))):=HG1.out.alloc _;have z0:=(B1.out.alloc (.cells rk0 67)).c (i:=0) rfl;have c2:=fun W (q:Old w W)=>Qwx 0 0 0 none 0 0 false none 0 0 a1 c1 W ps xsss au cu uf cf hl (HPA.out.old q)
  clear hB;go_wp2_with fail;refine (c2 _ HG2.out).mono ?_
  intro e w2 h;obtain ⟨g2,x,rfl⟩:=h.any;have HG3:=Qaa (Old.trans HG2.out g2);clear g2 h c2;go_wp2_with fail
  go_ret2
  rw [HB.out.1,HB.out.2];exact ⟨_,rfl,HG3.out,Qd1 _ _⟩
 ·have hsp:=Quh hB;obtain ⟨hz4,hbb,_⟩:=Qdm hsp;obtain ⟨Nn,rfl⟩:∃Nn:Nat,N=(Nn:Int):=⟨N.toNat,by omega⟩
  have hNn:2<=Nn/\Nn<=16:=by omega
  have hps:=(Qdc hbb).1;obtain ⟨B2,hB2⟩:∃B:World,w1.alloc (.cells #[.int .i64 (Nn:Int),.int .i64 T,.int .i64 E,.slice a0 ps.length c0,.slice (some ⟨g,0,none⟩) ps.length ps.length,.bool false,.slice a l c] 67)=B:=⟨_,rfl⟩
  have O2:Old w1 B2:=by rw [<- hB2];exact (Old.refl w1).alloc _
  have HG2:=Qaa (Old.trans HG1.out O2);have P2:=Qaa (P1.out.old O2);have C2:=Qaa (B1.out.old O2);have X2:Hid (Bk B2 w1.heap.size #[.int .i64 (Nn:Int),.int .i64 T,.int .i64 E,.slice a0 ps.length c0,.slice (some ⟨g,0,none⟩) ps.length ps.length,.bool false,.slice a l c] 67):=by rw [<- hB2];exact Bk.new' w1 _ _ rfl
  have HRG2:=Qaa (hrg.old O2)
  have HQ2:Hid (Rz (Qaf qs:Nat) B2 (.agg #[.bool false,.slice a l c])):=by
   refine ⟨a,c,?_,?_⟩
   ·rw [hll,show dg ((Qaf qs:Nat):Int)=dig (Qaf qs) from rfl];simp [ng]
   ·rw [show dg ((Qaf qs:Nat):Int)=dig (Qaf qs) from rfl,<- hll];exact (Own.row hown).old O2
  have HQS:Hid (qs=pnN ps/\Bas qs):=⟨by
   unfold pnN;rw [eqs];exact (Qk2 qs).symm,hbs⟩
  obtain ⟨kr,hkr⟩:∃kr,w1.heap.size=kr:=⟨_,rfl⟩
  have hks:w.heap.size+2<=kr:=by have:=B1.out.lt;omega
  rw [hkr] at X2;have HBB:=Qaa hB;have K2:=Qaa (fun W (q:Old B2 W)=>Qxe Nn T E a0 ps.length c0 g false a l c a1 c1 W ps Rf xsss au cu uf cf hl HR.out (HPA.out.old (Old.trans HG2.out q)) (HRG2.out.old q) hsp hNn hps);have x0:=X2.out.c (i:=0) rfl;have x1:=X2.out.c (i:=1) rfl;have x2:=X2.out.c (i:=2) rfl;have x3:=X2.out.c (i:=3) rfl;have x4:=X2.out.c (i:=4) rfl;have x5:=X2.out.c (i:=5) rfl;have x6:=X2.out.c (i:=6) rfl;have z0:=C2.out.c (i:=0) rfl;clear hB hrg hg hown O2 eqs hbs hll HG1 P1 B1;go_wp2_with fail;refine (K2.out _ (Old.refl _)).mono ?_
  rintro e w3 ⟨g3,h⟩;have O3:=Qaa g3;have HG3:=Qaa (Old.trans HG2.out g3);have P3:=Qaa (P2.out.old g3);have X3:=Qaa (X2.out.old g3);clear g3 K2 x0 x1 x2 x3 x4 x5 x6 z0 hB2 hkr P2 C2 X2;rcases h with ⟨hC,rfl⟩ | ⟨hC,IF,rfl,hif⟩
  ·have HB:=Qaa (HNN.out (by rw [HBB.out,hC];rfl));clear hC;go_wp2_with fail
   go_ret2
   rw [HB.out.1,HB.out.2];exact ⟨_,rfl,HG3.out,Qd1 _ _⟩
  ·have HIF:=Qaa hif;have HC:=Qaa hC;have K3:=Qaa (fun W (q:Old w W)=>Qma Nn T E a0 ps.length c0 ss (.slice a2 ss.length c2') W (HU2.out.old q) hl2);have x0:=P3.out.c (i:=0) rfl;have x1:=P3.out.c (i:=1) rfl;have x2:=P3.out.c (i:=2) rfl;have x3:=P3.out.c (i:=3) rfl;clear hif hC
   cases hwi:wiB Nn 1 ss
   ·rw [hwi] at K3;have HB:=Qaa (HNN.out (by rw [HBB.out,HC.out,hwi];rfl));clear hwi;go_wp2_with fail;refine (K3.out _ HG3.out).mono ?_
    rintro e w4 ⟨rfl,g4⟩;have HG4:=Qaa (Old.trans HG3.out g4);clear g4 K3 x0 x1 x2 x3;go_wp2_with fail
    go_ret2
    rw [HB.out.1,HB.out.2];exact ⟨_,rfl,HG4.out,Qd1 _ _⟩
   ·rw [hwi] at K3;obtain ⟨eZ,eo⟩:=HY.out (by rw [HBB.out,HC.out,hwi];rfl);rw [show ((Nn:Int).toNat)=Nn by omega] at eZ;have HZ:=Qaa eZ;subst eo;obtain ⟨hsl,hsv⟩:=Qq3 hwi;have HSL:=Qaa hsl;have HSV:=Qaa hsv;have hS4:Sz4 Nn:=by unfold Sz4;omega
    have HS4:=Qaa hS4;have HPB:=Qaa (fun k hk=>Qs8 ((Qdc hbb).2 k hk));have HPS:=Qaa hps;have HNB:=Qaa hNn;have HTT:=Qaa (Q22 HBB.out);have HRT:=Qaa (HRB.out Nn rfl hsp);have HUK:=Qaa (Qus (sss:=smS ps ss) HPB.out HC.out);have HGR:=Qaa (Qy5 hbb Qqv HUK.out);clear hwi eZ hsl hsv hS4 hps hNn hsp hz4 hbb HNN HY HRB;go_wp2_with fail;refine (K3.out _ HG3.out).mono ?_
    rintro e w4 ⟨rfl,g4⟩;have HG4:=Qaa (Old.trans HG3.out g4);have O4:=Qaa (Old.trans O3.out g4);have X4:=Qaa (X3.out.old g4);have HIF4:=Qaa (HIF.out.old g4);have y0:=X4.out.c (i:=0) rfl;clear g4 K3 x0 x1 x2 x3 O3 P3 X3 HIF;obtain ⟨i0,hi0,hz0,hz1,hz2⟩:=info_parts Tryz.infoInt;go_wp2_with (at_make;refine wpList_make_full _ rfl _ _ 22 rfl w4.heap.size 3 i0 (.int .i64 0) 1 Tryz.underlying22 hi0 hz0 hz1 .i64 .i64 _ _ Nn rfl rfl rfl rfl (by rw [hz2];have:=HNB.out;omega) (by unfold maxLen;have:=HNB.out;omega) (Nat.le_refl _) ?_;intro w5 hown hgrow)
    have HO:Hid (Qbc w5 w4.heap.size w4.heap.size Nn (List.replicate Nn 0)):=by
     rw [Qbj] at hown;exact hown
    have g5:=Old.by_ (Old.refl _) hgrow (fun b hb=>by cases hb);have HG5:=Qaa (Old.trans HG4.out g5);have O5:=Qaa (Old.trans O4.out g5);have X5:=Qaa (X4.out.old g5);have HIF5:=Qaa (HIF4.out.old g5);obtain ⟨pb,hpb⟩:∃pb,w4.heap.size=pb:=⟨_,rfl⟩
    have hpw:w.heap.size<=pb:=by have:=HG4.out.size;omega
    have hpl:pb<w5.heap.size:=by have:=Qih HO.out;omega
    have hbq:B2.heap.size<=pb:=by have:=O4.out.size;omega
    have hkp:kr<pb:=by have:=X4.out.lt;omega
    rw [hpb] at HO ⊢;clear hown hgrow g5 y0 hpb O4 X4 HIF4 HG4;have HAS:Hid (∀W',Old w5 W'->W'.cell? ⟨kr,0,none⟩=some (.int .i64 (Nn:Int))/\W'.cell? ⟨kr,1,none⟩=some (.int .i64 T)/\W'.cell? ⟨kr,2,none⟩=some (.int .i64 E)/\W'.cell? ⟨kr,3,none⟩=some (.slice a0 ps.length c0)/\W'.cell? ⟨kr,4,none⟩=some (.slice (some ⟨g,0,none⟩) ps.length ps.length)/\W'.cell? ⟨kr,5,none⟩=some (.bool false)/\W'.cell? ⟨kr,6,none⟩=some (.slice a l c)):=fun W' q=>⟨(X5.out.old q).c (i:=0) rfl,(X5.out.old q).c (i:=1) rfl,(X5.out.old q).c (i:=2) rfl,(X5.out.old q).c (i:=3) rfl,(X5.out.old q).c (i:=4) rfl,(X5.out.old q).c (i:=5) rfl,(X5.out.old q).c (i:=6) rfl⟩
    obtain ⟨v0,v1,v2,v3,v4,v5,v6⟩:=HAS.out _ (Old.refl w5)
    go_region_held3 (fun W'=>W'.cell? ⟨kr,0,none⟩=some (.int .i64 (Nn:Int))/\W'.cell? ⟨kr,1,none⟩=some (.int .i64 T)/\W'.cell? ⟨kr,2,none⟩=some (.int .i64 E)/\W'.cell? ⟨kr,3,none⟩=some (.slice a0 ps.length c0)/\W'.cell? ⟨kr,4,none⟩=some (.slice (some ⟨g,0,none⟩) ps.length ps.length)/\W'.cell? ⟨kr,5,none⟩=some (.bool false)/\W'.cell? ⟨kr,6,none⟩=some (.slice a l c)) (first | with_reducible exact HAS.out _ GC.out | with_reducible exact HAS.out _ GB.out | with_reducible exact HAS.out _ GA.out | with_reducible exact HAS.out _ (Below.drew (Old.refl w5)) | with_reducible exact HAS.out _ (Old.refl w5) | fail) (first
     | (go_at_call 34;refine (Qvf Nn T E ps Rf _ a0 c0 (some ⟨g,0,none⟩) ps.length ps.length a l c _ _ (HV.out.1.old (Old.trans HG5.out GB.out)) HV.out.2 (by have:=HNB.out;omega) HPS.out HGR.out VB.out).mono ?_;rintro e w6 ⟨u6,rfl,g6,h6⟩;obtain ⟨b,cap,rfl,hb7,hbn,hc7⟩:=(h6.low GB.out.size).atN (n:=pb) (by have:=HNB.out;omega) HGR.out hpl;have GC:=Qaa (Old.trans GB.out g6);have HC7:=Qaa hc7;clear g6 h6 hc7)
     | (go_at_call 35;refine (Qr2 Nn ps Rf xsss (smS ps ss) IF _ _ (HTW.out.old (Old.trans HG5.out GA.out)) HS4.out HPS.out HPB.out HRT.out HC.out (Qm3 HPB.out HSL.out) (HIF5.out.old GA.out) VA.out).mono ?_;rintro e wb' ⟨ub,rfl,gb,ob⟩;obtain ⟨_,_,rfl⟩:=(ob.rd HPS.out.1).slice;have GB:=Qaa (Old.trans GA.out gb);have VB:=Qaa (ob.rd HPS.out.1);clear gb ob)
     | (go_at_call 36;refine (Qi0 Nn ps ss Rf g (.slice a2 ss.length c2') _ (HRG2.out.old (Old.trans O5.out (Below.drew (Old.refl w5)))) (by have:=HPS.out;omega) (HU2.out.old (Old.trans HG5.out (Below.drew (Old.refl w5)))) (by have h1:=HSL.out;have h2:=HNB.out;omega) (fun i hi=>by have:=HSV.out i hi;omega) (fun k hk=>by have:=HPB.out k hk;omega)).mono ?_;rintro e wa ⟨_,_,rfl,ga,oa⟩;have GA:=Qaa (Old.trans (Below.drew (Old.refl w5)) ga);have VA:=Qaa (Ows.rd HPS.out.1 oa);clear ga oa)
     | fail)
    have HG6:=Qaa (Old.trans HG5.out GC.out);have HO6:=Qaa (HO.out.old GC.out);have X6:=Qaa (X5.out.old GC.out);have HQ6:=Qaa ((RzN.of HQ2.out hbq).old (Old.trans O5.out GC.out));have HL:=Qaa (fun k hk=>Qy6 HGR.out k hk)
    have HLN:Hid (Z.length=Nn/\∀k,k<Nn->Z.getD k 0=Qd7 (ctZ ps (Qie Nn ps xsss (smS ps ss)) k*T) (Qaf qs)%T):=by
     rw [HZ.out,HQS.out.1];exact ⟨Qlk _ _ _ _,fun k hk=>Qq2 _ _ _ _ k hk⟩
    generalize Qie Nn ps xsss (smS ps ss)=U at *;have HQP:Hid (0<Qaf qs/\(dig (Qaf qs)).length<=7):=⟨Qgl HQS.out.2,HQS.out.2.cnt⟩;clear HO X5 HQ2 O5 HG5 HIF5 HGR HUK HRG2 HZ HAS GA GB GC VA VB v0 v1 v2 v3 v4 v5 v6;have hNN:=HNB.out.2
    have HZB:Hid (∀k,k<Nn->-9223372036854775808<=Z.getD k 0/\Z.getD k 0<=9223372036854775807):=fun k hk=>by
     rw [HLN.out.2 k hk];have h1:=Int.emod_nonneg (Qd7 (ctZ ps U k*T) (Qaf qs)) (show T≠0 by have:=HTT.out;omega);have h2:=Int.emod_lt_of_pos (Qd7 (ctZ ps U k*T) (Qaf qs)) (show (0:Int)<T by have:=HTT.out;omega);have:=HTT.out;omega
    go_wp2_with fail
    go_loopw [51,13,14] (fun i _ _ W=>∃k:Nat,k<=Nn/\i=.int .i64 k/\Hid (Qbc W pb pb Nn (Qbr Z k))/\Hid (Old w W)/\Hid (Chn pb w6 W)) (fun i _ _ _=>Nn - (intOf i).toNat)
    case atStart=>exact ⟨0,by omega,rfl,(by show Qbc _ _ _ _ _;rw [Qch,HLN.out.1];exact HO6.out),HG6,Chn.refl _ _⟩
    case round=>
     obtain ⟨k,hk,rfl,H1,HG7,HCh⟩:=hrel;clear HO6 HG6
     by_cases hlt:k<Nn
     ·obtain ⟨a8,c8,q0,q1,hrz⟩:=HC7.out k hlt;have q0':=(HCh.out.cell (o:=k*2) hb7 hbn).trans q0;have q1':=(HCh.out.cell (o:=k*2+1) hb7 hbn).trans q1;have HRZ:=Qaa (hrz.chn HCh.out);have HQ7:=Qaa (HQ6.out.chn HCh.out);have X7:=Qaa (HCh.out.bk (by omega) X6.out);have hl7:=HL.out k hlt;have hZk:=HLN.out.2 k hlt;obtain ⟨z,hz⟩:∃z,ctZ ps U k=z:=⟨_,rfl⟩
      rw [hz] at q0' q1' HRZ hl7 hZk;obtain ⟨nb,hnb⟩:∃nb,ng z=nb:=⟨_,rfl⟩
      obtain ⟨l8,hl8⟩:∃l8,(dg z).length=l8:=⟨_,rfl⟩
      rw [hnb] at q0' HRZ;rw [hl8] at q1' HRZ;have HL8:=Qaa hl7;have HZK:=Qaa hZk;have iL:(k:Int)<(Nn:Int):=by omega
      obtain ⟨B8,hB8⟩:∃B:World,wr.alloc (.cells #[.bool nb,.slice a8 l8 c8] 65)=B:=⟨_,rfl⟩
      have O8:Old wr B8:=by rw [<- hB8];exact (Old.refl wr).alloc _
      have Y8:Hid (Bk B8 wr.heap.size #[.bool nb,.slice a8 l8 c8] 65):=by rw [<- hB8];exact Bk.new' wr _ _ rfl
      have X8:=Qaa (X7.out.old O8);have R8:=Qaa (HRZ.out.rz.old O8);have Q8:=Qaa (HQ7.out.rz.old O8);have W8:=Qaa (H1.out.old O8);have G8:=Qaa (Old.trans HG7.out O8);have C8:=Qaa (HCh.out.trans_old O8);obtain ⟨wb,hwb⟩:∃wb,wr.heap.size=wb:=⟨_,rfl⟩
      rw [hwb] at Y8
      have HWB:Hid (wb≠pb):=by
       have:=Qih H1.out
       show wb≠pb
       omega
      clear q0 q1 hrz hl7 hZk hz hnb hl8 O8 X7 HRZ HQ7 H1 HG7 HCh;go_wp2_with fail;have HAS:Hid (∀W',Old B8 W'->W'.cell? ⟨kr,0,none⟩=some (.int .i64 (Nn:Int))/\W'.cell? ⟨kr,1,none⟩=some (.int .i64 T)/\W'.cell? ⟨kr,2,none⟩=some (.int .i64 E)/\W'.cell? ⟨kr,3,none⟩=some (.slice a0 ps.length c0)/\W'.cell? ⟨kr,4,none⟩=some (.slice (some ⟨g,0,none⟩) ps.length ps.length)/\W'.cell? ⟨kr,5,none⟩=some (.bool false)/\W'.cell? ⟨kr,6,none⟩=some (.slice a l c)/\W'.cell? ⟨wb,0,none⟩=some (.bool nb)/\W'.cell? ⟨wb,1,none⟩=some (.slice a8 l8 c8)):=fun W' q=>⟨(X8.out.old q).c (i:=0) rfl,(X8.out.old q).c (i:=1) rfl,(X8.out.old q).c (i:=2) rfl,(X8.out.old q).c (i:=3) rfl,(X8.out.old q).c (i:=4) rfl,(X8.out.old q).c (i:=5) rfl,(X8.out.old q).c (i:=6) rfl,(Y8.out.old q).c (i:=0) rfl,(Y8.out.old q).c (i:=1) rfl⟩
      obtain ⟨zk,hzk⟩:∃y,Z.getD k 0=y:=⟨_,rfl⟩
      have HZ9:=Qaa hzk;rw [hzk] at HZK;clear hzk
      have HASS:Hid (∀W',Old B8 W'->∀x,(W'.setCell ⟨pb,k,none⟩ x).cell? ⟨kr,0,none⟩=some (.int .i64 (Nn:Int))/\(W'.setCell ⟨pb,k,none⟩ x).cell? ⟨kr,1,none⟩=some (.int .i64 T)/\(W'.setCell ⟨pb,k,none⟩ x).cell? ⟨kr,2,none⟩=some (.int .i64 E)/\(W'.setCell ⟨pb,k,none⟩ x).cell? ⟨kr,3,none⟩=some (.slice a0 ps.length c0)/\(W'.setCell ⟨pb,k,none⟩ x).cell? ⟨kr,4,none⟩=some (.slice (some ⟨g,0,none⟩) ps.length ps.length)/\(W'.setCell ⟨pb,k,none⟩ x).cell? ⟨kr,5,none⟩=some (.bool false)/\(W'.setCell ⟨pb,k,none⟩ x).cell? ⟨kr,6,none⟩=some (.slice a l c)/\(W'.setCell ⟨pb,k,none⟩ x).cell? ⟨wb,0,none⟩=some (.bool nb)/\(W'.setCell ⟨pb,k,none⟩ x).cell? ⟨wb,1,none⟩=some (.slice a8 l8 c8)):=fun W' q x=>by
       obtain ⟨v0,v1,v2,v3,v4,v5,v6,v7,v8⟩:=HAS.out W' q;have hwp:=HWB.out;refine ⟨?_,?_,?_,?_,?_,?_,?_,?_,?_⟩
       all_goals
        refine (World.cell?_setCell_other _ _ _ _ (by simp;try omega)).trans ?_
        assumption
      obtain ⟨v0,v1,v2,v3,v4,v5,v6,v7,v8⟩:=HAS.out _ (Old.refl B8)
      go_region_held3 (fun W'=>W'.cell? ⟨kr,0,none⟩=some (.int .i64 (Nn:Int))/\W'.cell? ⟨kr,1,none⟩=some (.int .i64 T)/\W'.cell? ⟨kr,2,none⟩=some (.int .i64 E)/\W'.cell? ⟨kr,3,none⟩=some (.slice a0 ps.length c0)/\W'.cell? ⟨kr,4,none⟩=some (.slice (some ⟨g,0,none⟩) ps.length ps.length)/\W'.cell? ⟨kr,5,none⟩=some (.bool false)/\W'.cell? ⟨kr,6,none⟩=some (.slice a l c)/\W'.cell? ⟨wb,0,none⟩=some (.bool nb)/\W'.cell? ⟨wb,1,none⟩=some (.slice a8 l8 c8)) (first | with_reducible exact HASS.out _ GB.out _ | with_reducible exact HAS.out _ GB.out | with_reducible exact HAS.out _ GA.out | with_reducible exact HAS.out _ (Below.drew (Old.refl B8)) | with_reducible exact HAS.out _ (Old.refl B8) | fail) (first
       | (go_at_call 37;refine (Q4s (Qd7 (z*T) (Qaf qs)) T _ _ VA.out (Nat.le_trans (Qo9 (Qig HL8.out (by have:=HTT.out;omega)) HQP.out.1) (by omega)) (by have:=HTT.out;omega)).mono ?_;rintro e w9 ⟨rfl,g9⟩;have GB:=Qaa (Old.trans GA.out g9);have c9:=(W8.out.old GB.out).get (Qbd Z k (by have:=HLN.out.1;omega) |>.trans HLN.out.1) k hlt;have f9:=(W8.out.old GB.out).free k;rw [<- HZK.out];clear g9)
       | (go_at_call 38;refine (Qnl (Nn:Int) T E (Qaf qs) z a0 ps.length c0 (some ⟨g,0,none⟩) ps.length ps.length a l c _ _ (R8.out.old (Below.drew (Old.refl B8))) HQP.out.1 (Q8.out.old (Below.drew (Old.refl B8))) (by have:=HTT.out;omega) (by have:=HL8.out;omega) (Nat.le_trans (Qig HL8.out (by have:=HTT.out;omega)) (by omega)) (Nat.le_trans HQP.out.2 (by omega)) (Nat.le_trans (Qo9 (Qig HL8.out (by have:=HTT.out;omega)) HQP.out.1) (by omega))).mono ?_;rintro e wa ⟨ua,rfl,ga,oa⟩;have GA:=Qaa (Old.trans (Below.drew (Old.refl B8)) ga);have VA:=Qaa oa.rz;obtain ⟨_,_,rfl,_⟩:=oa;clear ga)
       | fail)
      have HPU:Hid (Qbc (w9.setCell ⟨pb,k,none⟩ (.int .i64 (Z.getD k 0))) pb pb Nn (Qbr Z (k+1))):=by
       have:=(W8.out.old GB.out).put k (Z.getD k 0);rw [Qc4 Z k (by have:=HLN.out.1;omega)] at this;exact this
      have G9:Hid (Old w (w9.setCell ⟨pb,k,none⟩ (.int .i64 (Z.getD k 0)))):=(Old.trans G8.out GB.out).own (p:=⟨pb,k,none⟩) hpw _;have C9:Hid (Chn pb w6 (w9.setCell ⟨pb,k,none⟩ (.int .i64 (Z.getD k 0)))):=(C8.out.trans_old GB.out).set k _;rw [HZ9.out] at HPU G9 C9;clear W8 G8 C8 R8 Q8 X8 Y8 hB8 hwb HZK HAS HASS GA GB VA v0 v1 v2 v3 v4 v5 v6 v7 v8 c9 f9 HWB;generalize w9.setCell ⟨pb,k,none⟩ (.int .i64 zk)=w10 at *;go_wp2_with fail;exact ⟨⟨k+1,by omega,by go_num,HPU,G9,C9⟩,by simp [intOf];omega⟩
     ·have d1:decide ((k:Int)<(Nn:Int))=false:=decide_eq_false (by omega);obtain rfl:k=Nn:=by omega
      have HF:Hid (Own wr pb (.slice (some ⟨pb,0,none⟩) k k) Z):=by
       have:=H1.out.own ((Qbd Z k (by have:=HLN.out.1;omega)).trans HLN.out.1)
       rw [show Qbr Z k=Z by
        have h:=Qc3 Z;rw [HLN.out.1] at h;exact h] at this
       exact this
      go_wp2_with fail
      go_ret2
      exact ⟨_,rfl,HG7.out,HF.out.low hpw⟩
theorem TSW.rowW {T:TypeId} {bs:List Bool} {xss:List (List Int)} {W:World} {B:Nat->Prop} {v:Value} (hb:bs.length=xss.length) (h:TS T 2 xss.length (elW bs xss) W B [v]):Q2p W v bs xss:=by
 refine ⟨hb,?_⟩;rcases h with ⟨h0,h1,_⟩ | ⟨p,cap,vs,Bs,e,hc,_⟩
 ·simp at h1;exact .inl ⟨none,0,h1,List.length_eq_zero_iff.1 h0⟩
 ·simp at e;subst e;rcases Nat.eq_zero_or_pos xss.length with h0 | h0
  ·rw [h0];exact .inl ⟨_,_,rfl,List.length_eq_zero_iff.1 h0⟩
  ·refine .inr ⟨p,0,cap,fun j=>(Qaz 2 vs j).getD 1 (.slice none 0 0),rfl,Qa1 hc.row,h0,fun j hj=>?_⟩;obtain ⟨x,e0,e1,hE⟩:=TB.two (hc.el j hj);have c0:=hc.cell j 0 hj (by omega);have c1:=hc.cell j 1 hj (by omega);have ex:(Qaz 2 vs j).getD 1 (.slice none 0 0)=x:=by simp [List.getD,e1]
   show W.cell? ⟨p,0+j*2,none⟩=_/\W.cell? ⟨p,0+j*2+1,none⟩=some ((Qaz 2 vs j).getD 1 (.slice none 0 0))/\Row W ((Qaz 2 vs j).getD 1 (.slice none 0 0)) _
   rw [ex,Nat.zero_add];exact ⟨c0.trans e0,c1.trans e1,hE.row⟩
theorem Qll (Nn:Nat) (ps:List Int) (zss:List (List Int)) (v u:Value) (w:World) (hv:Row w v ps) (h1:Qdq w u zss) (hN:1≤Nn∧Nn≤16) (hps:1≤ps.length∧ps.length≤6) (hG:Gr Nn ps zss) :
  Calls Tryz.prog 23 #[.agg #[.int .i64 Nn,v],u] w fun e w'=>∃v',e=.returned v'/\Old w w'/\Q2p w' v' (whB Nn ps zss) (whX Nn ps zss):=by
 obtain ⟨i0,hi,hz0,hz1,hz2⟩:=info_parts Tryz.infoInt;obtain ⟨j0,ji,jz0,jz1,jz2⟩:=info_parts Tryz.infoL2W;obtain ⟨ep,hb⟩:=hG.ps;have hzl:=hG.len;obtain ⟨a0,c0,ev⟩:=hv.slice;obtain ⟨a1,cap1,e1⟩:=h1.slice;rw [hzl] at e1;subst ev e1;obtain ⟨pz,hpz⟩:∃pz,pz=toI (dig (Qaf (pnN ps))):=⟨_,rfl⟩
 obtain ⟨cz,hcz⟩:∃cz:Nat->List Int,∀i,cz i=toI (dig (coN (cqN zss i) (pnN ps))):=⟨_,fun i=>rfl⟩
 have HPR:Hid (∀W,Old w W->Calls Tryz.prog 46 #[.slice a0 ps.length c0] W fun e w'=>∃v',e=.returned v'/\Old W w'/\Row w' v' pz):=fun W g=>by rw [hpz];exact Qek (pnN ps) _ W (by rw [<- ep];exact hv.old g) hb.len6 hb.hi
 have HCP:Hid (∀i,i<Nn->∀W v',Old w W->Row W v' (Qlf zss i)->Calls Tryz.prog 48 #[v',.slice a0 ps.length c0] W fun e w'=>∃v2,e=.returned v2/\Old W w'/\Own w' W.heap.size v2 (cz i)):=fun i hi W v' g hr=>by
  obtain ⟨e1,hR⟩:=hG.col i hi;rw [hcz i];exact Qle (cqN zss i) (pnN ps) v' _ W (by rw [<- e1];exact hr) (by rw [<- ep];exact hv.old g) hR
 have HCT:Hid (∀i,i<Nn->∀W x y base,Own W base x (cz i)->base<=W.heap.size->Row W y pz->Calls Tryz.prog 47 #[x,y] W fun e w'=>∃v3,e=.returned (.agg #[.bool ((whB Nn ps zss).getD i false),v3])/\Old W w'/\Own w' base v3 ((whX Nn ps zss).getD i [])):=fun i hi W x y base hx hbase hy=>by
  obtain ⟨e1,hR⟩:=hG.col i hi;rw [Qlh Nn ps zss i hi,Qli Nn ps zss i hi];rw [hcz i] at hx;rw [hpz] at hy
  have hc2:cnt (coN (cqN zss i) (pnN ps)*2)<=8:=by
   refine Qb4 ?_
   have h1:=cnt_lt (coN (cqN zss i) (pnN ps));have h3:=Nat.pow_le_pow_right Qa2 (Qc8 hR);have h4:LB^8=LB^7*LB:=Nat.pow_succ ..;have h5:LB^7*2<=LB^7*LB:=Nat.mul_le_mul_left _ (by decide);omega
  exact Qo6 (coN (cqN zss i) (pnN ps)) (Qaf (pnN ps)) base x y W hx hbase hy (Nat.le_trans (Qc8 hR) (by omega)) (Nat.le_trans hb.cnt (by omega)) (Nat.le_trans hc2 (by omega)) (Nat.mod_lt _ (Nat.pos_of_ne_zero hb.pos))
 have HRL:=Qaa (fun j hj=>(hG.row j hj).1);have HCG:Hid (∀i j,j<ps.length->(Qlf zss i).getD j 0=(zss.getD j []).getD i 0):=fun i j hj=>Qhc zss i j (by omega)
 have HCL:Hid (∀i,(Qlf zss i).length=ps.length):=fun i=>by rw [Qf2,hzl]
 have HBL:(whB Nn ps zss).length=(whX Nn ps zss).length:=by rw [Q1o,Qlg]
 have HXL:=Qaa (Qlg Nn ps zss);rcases h1 with ⟨a,cap,e,e'⟩ | ⟨b1,o1,cap,us1,e_1,hb1,h01,hc1⟩
 ·subst e';simp at hzl;omega
 simp only [Value.slice.injEq] at e_1;obtain ⟨rfl,hle1,rfl⟩:=e_1;clear hle1;have HC1:Hid (∀j,j<ps.length->w.cell? ⟨b1,o1+j,none⟩=some (us1 j)/\Row w (us1 j) (zss.getD j [])):=fun j hj=>hc1 j (by omega)
 have HAO:Hid (Old w (w.alloc (.cells #[.int .i64 Nn,.slice a0 ps.length c0] 52))):=(Old.refl w).alloc _;have BA:Hid (Bk (w.alloc (.cells #[.int .i64 Nn,.slice a0 ps.length c0] 52)) w.heap.size #[.int .i64 Nn,.slice a0 ps.length c0] 52):=Bk.new' w _ _ rfl
 have HFI:Hid (∀W v',Ows (TS 57 2 Nn (elW (whB Nn ps zss) (whX Nn ps zss))) W w.heap.size W.heap.size [v']->Q2p W v' (whB Nn ps zss) (whX Nn ps zss)):=fun W v' h2=>by
  obtain ⟨_,B,hT,_⟩:=h2;refine TSW.rowW (T:=57) (B:=B) HBL ?_
  rw [Qlg];exact hT
 have HEL:Hid (∀k,elW (whB Nn ps zss) (whX Nn ps zss) k=TB ((whB Nn ps zss).getD k false) (TI ((whX Nn ps zss).getD k []))):=fun k=>rfl
 have HGD:Hid (∀j,GoodT (elW (whB Nn ps zss) (whX Nn ps zss) j)):=Qp9 _ _;generalize elW (whB Nn ps zss) (whX Nn ps zss)=Es at *;generalize whB Nn ps zss=bs at *;generalize whX Nn ps zss=yss at *;clear hc1 hv hG hb ep hzl HBL hpz hcz;go_enter Tryz.func23,Tryz.ntmps23;go_wp2_with fail;refine (HPR.out _ HAO.out).mono ?_
 rintro e w1 ⟨vq,rfl,g1,rq⟩;obtain ⟨aq,cq,rfl⟩:=rq.slice;have RQ:=Qaa rq;have HG1:=Qaa (Old.trans HAO.out g1);have B1:=Qaa (BA.out.old g1);clear g1 rq;go_wp2_with fail
 go_loopw [6,7] (fun x i W=>∃(k:Nat) (a:Option Addr) (c:Nat),k<=Nn/\i=.int .i64 k/\x=.slice a k c/\Hid (Ows (TS 57 2 k Es) W w1.heap.size W.heap.size [.slice a k c])/\Hid (Old w1 W)) (fun _ i _=>Nn - (intOf i).toNat)
 case atStart=>exact ⟨0,none,0,by omega,rfl,rfl,Ows.nil (Nat.le_refl _),Old.refl _⟩
 case round=>
  obtain ⟨k,a,c,hk,rfl,rfl,HO,HG2⟩:=hrel;have HGW:=Qaa (Old.trans HG1.out HG2.out);have B2:=Qaa (B1.out.old HG2.out);have z0:=B2.out.c (i:=0) rfl;have z1:=B2.out.c (i:=1) rfl;have hsw1:=HG2.out.size
  by_cases hlt:k<Nn
  ·have ilt:(k:Int)<(Nn:Int):=by omega
   have kcp:=HCP.out k hlt;have kct:=HCT.out k hlt
   have HT:Hid (∀j,j<ps.length->(Qlf zss k).take (j+1)=(Qlf zss k).take j++[(zss.getD j []).getD k 0]):=fun j hj=>by
    rw [Qeq _ _ (by rw [HCL.out k];exact hj),HCG.out k j hj]
   have HTL:=Qaa (HCL.out k);generalize Qlf zss k=zs at *;generalize cz k=czk at *
   rename World=>wq
   go_wp2_with fail
   go_loopw [8,22,9] (fun x i _ W=>∃(j:Nat) (ra:Option Addr) (rc:Nat),j<=ps.length/\i=.int .i64 j/\x=.slice ra j rc/\Hid (Own W wq.heap.size (.slice ra j rc) (zs.take j))/\Hid (Old wq W)) (fun _ i _ _=>ps.length - (intOf i).toNat)
   case atStart=>exact ⟨0,none,0,by omega,rfl,rfl,(by exact Qd1 _ _),Old.refl _⟩
   case round=>
    obtain ⟨j,ra,rc,hj,rfl,rfl,HO2,HG3⟩:=hrel;have hs2:=HG3.out.size;have HGX:=Qaa (Old.trans HGW.out HG3.out)
    by_cases hjl:j<ps.length
    ·have jlt:(j:Int)<(ps.length:Int):=by omega
     obtain ⟨p1,p2⟩:=HC1.out j hjl;have hrl:=HRL.out j hjl;rcases p2 with ⟨x,y,e,e'⟩ | ⟨b3,o3,cap3,e,hb3,h03,hc3⟩
     ·rw [e'] at hrl;simp at hrl;omega
     have q1:=((HGX.out.cell (p:=⟨b1,o1+j,none⟩) hb1).trans p1).trans (by rw [e,hrl]);have q2:=(HGX.out.cell (p:=⟨b3,o3+k,none⟩) hb3).trans (hc3 k (by omega));have htk:(zs.take j).length=j:=by rw [List.length_take];have:=HTL.out;omega
     have HT2:=Qaa (HT.out j hjl);clear p1 e hc3 hrl h03;generalize (zss.getD j []).getD k 0=q at *;go_wp2_with (at_builtin;go_loud (refine wpList_append_own _ rfl _ _ 22 rfl wq.heap.size 3 i0 (.int .i64 0) 1 8 Tryz.underlying22 hi hz0 hz1 hz2 rfl (by decide) _ _ _ rfl (by have:=HO2.out.alloc (.cells #[.int .i64 q] 3);unfold Own at this;rw [htk] at this;exact this) ⟨wr.heap.size,0,none⟩ 1 1 [.int .i64 q] rfl rfl (one_cell _ _ _) (one_one _) (by unfold maxLen;omega) (by omega) (by simp;omega) ?_;intro v5 w5 o5 g5 x5;have O5:Hid (Own w5 wq.heap.size v5 (zs.take (j+1))):=(by have:=HT2.out;show Own _ _ _ _;rw [this];exact Own.snoc (by rw [htk];exact o5));have G5:Hid (Old wq w5):=Below.grown (HG3.out.alloc (.cells #[.int .i64 q] 3)) g5 (HG3.out.alloc (.cells #[.int .i64 q] 3)).size (fun j hj=>(HO2.out.lt j hj).1);clear o5 g5 x5));obtain ⟨a5,cap5,rfl⟩:=(Own.row O5.out).slice;have htk1:(zs.take (j+1)).length=j+1:=by rw [List.length_take];have:=HTL.out;omega
     rw [htk1] at O5 ⊢;exact ⟨⟨j+1,_,_,by omega,by go_num,rfl,O5,G5⟩,by simp [intOf];omega⟩
    ·have d2:decide ((j:Int)<(ps.length:Int))=false:=by simp;omega
     obtain rfl:j=ps.length:=by omega
     have RZ:Hid (Row wr (.slice ra ps.length rc) zs):=by
      have:=HO2.out;rw [List.take_of_length_le (by have:=HTL.out;omega)] at this;exact Own.row this
     have z1':wr.cell? ⟨w.heap.size,1,none⟩=some (.slice a0 ps.length c0):=(B2.out.old HG3.out).c (i:=1) rfl
     clear HO2;go_wp2_with fail;refine (kcp _ _ HGX.out RZ.out).mono ?_
     rintro e w3 ⟨v3,rfl,g3,r3⟩;obtain ⟨x3,y3,rfl⟩:=(Own.row r3).slice;have R3:=Qaa r3;have G3:=Qaa (Old.trans HG3.out g3);have hs3:=g3.size;clear g3 r3;go_wp2_with fail;refine (kct _ _ _ wr.heap.size R3.out hs3 (RQ.out.old (Old.trans HG2.out G3.out))).mono ?_
     rintro e w4 ⟨v4,rfl,g4,r4⟩;obtain ⟨x4,y4,rfl⟩:=(Own.row r4).slice;have HEK:=Qaa (HEL.out k);generalize bs.getD k false=sg at *;generalize yss.getD k []=xs at *;have G4:=Old.trans G3.out g4;obtain ⟨B,hTI,hBlo⟩:=TI.of r4
     have HAP:Hid (∀o1:Obj,∃vs,(w4.alloc o1).ownsRow 0 57 2 (.slice a k c) k vs/\(∀b,(Value.slice a k c).ownBlock=some b->w1.heap.size<=b)/\∀v' w',w'.ownsRow 0 57 2 v' (k+1) (vs++[.bool sg,.slice x4 xs.length y4])->(w4.alloc o1).grownBy w' (Value.slice a k c).ownBlock->(v'.ownBlock=(Value.slice a k c).ownBlock∨v'.ownBlock=some (w4.alloc o1).heap.size)->Ows (TS 57 2 (k+1) Es) w' w1.heap.size w'.heap.size [v']):=fun o1=>by
      have hE:TB sg (TI xs) (w4.alloc o1) B [.bool sg,.slice x4 xs.length y4]:=⟨_,rfl,(Qcr xs).far hTI (fun b hb=>((Old.refl w4).alloc o1).block b ((Qcr xs).lt hTI b hb))⟩;obtain ⟨vs,p1,p2,p3⟩:=Ows.app HGD.out (Qso sg (Qcr xs)) HO.out hsw1 (G4.alloc o1) hE (fun b hb=>by have:=hBlo b hb;omega) rfl;refine ⟨vs,p1,p2,fun v' w' q1 q2 q3=>?_⟩;obtain ⟨hh,B',hT',hB'⟩:=p3 v' w' q1 q2 q3;exact ⟨hh,B',TS.ext (fun j hj=>by by_cases e:j=k <;> simp [e,HEK.out]) hT',hB'⟩
     obtain ⟨vs,p1,p2,p3⟩:=HAP.out (.cells #[.bool sg,.slice x4 xs.length y4] 57);have P1:=Qaa p1;have P2:=Qaa p2;have P3:=Qaa p3;have HGA:Hid (Old w1 (w4.alloc (.cells #[.bool sg,.slice x4 xs.length y4] 57))):=(Old.trans HG2.out G4).alloc _;have HNW:Hid (∀(j:Nat) (u:Value),[Value.bool sg,.slice x4 xs.length y4][j]? = some u->(w4.alloc (.cells #[.bool sg,.slice x4 xs.length y4] 57)).cell? ((⟨w4.heap.size,0,none⟩:Addr).add j)=some u):=Qxi _ _ _ _ rfl;clear p1 p2 p3 HAP HO g4 r4 hTI hBlo HEK G4;go_wp2_with (at_builtin;go_loud (refine wpList_append_own_at _ rfl _ _ 49 rfl 0 57 j0 (.agg #[.bool false,.slice none 0 0]) 2 32 Tryz.underlying49 ji jz0 jz1 jz2 rfl (by decide) _ _ _ rfl P1.out ⟨w4.heap.size,0,none⟩ 1 1 [.bool sg,.slice x4 xs.length y4] rfl rfl HNW.out (by simp [Value.oneCell']) (by unfold maxLen;omega) (by omega) (Nat.zero_le _) ?_;intro v5 w5 o5 g5 x5 l5;have O5:=Qaa (P3.out v5 w5 o5 g5 l5);have G5:Hid (Old w1 w5):=Below.grown HGA.out g5 HGA.out.size (fun j hj=>P2.out j hj);clear o5 g5 x5 l5));obtain ⟨a5,c5,rfl⟩:∃a c,v5=.slice a (k+1) c:=by obtain ⟨_,B5,hT5,_⟩:=O5.out;exact TS.slice hT5
     exact ⟨⟨k+1,a5,c5,by omega,by go_num,rfl,O5,G5⟩,by simp [intOf];omega⟩
  ·have d1:decide ((k:Int)<(Nn:Int))=false:=by simp;omega
   obtain rfl:k=Nn:=by omega
   have HE:=Qaa (HFI.out _ _ (HO.out.low HG1.out.size (Nat.le_refl _) (Nat.le_refl _)));go_wp2_with fail;go_ret;exact ⟨_,rfl,HGW.out,HE.out⟩
theorem Q2p.at {Nn:Nat} {ps:List Int} {zss:List (List Int)} {W:World} {v:Value} (h0:0<Nn) (hG:Gr Nn ps zss) (h:Q2p W v (whB Nn ps zss) (whX Nn ps zss)) :
  ∃b o cap,v=.slice (some ⟨b,o,none⟩) Nn cap/\b<W.heap.size/\∀k,k<Nn->∃a c,W.cell? ⟨b,o+k*2,none⟩=some (.bool (ng (ctZ ps zss k)))/\W.cell? ⟨b,o+k*2+1,none⟩=some (.slice a (dg (ctZ ps zss k)).length c)/\Row W (.slice a (dg (ctZ ps zss k)).length c) (toI (dg (ctZ ps zss k))):=by
 have hl:=Qlg Nn ps zss;obtain ⟨_,⟨a,cap,e,e2⟩ | ⟨b,o,cap,us,e,hb,_,hc⟩⟩:=h
 ·rw [e2] at hl;simp at hl;omega
 ·rw [hl] at e hc;refine ⟨b,o,cap,e,hb,fun k hk=>?_⟩;obtain ⟨q0,q1,r⟩:=hc k hk;obtain ⟨f1,f2⟩:=Qlj hG k hk;rw [Qlh Nn ps zss k hk,← f1] at q0;rw [Qli Nn ps zss k hk,← f2] at r;obtain ⟨a,c,e3⟩:=r.slice;have hz:(toI (dg (ctZ ps zss k))).length=(dg (ctZ ps zss k)).length:=by simp [toI]
  rw [hz] at e3;rw [e3] at q1 r;exact ⟨a,c,q0,q1,r⟩
theorem Qno (N T E:Int) (ps:List Int) (xsss:List (List (List Int))) (ss:List Int) (v u u2:Value) (w:World) (lo hi:Nat) (hv:Row w v ps) (hf:Fit v) (hu:Ows (TTT xsss) w lo hi [u]) (hu2:Row w u2 ss) (hl2:ss.length≤9223372036854775807) (hlp:ps.length≤9223372036854775807) (hx:∀x∈ps,-9223372036854775808≤x∧x≤9223372036854775807) (hl:xsss.length≤1048576) (hr:∀r∈xsss,r.length≤1048576∧∀q∈r,q.length≤1048576) (Z:List Int) (ok:Bool) (hy:(prB N T E ps&&ciB N ps xsss&&wiB N 1 ss)=true→Z=Qy7 N.toNat T ps (Qie N.toNat ps xsss (smS ps ss))∧ok=true) (hn:(prB N T E ps&&ciB N ps xsss&&wiB N 1 ss)=false→Z=[]∧ok=false) :
  Calls Tryz.prog 6 #[.agg #[.int .i64 N,.int .i64 T,.int .i64 E,v],u2,.agg #[u]] w (LbD w Z ok):=by
 have HY:=Qaa hy;have HNN:=Qaa hn;clear hy hn;obtain ⟨Rf,hRb⟩:=Qp3 N ps
 have HRB:Hid (∀Nn:Nat,N=Nn->spB N ps=true->RtS Nn ps Rf):=fun Nn e hs=>by
  subst e;exact Qyr hRb hs
 have HU:=Qaa hu;have HU2:=Qaa hu2;have HV:Hid (Row w v ps/\Fit v):=⟨hv,hf⟩;have K1:=Qaa (fun W (g:Old w W)=>Qhw N T E ps ss v u2 W (hv.old g) hf (hu2.old g) hlp hl2 hx);have K2:=Qaa (fun (hs:spB N ps=true) W (g:Old w W)=>Qmx N T E ps xsss v u W (hv.old g) (hu.rowT.old g) hl hr hs);obtain ⟨a0,c0,rfl⟩:=hv.slice;obtain ⟨a1,c1,rfl⟩:=hu.rowT.slice;obtain ⟨sa,sc,rfl⟩:=hu2.slice;obtain ⟨lx,hlx⟩:∃l,xsss.length=l:=⟨_,rfl⟩
 rw [hlx] at HU K2 ⊢;clear hv hf hu hu2 hRb hr hx hlx hl hlp;obtain ⟨B1,hB1⟩:∃B:World,(w.alloc (.cells #[.int .i64 N,.int .i64 T,.int .i64 E,.slice a0 ps.length c0] 32)).alloc (.cells #[.slice a1 lx c1] 35)=B:=⟨_,rfl⟩
 have O1:Hid (Old w B1):=by rw [<- hB1];exact ((Old.refl w).alloc _).alloc _
 have P1:Hid (Bk B1 w.heap.size #[.int .i64 N,.int .i64 T,.int .i64 E,.slice a0 ps.length c0] 32):=by rw [<- hB1];exact (Bk.new' w _ _ rfl).alloc _
 have C1:Hid (Bk B1 (w.heap.size+1) #[.slice a1 lx c1] 35):=by rw [<- hB1];exact Bk.new' _ _ _ (by simp)
 obtain ⟨kp,hkp⟩:∃kp,w.heap.size=kp:=⟨_,rfl⟩
 have HKP:=Qaa hkp;rw [hkp] at P1 C1;have x0:=P1.out.c (i:=0) rfl;have x1:=P1.out.c (i:=1) rfl;have x2:=P1.out.c (i:=2) rfl;have x3:=P1.out.c (i:=3) rfl
 cases hB:prB N T E ps&&wiB N 1 ss
 ·rw [hB] at K1
  have HB:=Qaa (HNN.out (by
   cases h1:prB N T E ps <;> rw [h1] at hB <;> simp_all))
  clear hB;go_enter Tryz.func6,Tryz.ntmps6;go_wp2_with fail;refine (K1.out _ O1.out).mono ?_
  rintro e w2 ⟨rfl,g2⟩;have G2:=Qaa (Old.trans O1.out g2);clear g2 x0 x1 x2 x3 hB1 hkp;go_wp2_with fail
  go_ret2
  rw [HB.out.1,HB.out.2];exact ⟨_,rfl,G2.out,Qd1 _ _⟩
 rw [hB] at K1;rw [Bool.and_eq_true] at hB;obtain ⟨hpr,hwi⟩:=hB;have hsp:=Quh hpr;have K2':=Qaa (K2.out hsp);clear K2
 cases hC:ciB N ps xsss
 ·rw [hC] at K2';have HB:=Qaa (HNN.out (by rw [hpr,hC];rfl));clear hC hpr hwi hsp;go_enter Tryz.func6,Tryz.ntmps6;go_wp2_with fail;refine (K1.out _ O1.out).mono ?_
  rintro e w2 ⟨rfl,g2⟩;have G2:=Qaa (Old.trans O1.out g2);have P2:=Qaa (P1.out.old g2);have C2:=Qaa (C1.out.old g2);clear g2 x0 x1 x2 x3 hB1 hkp P1 C1;have x0:=P2.out.c (i:=0) rfl;have x1:=P2.out.c (i:=1) rfl;have x2:=P2.out.c (i:=2) rfl;have x3:=P2.out.c (i:=3) rfl;have y0:=C2.out.c (i:=0) rfl;go_wp2_with fail;refine (K2'.out _ G2.out).mono ?_
  rintro e w3 ⟨rfl,g3⟩;have G3:=Qaa (Old.trans G2.out g3);clear g3 x0 x1 x2 x3 y0;go_wp2_with fail
  go_ret2
  rw [HB.out.1,HB.out.2];exact ⟨_,rfl,G3.out,Qd1 _ _⟩
 rw [hC] at K2';obtain ⟨eZ,eo⟩:=HY.out (by rw [hpr,hC,hwi];rfl);subst eo;obtain ⟨hz4,hbb,_⟩:=Qdm hsp;obtain ⟨Nn,rfl⟩:∃Nn:Nat,N=(Nn:Int):=⟨N.toNat,by omega⟩
 rw [show ((Nn:Int).toNat)=Nn by omega] at eZ;obtain ⟨hsl,hsv⟩:=Qq3 hwi;obtain ⟨qs,eqs,hbs⟩:=Qkk hbb;have hqs:pnN ps=qs:=by unfold pnN;rw [eqs];exact Qk2 qs
 have hpb:=fun k hk=>Qs8 ((Qdc hbb).2 k hk)
 have hps:=(Qdc hbb).1;have hS4:Sz4 Nn:=by unfold Sz4;omega
 have HGR:Hid (Gr Nn ps (Qie Nn ps xsss (smS ps ss))):=Qy5 hbb Qqv (Qus hpb hC);have HTT:=Qaa (Q22 hpr);have HNB:=Qaa (show 2<=Nn/\Nn<=16 by omega);have HRT:=HRB.out Nn rfl hsp;have K3:=Qaa (fun W (g:Old w W)=>Qxy (Nn:Int) T E qs a0 ps.length c0 W (by rw [<- eqs];exact HV.out.1.old g) hbs);have K4:=Qaa (fun W (g:Old w W)=>Qm5 Nn T E ps Rf xsss ss (.slice a0 ps.length c0) (.slice a1 lx c1) (.slice sa ss.length sc) W lo hi (HV.out.1.old g) (Ows.old (Qfp xsss) HU.out g) (HU2.out.old g) hS4 hps hpb HRT hC hsl (fun i hi=>by have:=hsv i hi;omega));have K5:=Qaa (fun W u (g:Old w W) (h:Qdq W u (Qie Nn ps xsss (smS ps ss)))=>Qll Nn ps (Qie Nn ps xsss (smS ps ss)) (.slice a0 ps.length c0) u W (HV.out.1.old g) h (by omega) hps HGR.out);have KS:=Qaa (fun W=>Qbu (Nn:Int) T E a0 ps.length c0 W);have HQP:Hid (0<Qaf qs/\(dig (Qaf qs)).length<=7):=⟨Qgl hbs,hbs.cnt⟩;have HL:=Qaa (fun k hk=>Qy6 HGR.out k hk)
 have HLN:Hid (Z.length=Nn/\∀k,k<Nn->Z.getD k 0=Qd7 (ctZ ps (Qie Nn ps xsss (smS ps ss)) k*T) (Qaf qs)%T):=by
  rw [eZ];exact ⟨Qlk _ _ _ _,fun k hk=>by rw [Qq2 _ _ _ _ k hk,hqs]⟩
 generalize Qie Nn ps xsss (smS ps ss)=U at *;clear hC hpr hwi hsp eZ hz4 hbb hsl hsv eqs hbs hqs hpb hps hS4 HRT HY HNN HRB HU;go_enter Tryz.func6,Tryz.ntmps6;go_wp2_with fail;refine (K1.out _ O1.out).mono ?_
 rintro e w2 ⟨rfl,g2⟩;have G2:=Qaa (Old.trans O1.out g2);have P2:=Qaa (P1.out.old g2);have C2:=Qaa (C1.out.old g2);clear g2 x0 x1 x2 x3 hB1 hkp P1 C1 K1 O1;have x0:=P2.out.c (i:=0) rfl;have x1:=P2.out.c (i:=1) rfl;have x2:=P2.out.c (i:=2) rfl;have x3:=P2.out.c (i:=3) rfl;have y0:=C2.out.c (i:=0) rfl;go_wp2_with fail;refine (K2'.out _ G2.out).mono ?_
 rintro e w3 ⟨rfl,g3⟩;have G3:=Qaa (Old.trans G2.out g3);have P3:=Qaa (P2.out.old g3);have C3:=Qaa (C2.out.old g3);clear g3 x0 x1 x2 x3 y0 P2 C2 G2 K2';have x0:=P3.out.c (i:=0) rfl;have x1:=P3.out.c (i:=1) rfl;have x2:=P3.out.c (i:=2) rfl;have x3:=P3.out.c (i:=3) rfl;go_wp2_with fail;refine (K3.out _ G3.out).mono ?_
 rintro e w4 ⟨q4,rfl,g4,r4⟩;obtain ⟨qa,qc,eq4⟩:=r4.sliceN;subst eq4;obtain ⟨ql,hql⟩:∃k,(dig (Qaf qs)).length=k:=⟨_,rfl⟩
 have R4:=Qaa r4;rw [hql] at R4 ⊢;have G4:=Qaa (Old.trans G3.out g4);have P4':=Qaa (P3.out.old g4);have C4:=Qaa (C3.out.old g4);clear g4 r4 hql x0 x1 x2 x3 P3 C3 G3 K3;go_wp2_with fail;have HAS:Hid (∀W',Old w4 W'->W'.cell? ⟨kp,0,none⟩=some (.int .i64 (Nn:Int))/\W'.cell? ⟨kp,1,none⟩=some (.int .i64 T)/\W'.cell? ⟨kp,2,none⟩=some (.int .i64 E)/\W'.cell? ⟨kp,3,none⟩=some (.slice a0 ps.length c0)/\W'.cell? ⟨kp+1,0,none⟩=some (.slice a1 lx c1)):=fun W' q=>⟨(P4'.out.old q).c (i:=0) rfl,(P4'.out.old q).c (i:=1) rfl,(P4'.out.old q).c (i:=2) rfl,(P4'.out.old q).c (i:=3) rfl,(C4.out.old q).c (i:=0) rfl⟩
 obtain ⟨v0,v1,v2,v3,v4⟩:=HAS.out _ (Old.refl w4)
 go_region_held3 (fun W'=>W'.cell? ⟨kp,0,none⟩=some (.int .i64 (Nn:Int))/\W'.cell? ⟨kp,1,none⟩=some (.int .i64 T)/\W'.cell? ⟨kp,2,none⟩=some (.int .i64 E)/\W'.cell? ⟨kp,3,none⟩=some (.slice a0 ps.length c0)/\W'.cell? ⟨kp+1,0,none⟩=some (.slice a1 lx c1)) (first | with_reducible exact HAS.out _ GC.out | with_reducible exact HAS.out _ GB.out | with_reducible exact HAS.out _ GA.out | with_reducible exact HAS.out _ (Below.drew (Old.refl w4)) | with_reducible exact HAS.out _ (Old.refl w4) | fail) (first
  | (go_at_call 23;refine (K5.out _ _ (Old.trans G4.out GB.out) VB.out).mono ?_;rintro e w6 ⟨u6,rfl,g6,h6⟩;obtain ⟨b,o,cap,rfl,hb6,hc6⟩:=h6.at (by have:=HNB.out;omega) HGR.out;have GC:=Qaa (Old.trans GB.out g6);have HC6:=Qaa hc6;clear g6 h6 hc6)
  | (go_at_call 25;refine (K4.out _ (Old.trans G4.out GA.out)).mono ?_;rintro e wb' ⟨ub,rfl,gb,ob⟩;obtain ⟨_,_,rfl⟩:=ob.rs.slice;have GB:=Qaa (Old.trans GA.out gb);have VB:=Qaa ob.rs;clear gb ob)
  | (go_at_call 24;refine (KS.out _).mono ?_;rintro e wa ⟨rfl,ga⟩;have GA:=Qaa (Old.trans (Below.drew (Old.refl w4)) ga);clear ga)
  | fail)
 have G6:=Qaa (Old.trans G4.out GC.out);have P6:=Qaa (P4'.out.old GC.out);have R6:=Qaa (R4.out.old GC.out);clear G4 P4' R4 C4 K4 K5 KS HGR HAS GA GB GC VB v0 v1 v2 v3 v4;have hNN:=HNB.out.2;go_wp2_with fail
 go_loopw [32,9,11] (fun i v _ W=>∃(k:Nat) (ra:Option Addr) (rc:Nat),k<=Nn/\i=.int .i64 k/\v=.slice ra k rc/\Hid (Own W w6.heap.size (.slice ra k rc) (Z.take k))/\Hid (Old w6 W)) (fun i _ _ _=>Nn - (intOf i).toNat)
 case atStart=>exact ⟨0,none,0,by omega,rfl,rfl,Qd1 _ _,Old.refl _⟩
 case round=>
  obtain ⟨k,ra,rc,hk,rfl,rfl,HO,HG⟩:=hrel
  by_cases hlt:k<Nn
  ·obtain ⟨a8,c8,q0,q1,hrz⟩:=HC6.out k hlt;have q0':=(HG.out.cell (p:=⟨b,o+k*2,none⟩) hb6).trans q0;have q1':=(HG.out.cell (p:=⟨b,o+k*2+1,none⟩) hb6).trans q1;have hl7:=HL.out k hlt;have hZk:=HLN.out.2 k hlt;have hrz':=hrz.old HG.out;obtain ⟨z,hz⟩:∃z,ctZ ps U k=z:=⟨_,rfl⟩
   rw [hz] at q0' q1' hrz' hl7 hZk;have HRZ:Hid (Rz z wr (.agg #[.bool (ng z),.slice a8 (dg z).length c8])):=⟨a8,c8,rfl,hrz'⟩;obtain ⟨nb,hnb⟩:∃nb,ng z=nb:=⟨_,rfl⟩
   obtain ⟨l8,hl8⟩:∃l8,(dg z).length=l8:=⟨_,rfl⟩
   rw [hnb] at q0' HRZ;rw [hl8] at q1' HRZ;have HL8:=Qaa hl7;have HZK:=Qaa hZk;have iL:(k:Int)<(Nn:Int):=by omega
   obtain ⟨B8,hB8⟩:∃B:World,wr.alloc (.cells #[.bool nb,.slice a8 l8 c8] 57)=B:=⟨_,rfl⟩
   have O8:Old wr B8:=by rw [<- hB8];exact (Old.refl wr).alloc _
   have Y8:Hid (Bk B8 wr.heap.size #[.bool nb,.slice a8 l8 c8] 57):=by rw [<- hB8];exact Bk.new' wr _ _ rfl
   have X8:=Qaa ((P6.out.old HG.out).old O8);have R8:=Qaa (HRZ.out.old O8);have Q8:=Qaa ((R6.out.old HG.out).old O8);have W8:=Qaa (HO.out.old O8);have G8:=Qaa (Old.trans HG.out O8);obtain ⟨wb,hwb⟩:∃wb,wr.heap.size=wb:=⟨_,rfl⟩
   rw [hwb] at Y8;have hw6:=G8.out.size;have htk:(Z.take k).length=k:=by rw [List.length_take];have:=HLN.out.1;omega
   have HT3:Hid (Z.take (k+1)=Z.take k++[Z.getD k 0]):=by
    show _ = _
    rw [List.take_add_one];have:k<Z.length:=by have:=HLN.out.1;omega
    simp [List.getD,this]
   clear q0 q1 hrz hrz' hl7 hZk hz hnb hl8 O8 HRZ HO HG;go_wp2_with fail;refine Q28 B8 (Nn:Int) T E a0 ps.length c0 kp wb nb a8 l8 c8 qa ql qc ra k rc (Z.getD k 0) (fun W u=>Rz T W u) (fun W u=>Rz (z*T) W u) (fun W u=>Rz (Qd7 (z*T) (Qaf qs)) W u) (fun W W' u h q=>h.old q) (fun W W' u h q=>h.old q) (fun W W' u h q=>h.old q) X8.out Y8.out (by omega) w6.heap.size hw6 (fun W v=>Own W w6.heap.size v (Z.take (k+1))/\Old w6 W) (fun W q=>?_) (fun W q=>?_) (fun W q u hu=>?_) (fun W q u hu=>?_) (fun W q u hu=>?_) _ _ ?_ ?_ ?_ ?_ ?_ ?_
   ·have h5:=W8.out.old q;unfold Own at h5;rw [htk] at h5;refine ⟨_,h5,fun v' w' o5 g5=>⟨?_,Below.grown (Old.trans G8.out q) g5 (Old.trans G8.out q).size (fun i hi=>(W8.out.lt i hi).1)⟩⟩;rw [HT3.out];exact Own.snoc (by rw [htk];exact o5)
   ·refine (Q4t T W (by have:=HTT.out;omega) (by have:=HTT.out;omega)).mono fun e w' h=>?_
    obtain ⟨u',e1,e2,e3⟩:=h;exact ⟨u',e1,e2,e3.rz⟩
   ·refine (Q1l z T _ u W (R8.out.old q) hu (by have:=HL8.out;omega) (Nat.le_trans (Qfw T (by have:=HTT.out;omega) (by have:=HTT.out;omega)) (by omega))).mono fun e w' h=>?_
    obtain ⟨u',e1,e2,e3⟩:=h;exact ⟨u',e1,e2,e3.rz⟩
   ·refine (Q3j (z*T) (Qaf qs) u _ W hu (Q8.out.old q) HQP.out.1 (Nat.le_trans (Qig HL8.out (by have:=HTT.out;omega)) (by omega)) (Nat.le_trans HQP.out.2 (by omega))).mono fun e w' h=>?_
    obtain ⟨u',e1,e2,e3⟩:=h;exact ⟨u',e1,e2,e3.rz⟩
   ·obtain ⟨Tn,hTn⟩:∃Tn:Nat,T=Tn:=⟨T.toNat,by have:=HTT.out;omega⟩
    have hT2:=HTT.out;have h:=Qxw (Qd7 (z*T) (Qaf qs)) Tn u W hu (Nat.le_trans (Qo9 (Qig HL8.out (by omega)) HQP.out.1) (by omega)) (by omega);rw [<- hTn,<- HZK.out] at h;exact h
   iterate 5 (·exact rfl)
   intro us' w9 hfin;obtain ⟨O5,G5⟩:=hfin;have HO5:=Qaa O5;have HG5:=Qaa G5;have htk1:(Z.take (k+1)).length=k+1:=by rw [List.length_take];have:=HLN.out.1;omega
   obtain ⟨a5,cap5,e5⟩:=(Own.row O5).slice;rw [htk1] at e5;simp only [Qb6,Act.put,Qem,List.range,List.range.loop,List.map_cons,List.map_nil,List.getD_cons_zero,List.getD_cons_succ,List.setIfInBounds_toArray,List.set_cons_succ,List.set_cons_zero];rw [e5] at HO5;simp only [e5];clear O5 G5 e5 htk htk1 HT3 W8 G8 X8 Y8 R8 Q8 hB8 hwb HZK hw6;go_wp2_with fail;exact ⟨⟨k+1,_,_,by omega,by go_num,rfl,HO5,HG5⟩,by simp [intOf];omega⟩
  ·have d1:decide ((k:Int)<(Nn:Int))=false:=decide_eq_false (by omega);obtain rfl:k=Nn:=by omega
   have HF:Hid (Own wr w6.heap.size (.slice ra k rc) Z):=by
    have:=HO.out;rw [List.take_of_length_le (by rw [HLN.out.1];exact Nat.le_refl _)] at this;exact this
   go_wp2_with fail
   go_ret2
   exact ⟨_,rfl,Old.trans G6.out HG.out,HF.out.low G6.out.size⟩
end Go.Proofs.YthcidnnkakppcaaGreatDoor
