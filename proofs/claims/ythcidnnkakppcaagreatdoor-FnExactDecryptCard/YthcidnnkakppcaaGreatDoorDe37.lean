/- Proved: what its theorems say. -/
import Derived.Test.YthcidnnkakppcaaGreatDoorDe36
import Derived.Test.YthcidnnkakppcaaGreatDoorDe29
import Derived.Test.YthcidnnkakppcaaGreatDoorDe39
set_option linter.unusedVariables false
set_option linter.unusedSimpArgs false
set_option maxHeartbeats 8000000
set_option maxRecDepth 100000
namespace Go.Proofs.YthcidnnkakppcaaGreatDoor
open Go.ChangeShapes Go.WideShapes Go.ChangeAt Go.RowKit
open M2
theorem Own.at0 {w:World} {base g n:Nat} {zs:List Int} (h:Own w base (.slice (some ⟨g,0,none⟩) n n) zs) (hn:zs.length=n) (h0:0<n):g<w.heap.size/\base<=g/\∀j,j<n->w.cell? ⟨g,j,none⟩=some (.int .i64 (zs.getD j 0)):=by
 have hr:=Own.row h;rcases h.2 with ⟨e,h1⟩ | ⟨g',cap',cur,e,hb,hg,_⟩
 ·omega
 ·simp only [Value.slice.injEq,Option.some.injEq,Addr.mk.injEq] at e;obtain ⟨⟨rfl,_⟩,_⟩:=e;refine ⟨(Array.getElem?_eq_some_iff.1 hg).1,hb,fun j hj=>?_⟩;rcases hr with ⟨a,c,e,e'⟩ | ⟨b,o,c,e,_,_,hc⟩
  ·subst e';simp at hn;omega
  ·simp only [Value.slice.injEq,Option.some.injEq,Addr.mk.injEq] at e;obtain ⟨⟨rfl,rfl,_⟩,_⟩:=e;have:=hc j (by omega)
   rwa [Nat.zero_add] at this
theorem Q1m (rs ps:List Nat) (v u:Value) (w:World) (hv:Row w v (toZ rs)) (hu:Row w u (toZ ps)) (hf:Fit u) (hb:Bas ps) (hrl:rs.length=ps.length) (hr:∀i,i<ps.length→rs.getD i 0<ps.getD i 0) :
  Calls Tryz.prog 133 #[v,u] w fun e w'=>e=.returned (.agg (szV (Qe2 rs ps ps.length)))/\Old w w':=by
 have hl6:=hb.len6;have hl1:=hb.len1;have csh:=fun W h1 h2=>Qr7 rs ps v u W h1 h2 hf hb hrl hr
 have HV:=Qaa hv;have HU:=Qaa hu;obtain ⟨va,vcap,rfl⟩:∃a c,v=.slice a rs.length c:=by have:=hv.slice;rwa [Qau] at this
 obtain ⟨b2,o2,cap2,rfl,hb2,hc2⟩:=hu.atZ (by omega);have HB:=Qaa hb;have HF:=Qaa hf;have HYL:Hid (∀k,k<ps.length->(toZ (yL rs ps)).getD k 0=((yN rs ps k:Nat):Int)):=fun k hk=>by rw [Qcd,Qyv _ _ _ hk]
 have HYN:Hid ((toZ (yL rs ps)).length=ps.length):=by show _ = _;rw [Qau,Qyu]
 obtain ⟨T,hT⟩:∃T,Qe2 rs ps ps.length=T:=⟨_,rfl⟩
 rw [hT];have HTT:=Qaa hT;have HLT:Hid ((pad T).length=80):=by rw [<- hT];exact Qab (Qdj hb _ (Nat.le_refl _)) (by omega)
 have HZ:Hid (Sz ((w.alloc (.cells Tryz.zeroCells103 103)).alloc (.cells Tryz.zeroCells103 103)) (w.heap.size+1) (pad 0) (cnt 0)):=by
  have e:pad 0=ext []:=by unfold pad;rw [Qax]
  show Sz _ _ _ _
  rw [e,Qda];exact Sz.zero _ _ (by simp)
 have HY:Hid (Sz ((w.alloc (.cells Tryz.zeroCells103 103)).alloc (.cells Tryz.zeroCells103 103)) w.heap.size (ext []) 0):=(Sz.zero _ _ rfl).alloc _;have HG0:Hid (Old w ((w.alloc (.cells Tryz.zeroCells103 103)).alloc (.cells Tryz.zeroCells103 103))):=((Old.refl w).alloc _).alloc _;clear hv hu hc2 hb hr hf hT hrl;unfold szV;go_enter Tryz.func133,Tryz.ntmps133;go_wp2_with fail;refine (csh _ (HV.out.old HG0.out) (HU.out.old HG0.out)).mono ?_
 rintro e w0 ⟨g0,rfl,go0,oo0⟩;have HGA:=Qaa (Old.trans HG0.out go0);have HZA:=Qaa (HZ.out.old go0);have HYA:=Qaa (HY.out.old go0)
 have hbg:g0<w0.heap.size/\w.heap.size+1+1<=g0/\∀j,j<ps.length->w0.cell? ⟨g0,j,none⟩=some (.int .i64 ((yN rs ps j:Nat):Int)):=by
  obtain ⟨h1,h2,h3⟩:=Own.at0 oo0 HYN.out (by omega);refine ⟨h1,by simpa using h2,fun j hj=>by rw [h3 j hj,HYL.out j hj]⟩
 obtain ⟨hg0,hg1,hgc⟩:=hbg;have HC1:=Qaa hgc;clear go0 oo0 HZ HY HG0 hgc csh;go_wp2_with fail
 go_loopw [12] (fun j W=>∃k:Nat,k<=ps.length/\j=.int .i64 k/\Hid (Sz W (w.heap.size+1) (pad (Qe2 rs ps k)) (cnt (Qe2 rs ps k)))/\Hid (Sz W w.heap.size (ext []) 0)/\Hid (Old w W)/\Hid (∀j,j<ps.length->W.cell? ⟨g0,j,none⟩=some (.int .i64 ((yN rs ps j:Nat):Int)))/\g0<W.heap.size) (fun j _=>ps.length - (intOf j).toNat)
 case atStart=>exact ⟨0,by omega,rfl,HZA,HYA,HGA,HC1,hg0⟩
 case round=>
  obtain ⟨k,hk,rfl,HS,HR0,HG,HC,hgw⟩:=hrel;clear HZA HYA HGA HC1
  by_cases hlt:k<ps.length
  ·have c1:=HC.out k hlt;have hyl:=Qxp (rs:=rs) HB.out hlt;have co:=fun W h3=>Qju (toZ ps) (.slice (some ⟨b2,o2,none⟩) ps.length cap2) k W h3 HF.out (by rw [Qau];exact hlt) (by rw [Qau];omega)
   rw [Quv] at co;have cp:=fun v' W h3=>Qb8 (oth ps k) v' W h3 (Nat.le_trans (Quw ps k) hl6) (fun p hp=>HB.out.hi p (Qo2 hp))
   have cs:=fun W=>Qc7 (Qaf (oth ps k)) (yN rs ps k) 0 W (Nat.le_trans (Quz HB.out hlt) (by omega)) (by omega) (by omega)
   rw [Nat.add_zero] at cs;have cd:=fun W=>Qtw (Qe2 rs ps k) (Qaf (oth ps k)*yN rs ps k) W (Nat.le_trans (Qdj HB.out k hk) (by omega)) (Nat.le_trans (Qqz HB.out hlt) (by omega))
   have HE:Hid (Qe2 rs ps k+Qaf (oth ps k)*yN rs ps k=Qe2 rs ps (k+1)):=rfl;rw [HE.out] at cd;have HLS:Hid ((pad (Qe2 rs ps (k+1))).length=80):=Qab (Qdj HB.out (k+1) hlt) (by omega);unfold szV at cp cs cd;clear HE;obtain ⟨S2,hS2⟩:∃S2,Qe2 rs ps (k+1)=S2:=⟨_,rfl⟩
   have HFF:Hid (∀W,Sz W (w.heap.size+1) (pad S2) (cnt S2)->Sz W (w.heap.size+1) (pad (Qe2 rs ps (k+1))) (cnt (Qe2 rs ps (k+1)))):=fun W h=>by rw [hS2];exact h
   rw [hS2] at cd HLS;clear hS2;generalize Qaf (oth ps k)*yN rs ps k=pt at *;generalize Qaf (oth ps k)=po at *;generalize yN rs ps k=y at *;generalize ps.getD k 0=p at *;generalize Qe2 rs ps k=S1 at *;have i1:(k:Int)<(ps.length:Int):=by omega
   go_wp2_with fail;refine Q3i (pad S1) (pad po) (pad pt) (pad S2) (cnt S1) (cnt po) (cnt pt) (cnt S2) (w.heap.size+1) k y ps.length cap2 (some ⟨b2,o2,none⟩) (toZ (oth ps k)) wr HS HLS (fun W g=>(co W (HU.out.old (Old.trans HG.out g))).mono (fun e w' ⟨v',h1,h2,h3⟩=>⟨v',h1,h2,Own.row h3⟩)) cp cs cd _ _ _ _ _ _ _ _ _ _ _ _ _ _ _ _ _ _ _ _ _ _ _ _ _ ?_
   intro W1 W u17 u18 u19 u20 u21 u22 u23 u24 g5 hW;have HG5:=Qaa (Old.trans HG.out g5);have HS5:=Qaa (HS.out.old g5);have HR5:=Qaa (HR0.out.old g5);have HC5:Hid (∀j,j<ps.length->(W1.setRow (w.heap.size+1) (szA (pad S2) (cnt S2))).cell? ⟨g0,j,none⟩=some (.int .i64 ((yN rs ps j:Nat):Int))):=fun j hj=>(World.cell?_of_block (setRow_other W1 (w.heap.size+1) g0 _ (by omega))).trans ((g5.cell (p:=⟨g0,j,none⟩) hgw).trans (HC.out j hj))
   have hgw5:=Nat.lt_of_lt_of_le hgw g5.size;subst hW;clear g5 c1;go_wp2_with fail;exact ⟨⟨k+1,by omega,by go_num,HFF.out _ (HS5.out.row (pad S2) (cnt S2) HLS.out),HR5.out.otherRow (by omega) _,HG5.out.row (by omega) _,HC5,(by simpa using hgw5)⟩,by simp [intOf];omega⟩
  ·have d1:decide ((k:Int)<(ps.length:Int))=false:=by simp;omega
   obtain rfl:k=ps.length:=by omega
   have HS2:Hid (Sz wr (w.heap.size+1) (pad T) (cnt T)):=by
    have:=HS.out;rw [HTT.out] at this;exact this
   clear HS;go_wp2_with (first | ((with_reducible refine Qaq HS2.out ?_ ?_);exact rfl;simp only [Act.put,List.setIfInBounds_toArray,List.set_cons_succ,List.set_cons_zero]) | ((with_reducible refine Qap HR0.out (pad T) (cnt T) HLT.out ?_ ?_ ?_);exact rfl;exact rfl;simp only [Act.put]) | ((with_reducible refine bodyPost_ret (Qdf Tryz.results133 _ _ ?_ (HR0.out.row (pad T) (cnt T) HLT.out)) ?_ ?_);exact rfl;exact rfl;exact ⟨rfl,HG.out.row (Nat.le_refl _) _⟩))
theorem Qsa (n:Nat) (w:World) (hn:cnt n≤80) :
  Calls Tryz.prog 60 #[.bool false,.agg (szV n)] w fun e w'=>∃v,e=.returned (.agg #[.bool false,v])/\Old w w'/\Own w' w.heap.size v (toI (dig n)):=by
 by_cases h0:n=0
 ·subst h0;refine (Qdu false w).mono ?_
  rintro e w1 ⟨rfl,g1⟩;refine ⟨_,rfl,g1,?_⟩;rw [Qax];exact Qt4 _ _
 ·exact Qci false n w h0 hn
theorem Qgy (rs ps:List Nat) (v u:Value) (w:World) (hv:Row w v (toZ rs)) (hu:Row w u (toZ ps)) (hf:Fit u) (h:Res rs ps) :
  Calls Tryz.prog 118 #[v,u] w fun e w'=>e=.returned (.agg (szV (coN rs ps)))/\Old w w':=by
 have hb:=h.bas;have c1:=fun W h1 h2=>Q1m rs ps v u W h1 h2 hf hb h.len h.lt
 have c2:=fun W h2=>Qb8 ps u W h2 hb.len6 hb.hi
 have hpos:=Nat.pos_of_ne_zero hb.pos;have c3:=fun W=>Qng (Qe2 rs ps ps.length) (Qaf ps) W (Nat.le_trans (Qdj hb _ (Nat.le_refl _)) (by omega)) (Nat.le_trans hb.cnt (by omega)) hpos
 have HE:Hid (Qe2 rs ps ps.length%Qaf ps=coN rs ps):=rfl;rw [HE.out] at c3;have HLQ:Hid ((pad (Qe2 rs ps ps.length/Qaf ps)).length=80):=Qab (Nat.le_trans (cnt_mono (Nat.div_le_self _ _)) (Qdj hb _ (Nat.le_refl _))) (by omega);have HLR:=Qaa (Qab (Qc8 h) (by omega));have HV:=Qaa hv;have HU:=Qaa hu;obtain ⟨va,vc,rfl⟩:∃a c,v=.slice a rs.length c:=by have:=hv.slice;rwa [Qau] at this
 obtain ⟨ua,uc,rfl⟩:∃a c,u=.slice a ps.length c:=by have:=hu.slice;rwa [Qau] at this
 have HZ:Hid (Sz (w.alloc (.cells Tryz.zeroCells103 103)) w.heap.size (ext []) 0):=Sz.zero _ _ rfl;unfold szV at *;clear hv hu hf h hb hpos HE;generalize coN rs ps=r at *;generalize Qe2 rs ps ps.length/Qaf ps=q at *;generalize Qe2 rs ps ps.length=S at *;generalize Qaf ps=P at *;go_enter Tryz.func118,Tryz.ntmps118;go_wp2_with fail;refine (c1 _ (HV.out.old ((Old.refl w).alloc _)) (HU.out.old ((Old.refl w).alloc _))).mono ?_
 rintro e w1 ⟨rfl,g1⟩;have HG1:=Qaa (Old.trans ((Old.refl w).alloc _) g1);have HZ1:=Qaa (HZ.out.old g1);clear g1;go_wp2_with fail;refine (c2 _ (HU.out.old HG1.out)).mono ?_
 rintro e w2 ⟨rfl,g2⟩;have HG2:=Qaa (Old.trans HG1.out g2);have HZ2:=Qaa (HZ1.out.old g2);clear g2;go_wp2_with fail;refine (c3 _).mono ?_
 rintro e w3 ⟨rfl,g3⟩;have HG3:Hid (Old w ((w3.alloc (.cells Tryz.zeroCells103 103)).alloc (.cells Tryz.zeroCells103 103))):=((Old.trans HG2.out g3).alloc _).alloc _;have HZ3:Hid (Sz ((w3.alloc (.cells Tryz.zeroCells103 103)).alloc (.cells Tryz.zeroCells103 103)) w.heap.size (ext []) 0):=((HZ2.out.old g3).alloc _).alloc _;have HA3:Hid (Sz ((w3.alloc (.cells Tryz.zeroCells103 103)).alloc (.cells Tryz.zeroCells103 103)) w3.heap.size (ext []) 0):=(Sz.zero _ _ rfl).alloc _;have HB3:Hid (Sz ((w3.alloc (.cells Tryz.zeroCells103 103)).alloc (.cells Tryz.zeroCells103 103)) (w3.heap.size+1) (ext []) 0):=Sz.zero _ _ (by simp);have hs3:=(HZ2.out.old g3).lt;have HB4:Hid (Sz (((w3.alloc (.cells Tryz.zeroCells103 103)).alloc (.cells Tryz.zeroCells103 103)).setRow w3.heap.size (szA (pad q) (cnt q))) (w3.heap.size+1) (ext []) 0):=HB3.out.otherRow (by omega) _;have HB5:=Qaa (HB4.out.row (pad r) (cnt r) HLR.out);have HZ5:Hid (Sz ((((w3.alloc (.cells Tryz.zeroCells103 103)).alloc (.cells Tryz.zeroCells103 103)).setRow w3.heap.size (szA (pad q) (cnt q))).setRow (w3.heap.size+1) (szA (pad r) (cnt r))) w.heap.size (ext []) 0):=(HZ3.out.otherRow (by omega) _).otherRow (by omega) _;clear g3;go_wp2_with (first | ((with_reducible refine Qap HA3.out (pad q) (cnt q) HLQ.out ?_ ?_ ?_);exact rfl;exact rfl;simp only [Act.put]) | ((with_reducible refine Qap HB4.out (pad r) (cnt r) HLR.out ?_ ?_ ?_);exact rfl;exact rfl;simp only [Act.put]) | ((with_reducible refine Qaq HB5.out ?_ ?_);exact rfl;simp only [Act.put,List.setIfInBounds_toArray,List.set_cons_succ,List.set_cons_zero]) | ((with_reducible refine Qap HZ5.out (pad r) (cnt r) HLR.out ?_ ?_ ?_);exact rfl;exact rfl;simp only [Act.put]) | ((with_reducible refine bodyPost_ret (Qdf Tryz.results118 _ _ ?_ (HZ5.out.row (pad r) (cnt r) HLR.out)) ?_ ?_);exact rfl;exact rfl;exact ⟨rfl,((HG3.out.row (by omega) _).row (by omega) _).row (Nat.le_refl _) _⟩))
theorem Qy1 {fn:Func} {p:Tmp} (h:fn.results=#[.cell p 65]) (tmps:Array Value) (w:World) {g:Nat} {x y:Value} (hp:tmps.getD p undef=.pointer (some ⟨g,0,none⟩)) (hs:StW w g x y 65) :
  (results fn tmps).run Tryz.prog w=.ok (.agg #[x,y]) w:=
 results_cell_row h tmps w g 65 #[x,y] (0,0) _ hp hs Tryz.underlying65 rfl Q2w
theorem Qo5 (rs ps:List Nat) (v u:Value) (w:World) (hv:Row w v (toZ rs)) (hu:Row w u (toZ ps)) (hf:Fit u) (hR:Res rs ps) (hcase:coN rs ps*2<Qaf ps) :
  Calls Tryz.prog 100 #[v,u] w fun e w'=>∃v',e=.returned (.agg #[.bool false,v'])/\Old w w'/\Own w' w.heap.size v' (toI (dig (coN rs ps))):=by
 have hb:=hR.bas;have c4:=fun W h1 h2=>Qgy rs ps v u W h1 h2 hf hR
 have c5:=fun W h2=>Qb8 ps u W h2 hb.len6 hb.hi
 have c6:=fun W=>Qc7 (coN rs ps) 2 0 W (Nat.le_trans (Qc8 hR) (by omega)) (by omega) (by omega)
 rw [Nat.add_zero] at c6
 have hc2:cnt (coN rs ps*2)<=80:=by
  refine Nat.le_trans (Qb4 (k:=8) ?_) (by omega);have h1:=cnt_lt (coN rs ps);have h3:=Nat.pow_le_pow_right Qa2 (Qc8 hR);have h4:LB^8=LB^7*LB:=Nat.pow_succ ..;have h5:LB^7*2<=LB^7*LB:=Nat.mul_le_mul_left _ (by decide);omega
 have c7:=fun W=>Qgs (coN rs ps*2) (Qaf ps) W hc2 (Nat.le_trans hb.cnt (by omega))
 have dz:decide (Qb3 (coN rs ps*2) (Qaf ps)<0)=true:=by unfold Qb3;rw [if_pos hcase];rfl
 have c8:=fun W=>Qsa (coN rs ps) W (Nat.le_trans (Qc8 hR) (by omega))
 have HLA:=Qaa (Qab (Qc8 hR) (by omega));have HLP:=Qaa (Qab hb.cnt (by omega));have HV:=Qaa hv;have HU:=Qaa hu;obtain ⟨va,vc,rfl⟩:∃a c,v=.slice a rs.length c:=by have:=hv.slice;rwa [Qau] at this
 obtain ⟨ua,uc,rfl⟩:∃a c,u=.slice a ps.length c:=by have:=hu.slice;rwa [Qau] at this
 have HS:Hid (StW (w.alloc (.cells #[.bool false,.slice none 0 0] 65)) w.heap.size (.bool false) (.slice none 0 0) 65):=StW.new w _ _ _;have HA:Hid (Old w (w.alloc (.cells #[.bool false,.slice none 0 0] 65))):=(Old.refl w).alloc _;clear hv hu hf hb hR hc2 hcase;generalize Qb3 (coN rs ps*2) (Qaf ps)=z at *;generalize coN rs ps*2=A2 at *;generalize coN rs ps=a at *;generalize Qaf ps=P at *;unfold szV at *;go_enter Tryz.func100,Tryz.ntmps100;go_wp2_with fail;refine (c4 _ (HV.out.old HA.out) (HU.out.old HA.out)).mono ?_
 rintro e w2 ⟨rfl,g2⟩;have S2:=Qaa (HS.out.old g2);have HG2:=Qaa (Old.trans HA.out g2);clear g2;go_wp2_with fail;refine (c5 _ (HU.out.old HG2.out)).mono ?_
 rintro e w3 ⟨rfl,g3⟩;have S3:=Qaa (S2.out.old g3);have HG3:=Qaa (Old.trans HG2.out g3);have hs3:=S3.out.lt;have HA4:Hid (Sz ((w3.alloc (.cells Tryz.zeroCells103 103)).alloc (.cells Tryz.zeroCells103 103)) w3.heap.size (ext []) 0):=(Sz.zero _ _ rfl).alloc _;have HB4:Hid (Sz (((w3.alloc (.cells Tryz.zeroCells103 103)).alloc (.cells Tryz.zeroCells103 103)).setRow w3.heap.size (szA (pad a) (cnt a))) (w3.heap.size+1) (ext []) 0):=(Sz.zero _ _ (by simp)).otherRow (by omega) _;have HA6:Hid (Sz ((((w3.alloc (.cells Tryz.zeroCells103 103)).alloc (.cells Tryz.zeroCells103 103)).setRow w3.heap.size (szA (pad a) (cnt a))).setRow (w3.heap.size+1) (szA (pad P) (cnt P))) w3.heap.size (pad a) (cnt a)):=(HA4.out.row (pad a) (cnt a) HLA.out).otherRow (by omega) _;have HB6:=Qaa (HB4.out.row (pad P) (cnt P) HLP.out);have S6:Hid (StW ((((w3.alloc (.cells Tryz.zeroCells103 103)).alloc (.cells Tryz.zeroCells103 103)).setRow w3.heap.size (szA (pad a) (cnt a))).setRow (w3.heap.size+1) (szA (pad P) (cnt P))) w.heap.size (.bool false) (.slice none 0 0) 65):=(setRow_other _ _ _ _ (by omega)).trans ((setRow_other _ _ _ _ (by omega)).trans (S3.out.old (((Old.refl w3).alloc _).alloc _)));have HG6:Hid (Old w ((((w3.alloc (.cells Tryz.zeroCells103 103)).alloc (.cells Tryz.zeroCells103 103)).setRow w3.heap.size (szA (pad a) (cnt a))).setRow (w3.heap.size+1) (szA (pad P) (cnt P)))):=(((HG3.out.alloc _).alloc _).row (by omega) _).row (by omega) _;have hs6:=HB6.out.lt;clear g3;go_wp2_with (first | ((with_reducible refine Qap HA4.out (pad a) (cnt a) HLA.out ?_ ?_ ?_);exact rfl;exact rfl;simp only [Act.put]) | ((with_reducible refine Qap HB4.out (pad P) (cnt P) HLP.out ?_ ?_ ?_);exact rfl;exact rfl;simp only [Act.put]));generalize ((((w3.alloc (.cells Tryz.zeroCells103 103)).alloc (.cells Tryz.zeroCells103 103)).setRow w3.heap.size (szA (pad a) (cnt a))).setRow (w3.heap.size+1) (szA (pad P) (cnt P)))=w6 at *;refine Qyy (pad a) (pad P) (pad A2) (cnt a) (cnt P) (cnt A2) w3.heap.size (w3.heap.size+1) z _ dz w6 HA6 HB6 c6 c7 _ _ _ _ _ _ _ _ _ _ _ _ _ _ _ _ _ _ _ _ _ _ _ ?_
 intro W u23 u24 u25 u26 g7;have S7:=Qaa (S6.out.old g7);have HG7:=Qaa (Old.trans HG6.out g7);have HA7:=Qaa (HA6.out.old g7);clear g7;have S8:=S7;have HG8:=HG7;go_wp2_with ((with_reducible refine Qaq HA7.out ?_ ?_);exact rfl;simp only [Act.put,List.setIfInBounds_toArray,List.set_cons_succ,List.set_cons_zero]);refine (c8 _).mono ?_
 rintro e w9 ⟨v9,rfl,g9,o9⟩;obtain ⟨a9,cap9,rfl⟩:=(Own.row o9).slice;have S9:=Qaa (S8.out.old g9);have HG9:=Qaa (Old.trans HG8.out g9);have HO9:=Qaa o9;have hs8:=S8.out.lt;have q0:=S9.out.c0;have q1:=S9.out.c1;have f0:=S9.out.f0;have f1:=S9.out.f1;clear g9 o9;go_wp2_with fail;have MD:=Qpr (rb:=false) HG9.out HO9.out S9.out (Nat.le_of_lt hs8) (Nat.le_refl _) hs8;exact bodyPost_ret (Qy1 Tryz.results100 _ _ rfl MD.st) rfl ⟨_,rfl,MD.old,MD.own⟩
theorem Qnj (rs ps:List Nat) (v u:Value) (w:World) (hv:Row w v (toZ rs)) (hu:Row w u (toZ ps)) (hf:Fit u) (hR:Res rs ps) (hcase:¬coN rs ps*2<Qaf ps) :
  Calls Tryz.prog 100 #[v,u] w fun e w'=>∃v',e=.returned (.agg #[.bool true,v'])/\Old w w'/\Own w' w.heap.size v' (toI (dig (Qaf ps - coN rs ps))):=by
 have hb:=hR.bas;have c4:=fun W h1 h2=>Qgy rs ps v u W h1 h2 hf hR
 have c5:=fun W h2=>Qb8 ps u W h2 hb.len6 hb.hi
 have c6:=fun W=>Qc7 (coN rs ps) 2 0 W (Nat.le_trans (Qc8 hR) (by omega)) (by omega) (by omega)
 rw [Nat.add_zero] at c6
 have hc2:cnt (coN rs ps*2)<=80:=by
  refine Nat.le_trans (Qb4 (k:=8) ?_) (by omega);have h1:=cnt_lt (coN rs ps);have h3:=Nat.pow_le_pow_right Qa2 (Qc8 hR);have h4:LB^8=LB^7*LB:=Nat.pow_succ ..;have h5:LB^7*2<=LB^7*LB:=Nat.mul_le_mul_left _ (by decide);omega
 have c7:=fun W=>Qgs (coN rs ps*2) (Qaf ps) W hc2 (Nat.le_trans hb.cnt (by omega))
 have hlt:coN rs ps<Qaf ps:=Nat.mod_lt _ (Nat.pos_of_ne_zero hb.pos);have dz:decide (Qb3 (coN rs ps*2) (Qaf ps)<0)=false:=decide_eq_false (by unfold Qb3;rw [if_neg hcase];split <;> omega);have c9:=fun W=>Qke (Qaf ps) (coN rs ps) W (Nat.le_of_lt hlt) (Nat.le_trans hb.cnt (by omega))
 have c8:=fun W=>Qci true (Qaf ps - coN rs ps) W (by omega) (Nat.le_trans (cnt_mono (Nat.sub_le _ _)) (Nat.le_trans hb.cnt (by omega)))
 have HLA:=Qaa (Qab (Qc8 hR) (by omega));have HLP:=Qaa (Qab hb.cnt (by omega));have HV:=Qaa hv;have HU:=Qaa hu;obtain ⟨va,vc,rfl⟩:∃a c,v=.slice a rs.length c:=by have:=hv.slice;rwa [Qau] at this
 obtain ⟨ua,uc,rfl⟩:∃a c,u=.slice a ps.length c:=by have:=hu.slice;rwa [Qau] at this
 have HS:Hid (StW (w.alloc (.cells #[.bool false,.slice none 0 0] 65)) w.heap.size (.bool false) (.slice none 0 0) 65):=StW.new w _ _ _;have HA:Hid (Old w (w.alloc (.cells #[.bool false,.slice none 0 0] 65))):=(Old.refl w).alloc _;clear hv hu hf hb hR hc2 hcase hlt;generalize Qb3 (coN rs ps*2) (Qaf ps)=z at *;generalize coN rs ps*2=A2 at *;generalize Qaf ps - coN rs ps=d at *;generalize coN rs ps=a at *;generalize Qaf ps=P at *;unfold szV at *;go_enter Tryz.func100,Tryz.ntmps100;go_wp2_with fail;refine (c4 _ (HV.out.old HA.out) (HU.out.old HA.out)).mono ?_
 rintro e w2 ⟨rfl,g2⟩;have S2:=Qaa (HS.out.old g2);have HG2:=Qaa (Old.trans HA.out g2);clear g2;go_wp2_with fail;refine (c5 _ (HU.out.old HG2.out)).mono ?_
 rintro e w3 ⟨rfl,g3⟩;have S3:=Qaa (S2.out.old g3);have HG3:=Qaa (Old.trans HG2.out g3);have hs3:=S3.out.lt;have HA4:Hid (Sz ((w3.alloc (.cells Tryz.zeroCells103 103)).alloc (.cells Tryz.zeroCells103 103)) w3.heap.size (ext []) 0):=(Sz.zero _ _ rfl).alloc _;have HB4:Hid (Sz (((w3.alloc (.cells Tryz.zeroCells103 103)).alloc (.cells Tryz.zeroCells103 103)).setRow w3.heap.size (szA (pad a) (cnt a))) (w3.heap.size+1) (ext []) 0):=(Sz.zero _ _ (by simp)).otherRow (by omega) _;have HA6:Hid (Sz ((((w3.alloc (.cells Tryz.zeroCells103 103)).alloc (.cells Tryz.zeroCells103 103)).setRow w3.heap.size (szA (pad a) (cnt a))).setRow (w3.heap.size+1) (szA (pad P) (cnt P))) w3.heap.size (pad a) (cnt a)):=(HA4.out.row (pad a) (cnt a) HLA.out).otherRow (by omega) _;have HB6:=Qaa (HB4.out.row (pad P) (cnt P) HLP.out);have S6:Hid (StW ((((w3.alloc (.cells Tryz.zeroCells103 103)).alloc (.cells Tryz.zeroCells103 103)).setRow w3.heap.size (szA (pad a) (cnt a))).setRow (w3.heap.size+1) (szA (pad P) (cnt P))) w.heap.size (.bool false) (.slice none 0 0) 65):=(setRow_other _ _ _ _ (by omega)).trans ((setRow_other _ _ _ _ (by omega)).trans (S3.out.old (((Old.refl w3).alloc _).alloc _)));have HG6:Hid (Old w ((((w3.alloc (.cells Tryz.zeroCells103 103)).alloc (.cells Tryz.zeroCells103 103)).setRow w3.heap.size (szA (pad a) (cnt a))).setRow (w3.heap.size+1) (szA (pad P) (cnt P)))):=(((HG3.out.alloc _).alloc _).row (by omega) _).row (by omega) _;have hs6:=HB6.out.lt;clear g3;go_wp2_with (first | ((with_reducible refine Qap HA4.out (pad a) (cnt a) HLA.out ?_ ?_ ?_);exact rfl;exact rfl;simp only [Act.put]) | ((with_reducible refine Qap HB4.out (pad P) (cnt P) HLP.out ?_ ?_ ?_);exact rfl;exact rfl;simp only [Act.put]));generalize ((((w3.alloc (.cells Tryz.zeroCells103 103)).alloc (.cells Tryz.zeroCells103 103)).setRow w3.heap.size (szA (pad a) (cnt a))).setRow (w3.heap.size+1) (szA (pad P) (cnt P)))=w6 at *;refine Qyy (pad a) (pad P) (pad A2) (cnt a) (cnt P) (cnt A2) w3.heap.size (w3.heap.size+1) z _ dz w6 HA6 HB6 c6 c7 _ _ _ _ _ _ _ _ _ _ _ _ _ _ _ _ _ _ _ _ _ _ _ ?_
 intro W u23 u24 u25 u26 g7;have S7:=Qaa (S6.out.old g7);have HG7:=Qaa (Old.trans HG6.out g7);have HA7:=Qaa (HA6.out.old g7);have HB7:=Qaa (HB6.out.old g7);clear g7;go_wp2_with (first | ((with_reducible refine Qaq HB7.out ?_ ?_);exact rfl;simp only [Act.put,List.setIfInBounds_toArray,List.set_cons_succ,List.set_cons_zero]) | ((with_reducible refine Qaq HA7.out ?_ ?_);exact rfl;simp only [Act.put,List.setIfInBounds_toArray,List.set_cons_succ,List.set_cons_zero]));refine (c9 _).mono ?_
 rintro e w8 ⟨rfl,g8⟩;have S8:=Qaa (S7.out.old g8);have HG8:=Qaa (Old.trans HG7.out g8);clear g8;go_wp2_with fail;refine (c8 _).mono ?_
 rintro e w9 ⟨v9,rfl,g9,o9⟩;obtain ⟨a9,cap9,rfl⟩:=(Own.row o9).slice;have S9:=Qaa (S8.out.old g9);have HG9:=Qaa (Old.trans HG8.out g9);have HO9:=Qaa o9;have hs8:=S8.out.lt;have q0:=S9.out.c0;have q1:=S9.out.c1;have f0:=S9.out.f0;have f1:=S9.out.f1;clear g9 o9;go_wp2_with fail;have MD:=Qpr (rb:=true) HG9.out HO9.out S9.out (Nat.le_of_lt hs8) (Nat.le_refl _) hs8;exact bodyPost_ret (Qy1 Tryz.results100 _ _ rfl MD.st) rfl ⟨_,rfl,MD.old,MD.own⟩
theorem Q3k:(Tryz.prog.info? 57).map (·.size)=some 2:=by kernel_rfl
theorem Qy2 {fn:Func} {p:Tmp} (h:fn.results=#[.cell p 57]) (tmps:Array Value) (w:World) {g:Nat} {x y:Value} (hp:tmps.getD p undef=.pointer (some ⟨g,0,none⟩)) (hs:StW w g x y 57) :
  (results fn tmps).run Tryz.prog w=.ok (.agg #[x,y]) w:=
 results_cell_row h tmps w g 57 #[x,y] (0,0) _ hp hs Tryz.underlying57 rfl Q3k
theorem Qy3 {w:World} {k:Nat} {x y:Value} {t:TypeId} (h:StW w k x y t) (x' y':Value):StW ((w.setCell ⟨k,0,none⟩ x').setCell ⟨k,1,none⟩ y') k x' y' t:=by
 have h1:=heap_setCell_same w k 0 _ _ x' h;have h2:=heap_setCell_same _ k 1 _ _ y' h1;exact h2
theorem Q1n:val [2]=2:=by decide
theorem Qle (rs ps:List Nat) (v u:Value) (w:World) (hv:Row w v (toZ rs)) (hu:Row w u (toZ ps)) (h:Res rs ps) :
  Calls Tryz.prog 48 #[v,u] w fun e w'=>∃v',e=.returned v'/\Old w w'/\Own w' w.heap.size v' (toI (dig (coN rs ps))):=by
 have hb:=h.bas;have hrl:=h.len;have hl6:=hb.len6;have hl1:=hb.len1;have HU:=Qaa hu;obtain ⟨b1,o1,cap1,rfl,hb1,hc1⟩:=hv.atZ (by omega);obtain ⟨b2,o2,cap2,rfl,hb2,hc2⟩:=hu.atZ (by omega);rw [hrl] at hc1 ⊢;have HC1:=Qaa hc1;have HC2:=Qaa hc2;have HB:=Qaa hb;have HR:=Qaa h.lt;have HS0:Hid (Qe2 rs ps 0=0):=rfl;have cpr:=fun W h3=>Qek ps (.slice (some ⟨b2,o2,none⟩) ps.length cap2) W h3 hl6 hb.hi
 have HNR:Hid (Nrm (dig (Qaf ps))):=Qbm _
 have HNE:Hid (dig (Qaf ps)≠[]):=fun e=>by
  have h1:=Qf5 hb.pos;unfold cnt at h1;rw [e] at h1;simp at h1
 have HLP:Hid ((dig (Qaf ps)).length<=1048000):=Nat.le_trans hb.cnt (by omega);have HLS:Hid ((dig (Qe2 rs ps ps.length)).length<=1048576):=Nat.le_trans (Qdj hb _ (Nat.le_refl _)) (by omega);have HE:Hid (Qe2 rs ps ps.length%Qaf ps=coN rs ps):=rfl;clear hv hu hc1 hc2 hb h hrl;go_enter Tryz.func48,Tryz.ntmps48;go_wp2_with fail
 go_loopw [5,13] (fun x j W=>∃(k:Nat) (a:Option Addr) (n c:Nat),k<=ps.length/\j=.int .i64 k/\x=.slice a n c/\Hid (Row W (.slice a n c) (toI (dig (Qe2 rs ps k))))/\Hid (Old w W)) (fun _ j _=>ps.length - (intOf j).toNat)
 case atStart=>exact ⟨0,_,_,_,by omega,rfl,rfl,(by show Row _ _ _;rw [HS0.out,Qax];exact Or.inl ⟨none,0,rfl,rfl⟩),Old.refl _⟩
 case round=>
  obtain ⟨k,a,n,c,hk,rfl,rfl,HA,HG⟩:=hrel
  by_cases hlt:k<ps.length
  ·have c1:=(HG.out.cell (p:=⟨b1,o1+k,none⟩) hb1).trans (HC1.out k hlt);have c2:=(HG.out.cell (p:=⟨b2,o2+k,none⟩) hb2).trans (HC2.out k hlt);have civ:=fun W h3=>Qm9 ps (.slice (some ⟨b2,o2,none⟩) ps.length cap2) k W h3 hlt (by omega) HB.out.lo HB.out.hi
   have hyl:=Qxp (rs:=rs) HB.out hlt
   have hivl:ivN ps k<=268435456:=by
    have:ivN ps k<ps.getD k 0:=by
     have hm:ps.getD k 0∈ps:=by simp [List.getD,hlt]
     have h2:=HB.out.lo _ hm;unfold ivN;exact Qu0 _ _ (by omega)
    omega
   have hrk:=HR.out k hlt;have cpu:=fun W h3=>Qr6 ps (.slice (some ⟨b2,o2,none⟩) ps.length cap2) k W h3 HB.out hlt
   have HC1':Hid ((dig (Qaf (oth ps k))).length<=1048576):=Nat.le_trans (Quz HB.out hlt) (by omega);have HC2':Hid ((dig (yN rs ps k)).length<=1048576):=Nat.le_trans (Qcn (by omega)) (by omega);have HC3':Hid ((dig (Qe2 rs ps k)).length<=1048576):=Nat.le_trans (Qdj HB.out k hk) (by omega);have HC4':Hid ((dig (Qaf (oth ps k)*yN rs ps k)).length<=1048576):=Nat.le_trans (Qqz HB.out hlt) (by omega);have HF:Hid (∀W u,Row W u (toI (dig (Qe2 rs ps k+Qaf (oth ps k)*yN rs ps k)))->Row W u (toI (dig (Qe2 rs ps (k+1))))):=fun W u h=>h
   have HYE:Hid (rs.getD k 0*ivN ps k%ps.getD k 0=yN rs ps k):=rfl;generalize Qaf (oth ps k)=po at *;generalize yN rs ps k=y at *;generalize ivN ps k=iv at *;generalize rs.getD k 0=rk at *;generalize ps.getD k 0=p at *;generalize Qe2 rs ps k=S1 at *;obtain ⟨y0,hy0⟩:∃y0,rk*iv=y0:=⟨_,rfl⟩
   have hb2':y0<=72057594037927936:=by rw [<- hy0];exact Nat.le_trans (Nat.mul_le_mul (show rk<=268435456 by omega) hivl) (by decide)
   have t2:IntKind.i64.wrap ((rk:Int)*(iv:Int))=(y0:Int):=by rw [<- Int.natCast_mul,hy0,IntKind.wrap_i64];omega
   have hye:=HYE.out;rw [hy0] at hye;have t3:Int.tmod (y0:Int) (p:Int)=(y:Int):=by rw [Int.tmod_eq_emod_of_nonneg (by omega),<- hye];rfl
   have hp0:¬p=0:=by omega
   have i1:(k:Int)<(ps.length:Int):=by omega
   have HAS:Hid (∀W',Old wr W'->W'.cell? ⟨b1,o1+k,none⟩=some (.int .i64 (rk:Int))):=fun W' g=>(g.cell (p:=⟨b1,o1+k,none⟩) (Nat.lt_of_lt_of_le hb1 HG.out.size)).trans c1
   clear HYE hy0 hye;go_wp2_with fail
   go_region_held3 (fun W'=>W'.cell? ⟨b1,o1+k,none⟩=some (.int .i64 (rk:Int))) (first | exact HAS.out _ G1.out | exact HAS.out _ (Below.drew (Old.refl wr)) | exact HAS.out _ (Old.refl wr) | fail) (first
    | (go_at_call 85;refine (civ _ (HU.out.old (Old.trans HG.out (Below.drew (Old.refl wr))))).mono ?_;rintro e w1 ⟨rfl,g1⟩;have G1:=Qaa (Old.trans (Below.drew (Old.refl wr)) g1);clear g1)
    | fail)
   have HG1:=Qaa (Old.trans HG.out G1.out);have HA1:=Qaa (HA.out.old G1.out);clear c1 c2 HAS t2 t3;go_wp2_with fail;refine (cpu _ (HU.out.old HG1.out)).mono ?_
   rintro e w2 ⟨v2,rfl,g2,r2⟩;have HG2:=Qaa (Old.trans HG1.out g2);have HA2:=Qaa (HA1.out.old g2);have HP2:=Qaa r2;obtain ⟨a2,cap2',rfl⟩:=r2.slice;clear g2 r2;go_wp2_with fail;refine (Qlv y _ (by omega)).mono ?_
   rintro e w3 ⟨v3,rfl,g3,o3⟩;have HG3:=Qaa (Old.trans HG2.out g3);have HA3:=Qaa (HA2.out.old g3);have HP3:=Qaa (HP2.out.old g3);have HY3:=Qaa (Own.row o3);obtain ⟨a3,cap3,rfl⟩:=(Own.row o3).slice;clear g3 o3;go_wp2_with fail;refine (Qf8 (dig po) (dig y) _ _ _ HP3.out HY3.out (Qao po) (Qao y) HC1'.out HC2'.out).mono ?_
   rw [Qag,Qag];rintro e w4 ⟨v4,rfl,g4,o4⟩;have HG4:=Qaa (Old.trans HG3.out g4);have HA4:=Qaa (HA3.out.old g4);have HM4:=Qaa (Own.row o4);obtain ⟨a4,cap4,rfl⟩:=(Own.row o4).slice;clear g4 o4;go_wp2_with fail;refine (Qj1 (dig S1) (dig (po*y)) _ _ _ HA4.out HM4.out (Qao S1) (Qao _) HC3'.out HC4'.out).mono ?_
   rw [Qag,Qag];rintro e w5 ⟨v5,rfl,g5,o5⟩;have HG5:=Qaa (Old.trans HG4.out g5);have HN5:=Qaa (Own.row o5);obtain ⟨a5,cap5,rfl⟩:=(Own.row o5).slice;clear g5 o5;go_wp2_with fail;exact ⟨⟨k+1,_,_,_,by omega,by go_num,rfl,HF.out _ _ HN5.out,HG5⟩,by simp [intOf];omega⟩
  ·have d1:decide ((k:Int)<(ps.length:Int))=false:=by simp;omega
   obtain rfl:k=ps.length:=by omega
   have HF:Hid (∀W u,Own W w.heap.size u (toI (dig (Qe2 rs ps ps.length%Qaf ps)))->Own W w.heap.size u (toI (dig (coN rs ps)))):=fun W u h=>h
   generalize Qe2 rs ps ps.length=S1 at *;generalize Qaf ps=P at *;go_wp2_with fail;refine (cpr _ (HU.out.old HG.out)).mono ?_
   rintro e w2 ⟨v2,rfl,g2,r2⟩;have HG2:=Qaa (Old.trans HG.out g2);have HA2:=Qaa (HA.out.old g2);have HP2:=Qaa r2;obtain ⟨a2,cap2',rfl⟩:=r2.slice;clear g2 r2;go_wp2_with fail;refine (Qj3 (dig S1) (dig P) _ _ _ HA2.out HP2.out (Qao S1) HNR.out HNE.out HLS.out HLP.out).mono ?_
   rw [Qag,Qag];rintro e w3 ⟨v3,v4,rfl,g3,o3,o4⟩;have HG3:=Qaa (Old.trans HG2.out g3);have HN3:=Qaa (o4.low HG2.out.size);obtain ⟨a3,cap3,rfl⟩:=(Own.row o3).slice;obtain ⟨a4,cap4,rfl⟩:=(Own.row o4).slice;clear g3 o3 o4;go_wp2_with fail;go_ret;exact ⟨_,rfl,HG3.out,HF.out _ _ HN3.out⟩
theorem Qo6 (a q base:Nat) (v u:Value) (w:World) (hvo:Own w base v (toI (dig a))) (hbase:base≤w.heap.size) (hu:Row w u (toI (dig q))) (la:(dig a).length≤1000) (lq:(dig q).length≤1000) (l2:(dig (a*2)).length≤1000) (hlt:a<q) :
  Calls Tryz.prog 47 #[v,u] w fun e w'=>∃v',e=.returned (.agg #[.bool (decide (q<=a*2)),v'])/\Old w w'/\Own w' base v' (toI (dig (if a*2<q then a else q - a))):=by
 have hv:=Own.row hvo;have HV:=Qaa hv;have HVO:=Qaa hvo;have HU:=Qaa hu;obtain ⟨va,vc,rfl⟩:=hv.slice;obtain ⟨ua,uc,rfl⟩:=hu.slice;have HS:Hid (StW ((w.alloc (.cells #[.bool false,.slice none 0 0] 57)).alloc (.cells #[.int .i64 2] 3)) w.heap.size (.bool false) (.slice none 0 0) 57):=(StW.new w _ _ _).old ((Old.refl _).alloc _);have HA:Hid (Old w ((w.alloc (.cells #[.bool false,.slice none 0 0] 57)).alloc (.cells #[.int .i64 2] 3))):=((Old.refl w).alloc _).alloc _
 have HT:Hid (Row ((w.alloc (.cells #[.bool false,.slice none 0 0] 57)).alloc (.cells #[.int .i64 2] 3)) (.slice (some ⟨w.heap.size+1,0,none⟩) 1 1) (toI [2])):=by
  have:=Qnz (w.alloc (.cells #[.bool false,.slice none 0 0] 57)) 3;simp at this;exact this
 have cm:=fun x W h1 h2=>Qf8 (dig a) [2] x (.slice (some ⟨w.heap.size+1,0,none⟩) 1 1) W h1 h2 (Qao a) (Lim.cons (by decide) Lim.nil) (by omega) (by simp)
 rw [Qag,Q1n] at cm;have cc:=fun x y W h1 h2=>Qhh (dig (a*2)) (dig q) x y W h1 h2 (Qbm _) (Qbm _) (by omega) (by omega)
 rw [Qag,Qag] at cc;have cs:=fun x y W h1 h2=>Qhi (dig q) (dig a) x y W h1 h2 (Qbm _) (Qbm _) (by omega) (by omega) (by rw [Qag,Qag];omega)
 rw [Qag,Qag] at cs;clear hv hu la lq l2 hvo
 by_cases hc:a*2<q
 ·have dz:decide (0≤Qb3 (a*2) q)=false:=decide_eq_false (by unfold Qb3;rw [if_pos hc];decide);rw [if_pos hc,decide_eq_false (by omega)];generalize Qb3 (a*2) q=z at *;clear hc hlt cs;go_enter Tryz.func47,Tryz.ntmps47;go_wp2_with fail;refine (cm _ _ (HV.out.old HA.out) HT.out).mono ?_
  rintro e w1 ⟨v1,rfl,g1,o1⟩;have S1:=Qaa (HS.out.old g1);have HG1:=Qaa (Old.trans HA.out g1);have HM1:=Qaa (Own.row o1);obtain ⟨a1,cap1,rfl⟩:=(Own.row o1).slice;clear g1 o1;go_wp2_with fail;refine (cc _ _ _ HM1.out (HU.out.old HG1.out)).mono ?_
  rintro e w2 ⟨rfl,g2⟩;have S2:=Qaa (S1.out.old g2);have HG2:=Qaa (Old.trans HG1.out g2);have q0:=S2.out.c0;have q1:=S2.out.c1;have f0:=S2.out.f0;have f1:=S2.out.f1;clear g2;go_wp2_with fail;refine bodyPost_ret (Qy2 Tryz.results47 _ _ rfl (Qy3 S2.out (.bool false) _)) rfl ⟨_,rfl,?_,?_⟩
  ·exact (HG2.out.own (p:=⟨w.heap.size,0,none⟩) (Nat.le_refl _) _).own (p:=⟨w.heap.size,1,none⟩) (Nat.le_refl _) _
  ·exact HVO.out.old ((HG2.out.own (p:=⟨w.heap.size,0,none⟩) (Nat.le_refl _) _).own (p:=⟨w.heap.size,1,none⟩) (Nat.le_refl _) _)
 ·have dz:decide (0≤Qb3 (a*2) q)=true:=decide_eq_true (by unfold Qb3;rw [if_neg hc];split <;> decide);rw [if_neg hc,decide_eq_true (by omega)];generalize Qb3 (a*2) q=z at *;generalize q - a=d at *;clear hc hlt;go_enter Tryz.func47,Tryz.ntmps47;go_wp2_with fail;refine (cm _ _ (HV.out.old HA.out) HT.out).mono ?_
  rintro e w1 ⟨v1,rfl,g1,o1⟩;have S1:=Qaa (HS.out.old g1);have HG1:=Qaa (Old.trans HA.out g1);have HM1:=Qaa (Own.row o1);obtain ⟨a1,cap1,rfl⟩:=(Own.row o1).slice;clear g1 o1;go_wp2_with fail;refine (cc _ _ _ HM1.out (HU.out.old HG1.out)).mono ?_
  rintro e w2 ⟨rfl,g2⟩;have S2:=Qaa (S1.out.old g2);have HG2:=Qaa (Old.trans HG1.out g2);clear g2;go_wp2_with fail;refine (cs _ _ _ (HU.out.old HG2.out) (HV.out.old HG2.out)).mono ?_
  rintro e w3 ⟨v3,rfl,g3,o3⟩;have S3:=Qaa (S2.out.old g3);have HG3:=Qaa (Old.trans HG2.out g3);have HO3:=Qaa o3;have hs2:=S2.out.lt;obtain ⟨a3,cap3,rfl⟩:=(Own.row o3).slice;have q0:=S3.out.c0;have q1:=S3.out.c1;have f0:=S3.out.f0;have f1:=S3.out.f1;clear g3 o3;go_wp2_with fail;refine bodyPost_ret (Qy2 Tryz.results47 _ _ rfl (Qy3 S3.out (.bool true) _)) rfl ⟨_,rfl,?_,?_⟩
  ·exact (HG3.out.own (p:=⟨w.heap.size,0,none⟩) (Nat.le_refl _) _).own (p:=⟨w.heap.size,1,none⟩) (Nat.le_refl _) _
  ·refine Own.low (base:=w2.heap.size) (base':=base) (ownsRow_setCell_other (ownsRow_setCell_other HO3.out (fun e=>?_) _) (fun e=>?_) _) (by omega)
   ·have:=(HO3.out.lt w.heap.size e).1;omega
   ·have:=(HO3.out.lt w.heap.size e).1;omega
end Go.Proofs.YthcidnnkakppcaaGreatDoor
