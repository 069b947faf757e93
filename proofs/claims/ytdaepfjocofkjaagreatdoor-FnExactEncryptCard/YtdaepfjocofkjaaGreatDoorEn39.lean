/- Proved: what its theorems say. -/
import Derived.Test.YtdaepfjocofkjaaGreatDoorEn26
import Derived.Test.YtdaepfjocofkjaaGreatDoorEn38
set_option linter.unusedVariables false
set_option linter.unusedSimpArgs false
set_option maxHeartbeats 8000000
set_option maxRecDepth 100000
namespace Go.Proofs.YtdaepfjocofkjaaGreatDoor
open Go.ChangeShapes Go.WideShapes Go.ChangeAt Go.RowKit
open M2
theorem Qlr (xs:List Nat):nat (toI xs)=xs:=by
 apply List.ext_getElem
 ·simp [nat,toI]
 ·intro i h1 h2;simp [nat,toI]
theorem Qiy {n:Nat} (hl:cnt n<=40):Good false (toI (dig n)):=by
 have hn:=Qcy n;refine ⟨by rw [Qav];exact hl,(fun h=>by cases h.2),?_⟩;intro j hj;rw [Qav] at hj;have hm:(dig n).getD j 0∈dig n:=by simp [List.getD,hj]
 have hb:=hn.1 _ hm;unfold LB at hb;refine ⟨?_,?_⟩
 ·rw [Qkg];omega
 ·rw [Qkg,Qav];rintro ⟨h0,h1⟩;have hne:dig n≠[]:=by intro e;rw [e] at hj;simp at hj
  apply hn.2 hne;rw [List.getLast_eq_getElem];have h2:(dig n).getD j 0=0:=by omega
  have e:(dig n).length - 1=j:=by omega
  simp only [e];rw [<- h2];simp [List.getD,hj]
theorem Qpb {n m k:Nat} (h:n<=m) (hm:cnt m<=k):cnt n<=k:=by
 refine Qby (Nat.lt_of_le_of_lt h (Nat.lt_of_lt_of_le (cnt_lt m) (Nat.pow_le_pow_right (by decide) hm)))
def dmF (q T:Nat) (p:Int):Int:=((q/T:Nat):Int)%p
theorem Q2v {q T:Nat} (hc:cnt q<=40) {p:Int} (hp:2<=p/\p<=268435456):Qwc false (toI (dig (q/T))) p=dmF q T p:=by
 unfold Qwc;rw [if_pos ⟨Qiy (Qpb (Nat.div_le_self q T) hc),hp⟩,Qlr];simp [sv,Qaq,dmF]
theorem Qpc (Nn T:Nat) (E:Int) (ps ss:List Int) (q:Nat) (Rf:Nat->Int) (a3:Option Addr) (l3 c3 gr:Nat) (a6:Option Addr) (l6 c6:Nat) (v:Value) (w:World) (hps:1<=ps.length/\ps.length<=6) (hN:2<=Nn/\Nn<=16) (hT:1<=T/\T<=4611686018427387904) (hl:ss.length=Nn) (hp:∀k,k<ps.length->2<=ps.getD k 0/\ps.getD k 0<=268435456)
 (hr:Rgs w gr Nn ps Rf ps.length) (hv:Row w v ss) (hs:∀i,i<ss.length->-9223372036854775808<=ss.getD i 0/\ss.getD i 0<=9223372036854775807) (hq:cnt q<=40) (hrq:Row w (.slice a6 l6 c6) (toI (dig q))) :
 Calls Tryz.prog 41 #[.agg #[.int .i64 Nn,.int .i64 T,.int .i64 E,.slice a3 l3 c3,.slice (some ⟨gr,0,none⟩) ps.length ps.length,.bool false,.slice a6 l6 c6],v] w fun e w'=>∃g,w.heap.size<=g/\e=.returned (.slice (some ⟨g,0,none⟩) ps.length ps.length)/\Old w w'/\Ows (TS 91 5 ps.length (elR Nn false ps Rf (lfL (dmF q T) ps ss))) w' w.heap.size w'.heap.size [.slice (some ⟨g,0,none⟩) ps.length ps.length]:=by
 have edg:dg (T:Int)=dig T:=by simp [dg]
 have hcT:cnt T<=40:=by
  refine Qby (Nat.lt_of_le_of_lt hT.2 ?_);unfold LB;decide
 refine Qt1 Nn T E ps ss (toI (dig T)) (toI (dig (q/T))) Rf (dmF q T) (toI (dig T)).length (toI (dig (q/T))).length a3 l3 c3 gr a6 l6 c6 v w hps hN hl hp hr hv hs (fun W g=>?_) (fun W a c g hrow=>?_) (fun W a c k hk hrow=>?_) (fun k hk=>?_)
 ·refine (Qz0 T W (by omega) (by omega)).mono fun e w' h=>?_
  obtain ⟨v',rfl,g',o'⟩:=h;rw [edg] at o';obtain ⟨a,c,rfl⟩:=(Own.row o').slice;have e0:ng (T:Int)=false:=decide_eq_false (by omega);rw [e0];exact ⟨_,rfl,g',a,c,rfl,o'⟩
 ·have h0:(toI (dig T)).length≠0:=by
   rw [Qav];intro e;have h1:=List.length_eq_zero_iff.1 e;have h2:=Qaq T;rw [h1] at h2;simp [val] at h2;omega
  refine (Qlq false (toI (dig q)) (toI (dig T)) _ _ W (hrq.old g) hrow (Qiy hq) (Qiy hcT) h0).mono fun e w' h=>?_
  obtain ⟨v1,v2,rfl,g',o1,o2,_⟩:=h
  have e1:sv false (nat (toI (dig q)))/(val (nat (toI (dig T))):Int)=((q/T:Nat):Int):=by
   rw [Qlr,Qlr,Qaq];simp [sv,Qaq]
  rw [e1] at o1 ⊢;have e2:ng ((q/T:Nat):Int)=false:=decide_eq_false (by have:=Int.natCast_nonneg (q/T);exact Int.not_lt.2 this);have e3:dg ((q/T:Nat):Int)=dig (q/T):=by simp only [dg,Int.natAbs_natCast]
  rw [e3] at o1;rw [e2];obtain ⟨a1,c1,rfl⟩:=(Own.row o1).slice;obtain ⟨a2,c2,rfl⟩:=(Own.row o2).slice;exact ⟨_,rfl,g',a1,c1,a2,_,c2,rfl,o1⟩
 ·have h1:=Qwf false (toI (dig (q/T))) (ps.getD k 0) _ W hrow (by rw [Qav];have:=Qpb (Nat.div_le_self q T) hq;unfold cnt at this;omega);rw [Q2v hq (hp k hk)] at h1;exact h1
 ·have hk':=hp k hk;unfold dmF;have g1:=Int.emod_nonneg ((q/T:Nat):Int) (show ps.getD k 0≠0 by omega);have g2:=Int.emod_lt_of_pos ((q/T:Nat):Int) (show 0<ps.getD k 0 by omega);omega
theorem Qw8 (N T E:Int) (P:List Nat) (a0:Option Addr) (l0 c0:Nat) (w:World) (hv:Row w (.slice a0 l0 c0) (toZ P)) (hb:Bas P) :
 Calls Tryz.prog 58 #[.agg #[.int .i64 N,.int .i64 T,.int .i64 E,.slice a0 l0 c0]] w fun e w'=>∃v',e=.returned v'/\Old w w'/\Row w' v' (toI (dig (Qap P))):=by
 have HK:=Qaa (fun W g=>Qmu P _ W (hv.old g) hb.len6 hb.hi);have HA:Hid (Old w (w.alloc (.cells #[.int .i64 N,.int .i64 T,.int .i64 E,.slice a0 l0 c0] 35))):=(Old.refl w).alloc _;have BA:Hid (Bk (w.alloc (.cells #[.int .i64 N,.int .i64 T,.int .i64 E,.slice a0 l0 c0] 35)) w.heap.size #[.int .i64 N,.int .i64 T,.int .i64 E,.slice a0 l0 c0] 35):=Bk.new' w _ _ rfl;have x3:=BA.out.c (i:=3) rfl;clear hv hb;go_enter Tryz.func58,Tryz.ntmps58;go_wp2_with fail;refine (HK.out _ HA.out).mono ?_
 rintro e w1 ⟨v1,rfl,g1,r1⟩;have HG:=Qaa (Old.trans HA.out g1);have HR:=Qaa r1;clear g1 r1 x3;go_wp2_with fail;go_ret;exact ⟨_,rfl,HG.out,HR.out⟩
theorem Qno (N E:Int) (T:Nat) (P:List Nat) (ss:List Int) (v u:Value) (w:World) (hv:Row w v (toZ P)) (hu:Row w u ss) (hb:Bas P) (hT:2<=T/\T<=65536) (hl:1<=ss.length/\ss.length<=16) (hs:∀i,i<ss.length->0<=ss.getD i 0/\ss.getD i 0<T) :
 Calls Tryz.prog 32 #[.agg #[.int .i64 N,.int .i64 T,.int .i64 E,v],u] w fun e w'=>∃v',e=.returned v'/\Old w w'/\OwS (lfL (dmF (Qap P) T) (toZ P) ss) w' w.heap.size w'.heap.size v':=by
 obtain ⟨a0,c0,ev⟩:=hv.slice;obtain ⟨a1,c1,eu⟩:=hu.slice;subst ev eu;have hpl:=Qbf P
 have hpb:∀k,k<(toZ P).length->2<=(toZ P).getD k 0/\(toZ P).getD k 0<=268435456:=fun k hk=>by
  rw [hpl] at hk;have hm:P.getD k 0∈P:=by simp [List.getD,hk]
  have h1:=hb.lo _ hm;have h2:=hb.hi _ hm;have e:(toZ P).getD k 0=((P.getD k 0:Nat):Int):=by simp [toZ,List.getD,hk]
  rw [e];omega
 have hps:1<=(toZ P).length/\(toZ P).length<=6:=by rw [hpl];exact ⟨hb.len1,hb.len6⟩
 have hcq:=hb.cnt;have hcd:cnt (Qap P/T)<=7:=Qpb (Nat.div_le_self _ _) hcq
 have hdT:dig T≠[]:=fun e=>by
  have h2:=Qaq T;rw [e] at h2;simp [val] at h2;omega
 have hcT:cnt T<=40:=by
  refine Qby (Nat.lt_of_le_of_lt hT.2 ?_);unfold LB;decide
 have HKQ:Hid (∀W,Old w W->Calls Tryz.prog 58 #[.agg #[.int .i64 N,.int .i64 T,.int .i64 E,.slice a0 (toZ P).length c0]] W fun e w'=>∃v,e=.returned v/\Old W w'/\∃a c,v=.slice a (toI (dig (Qap P))).length c/\Row w' (.slice a (toI (dig (Qap P))).length c) (toI (dig (Qap P)))):=fun W g=>(Qw8 N T E P a0 _ c0 W (hv.old g) hb).mono fun e w' h=>by
  obtain ⟨v',rfl,g',r⟩:=h;obtain ⟨a,c,rfl⟩:=r.slice;exact ⟨_,rfl,g',a,c,rfl,r⟩
 have HKO:Hid (∀W,Old w W->Calls Tryz.prog 59 #[.int .i64 T] W fun e w'=>∃v,e=.returned v/\Old W w'/\∃a c,v=.slice a (toI (dig T)).length c/\Row w' (.slice a (toI (dig T)).length c) (toI (dig T))):=fun W g=>(Qxj T W (by omega)).mono fun e w' h=>by
  obtain ⟨v',rfl,g',o⟩:=h;have r:=Own.row o;obtain ⟨a,c,rfl⟩:=r.slice;exact ⟨_,rfl,g',a,c,rfl,r⟩
 have HKD:Hid (∀W a c a' c',Old w W->Row W (.slice a (toI (dig (Qap P))).length c) (toI (dig (Qap P)))->Row W (.slice a' (toI (dig T)).length c') (toI (dig T))->Calls Tryz.prog 57 #[.slice a (toI (dig (Qap P))).length c,.slice a' (toI (dig T)).length c'] W fun e w'=>∃v,e=.returned v/\Old W w'/\∃a1 c1 a2 l2 c2,v=.tuple #[.slice a1 (toI (dig (Qap P/T))).length c1,.slice a2 l2 c2]/\Row w' (.slice a1 (toI (dig (Qap P/T))).length c1) (toI (dig (Qap P/T)))):=fun W a c a' c' g h1 h2=>(Qyt (dig (Qap P)) (dig T) _ _ W h1 h2 (Qaz _) (Qcy _) hdT (by unfold cnt at hcq;omega) (by unfold cnt at hcT;omega)).mono fun e w' h=>by
  obtain ⟨v1,v2,rfl,g',o1,o2⟩:=h;rw [Qaq,Qaq] at o1;have r:=Own.row o1;obtain ⟨x1,y1,rfl⟩:=r.slice;obtain ⟨x2,y2,rfl⟩:=(Own.row o2).slice;exact ⟨_,rfl,g',x1,y1,x2,_,y2,rfl,r⟩
 have HKM:Hid (∀W,Old w W->Calls Tryz.prog 29 #[.agg #[.int .i64 N,.int .i64 T,.int .i64 E,.slice a0 (toZ P).length c0],.slice a1 ss.length c1] W fun e w'=>∃v,e=.returned v/\Old W w'/\Qci w' v (smS (toZ P) ss)):=fun W g=>(Qgz N T E (toZ P) ss _ _ W (hv.old g) (hu.old g) hps hl hpb (fun i hi=>by have:=hs i hi;omega)).mono fun e w' h=>by
  obtain ⟨v',rfl,g',o⟩:=h;exact ⟨_,rfl,g',o.rowS⟩
 have HKS:Hid (∀W u a c,Old w W->Row W (.slice a (toI (dig (Qap P/T))).length c) (toI (dig (Qap P/T)))->Qci W u (smS (toZ P) ss)->Calls Tryz.prog 60 #[.agg #[.int .i64 N,.slice a0 (toZ P).length c0],u,.agg #[.bool false,.slice a (toI (dig (Qap P/T))).length c]] W fun e w'=>∃v,e=.returned v/\Old W w'/\OwS (lfL (dmF (Qap P) T) (toZ P) ss) w' W.heap.size w'.heap.size v):=fun W u a c g hd hru=>by
  have:=Qm2 (dmF (Qap P) T) false a (toI (dig (Qap P/T))).length c N (toZ P) (smS (toZ P) ss) (.slice a0 (toZ P).length c0) u W (hv.old g) hru hps (Qfb _ _) (fun k hk=>by
   rw [Qfc _ _ _ hk,Qfa];refine ⟨hl.2,hpb k hk,fun i hi=>?_⟩;rw [Qig _ _ _ hi];have h1:=hpb k hk;have g1:=Int.emod_nonneg (ss.getD i 0) (show (toZ P).getD k 0≠0 by omega);have g2:=Int.emod_lt_of_pos (ss.getD i 0) (show 0<(toZ P).getD k 0 by omega);omega) (fun k hk=>by
   have h1:=hpb k hk;refine ⟨?_,fun W' g'=>?_⟩
   ·unfold dmF;have g1:=Int.emod_nonneg ((Qap P/T:Nat):Int) (show (toZ P).getD k 0≠0 by omega);have g2:=Int.emod_lt_of_pos ((Qap P/T:Nat):Int) (show 0<(toZ P).getD k 0 by omega);omega
   ·obtain ⟨p,hp⟩:∃p:Nat,(toZ P).getD k 0=p:=⟨((toZ P).getD k 0).toNat,by omega⟩
    rw [hp] at h1 ⊢;have h2:=Qq0 false (dig (Qap P/T)) p _ W' (hd.old g') (Qaz _) (by unfold cnt at hcd;omega) (by omega) (by omega);rw [show sv false (dig (Qap P/T))=((Qap P/T:Nat):Int) by simp [sv,Qaq]] at h2;exact h2)
  exact this
 have HA:Hid (Old w (w.alloc (.cells #[.int .i64 N,.int .i64 T,.int .i64 E,.slice a0 (toZ P).length c0] 35))):=(Old.refl w).alloc _;have BA:Hid (Bk (w.alloc (.cells #[.int .i64 N,.int .i64 T,.int .i64 E,.slice a0 (toZ P).length c0] 35)) w.heap.size #[.int .i64 N,.int .i64 T,.int .i64 E,.slice a0 (toZ P).length c0] 35):=Bk.new' w _ _ rfl;have hs0:=HA.out.size;generalize hwA:w.alloc (.cells #[.int .i64 N,.int .i64 T,.int .i64 E,.slice a0 (toZ P).length c0] 35)=wA at HA BA hs0;have HKP:Hid (∀W,Calls Tryz.prog 28 #[.agg #[.int .i64 N,.int .i64 T,.int .i64 E,.slice a0 (toZ P).length c0]] W fun e w'=>∃v,e=.returned v/\Old W w'/\v=.agg #[.int .i64 N,.slice a0 (toZ P).length c0]):=fun W=>(Qbu N T E a0 (toZ P).length c0 W).mono fun e w' h=>⟨_,h.1,h.2,rfl⟩
 generalize lfL (dmF (Qap P) T) (toZ P) ss=ZZ at *;generalize toI (dig (Qap P/T))=ds at *;generalize toI (dig (Qap P))=qs at *;generalize toI (dig T)=ts at *;generalize smS (toZ P) ss=ms at *;clear hv hu hb hs hpb hps hcq hcd hdT hcT hpl hl hT;generalize (toZ P).length=lP at *;generalize ss.length=lS at *;go_enter Tryz.func32,Tryz.ntmps32;go_wp2_with fail;refine Q2o wA N T E a0 lP c0 w.heap.size qs.length ts.length ds.length qs ts ds BA.out (fun W q=>HKQ.out W (Old.trans HA.out q)) (fun W q=>HKO.out W (Old.trans HA.out q)) (fun W a c a' c' q=>HKD.out W a c a' c' (Old.trans HA.out q)) _ _ ?_ ?_ ?_
 iterate 2 (·exact rfl)
 intro us W da dc q1 h9 r1;have HR1:=Qaa r1;have HQ1:=Qaa (Old.trans HA.out q1);have B1:=Qaa (BA.out.old q1);simp only [Qah,Act.put,Qf5,List.range,List.range.loop,List.map_cons,List.map_nil,List.getD_cons_zero,List.getD_cons_succ,List.setIfInBounds_toArray,List.set_cons_succ,List.set_cons_zero,h9];clear q1 r1 h9 HKQ HKO HKD BA HA hwA hs0;go_wp2_with fail;refine Q2p W w.heap.size N T E a0 lP c0 (.slice a1 lS c1) da ds.length dc (fun W' x=>Qci W' x ms) (fun W' x=>OwS ZZ W' W.heap.size W'.heap.size x) (fun _ _ _ h q=>h.old q) (fun W1 W2 x h q=>((Qdz ZZ).old h q (Nat.le_refl _)).high q.size (Nat.le_refl _)) B1.out (fun W' q=>HKP.out W') (fun W' q=>HKM.out W' (Old.trans HQ1.out q)) (fun W' u q hu=>(HKS.out W' u da dc (Old.trans HQ1.out q) (HR1.out.old q) hu).mono fun e w' h=>?_) _ _ ?_ ?_ ?_ ?_ ?_
 ·obtain ⟨v,e1,g',o⟩:=h;exact ⟨v,e1,g',o.low q.size⟩
 iterate 4 (·exact rfl)
 intro us2 W2 q2 o2;have HO2:=Qaa o2;have HQ2:=Qaa (Old.trans HQ1.out q2);simp only [Qah,Act.put,Qex,List.range,List.range.loop,List.map_cons,List.map_nil,List.getD_cons_zero,List.getD_cons_succ,List.setIfInBounds_toArray,List.set_cons_succ,List.set_cons_zero];clear q2 o2;go_wp2_with fail;go_ret;exact ⟨_,rfl,HQ2.out,HO2.out.low HQ1.out.size⟩
end Go.Proofs.YtdaepfjocofkjaaGreatDoor
namespace Go.Proofs.YtdaepfjocofkjaaGreatDoor
open Go.ChangeShapes Go.WideShapes Go.ChangeAt Go.RowKit
open M1
open M2
def kcN (kd:Int) (ps:List Int):Nat:=if kd=5 then 1 else if kd=6 then ps.length else 0
end Go.Proofs.YtdaepfjocofkjaaGreatDoor
