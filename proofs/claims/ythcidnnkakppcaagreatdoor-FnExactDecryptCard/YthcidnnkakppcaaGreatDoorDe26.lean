/- Proved: what its theorems say. -/
import Derived.Test.YthcidnnkakppcaaGreatDoorDe25
import Derived.Test.YthcidnnkakppcaaGreatDoorDe21
set_option linter.unusedVariables false
set_option linter.unusedSimpArgs false
set_option maxHeartbeats 8000000
set_option maxRecDepth 100000
namespace Go.Proofs.YthcidnnkakppcaaGreatDoor
open Go.ChangeShapes Go.WideShapes Go.ChangeAt Go.RowKit
theorem Q25 {s L:Nat} (h:s<L):2^s*2<=2^L:=by
 rw [<- Nat.pow_succ];exact Nat.pow_le_pow_right (by omega) h
theorem Qgw (P N R:Nat) (xs:List Nat) (v:Value) (w:World) (hT:Qbb w) (hv:Row w v (toZ xs)) (hP:2≤P∧P≤268435456) (h:Sz4 N) (hR:R<P) (la:xs.length=N) (ha:∀x∈xs,x<P) :
  Calls Tryz.prog 135 #[.agg #[.int .i64 P,.int .i64 N,.int .i64 R],v] w fun e w'=>∃v',e=.returned v'/\Old w w'/\Own w' w.heap.size v' (toZ (fsS P N R xs (lg N))):=by
 obtain ⟨i0,hi,hz0,hz1,hz2⟩:=info_parts Tryz.infoInt;have hs:=Qon h;obtain ⟨b0,o0,cap0,rfl,hb0,hc0⟩:=hv.atZ (by omega);rw [la] at hc0 ⊢;have HC0:Hid (∀j,j<N->w.cell? ⟨b0,o0+j,none⟩=some (.int .i64 ((toZ xs).getD j 0))):=fun j hj=>by rw [hc0 j hj,Qcd]
 have hlx:(toZ xs).length=N:=by rw [Qau,la]
 have HT:=Qaa hT;have cpw:=fun W=>Qh7 P N R W hP hs hR
 have cno:=fun W (hT:Qbb W)=>Qgu N W h hT
 have RC0:Hid (Rc (w.alloc (.cells #[.int .i64 P,.int .i64 N,.int .i64 R] 133)) w.heap.size P N R):=Rc.new w _ _ _;clear hc0 hv hT;go_enter Tryz.func135,Tryz.ntmps135
 go_wp2_with (first
  | (at_make;refine wpList_make_full _ rfl _ _ 22 rfl (w.heap.size+1) 3 i0 (.int .i64 0) 1 Tryz.underlying22 hi hz0 hz1 .i64 .i64 _ _ N rfl rfl rfl rfl (by rw [hz2];omega) (by unfold maxLen;omega) (by simp) ?_;intro w1 hown hgrow;have HO1:Hid (Qbc w1 (w.heap.size+1) (w.heap.size+1) N (List.replicate N 0)):=(by have e:(w.alloc (.cells #[.int .i64 P,.int .i64 N,.int .i64 R] 133)).heap.size=w.heap.size+1:=(by simp);rw [Qbj,e] at hown;exact hown);have HG1:Hid (Old (w.alloc (.cells #[.int .i64 P,.int .i64 N,.int .i64 R] 133)) w1):=Old.by_ (Old.refl _) hgrow (fun b hb=>by cases hb);clear hown hgrow)
  | ((with_reducible refine Qqm (w.heap.size+1) (w.heap.size+1) N b0 o0 cap0 (List.replicate N 0) (toZ xs) ?_ ?_ HO1.out ?_ hlx ?_ ?_);exact rfl;exact rfl;(simp);(intro j hj;exact ((Old.trans ((Old.refl w).alloc _) HG1.out).cell (p:=⟨b0,o0+j,none⟩) hb0).trans (HC0.out j hj));intro w2 ho2 hbe2;have HO2:=Qaa ho2;have HG2:Hid (Old (w.alloc (.cells #[.int .i64 P,.int .i64 N,.int .i64 R] 133)) w2):=Below.trans HG1.out (hbe2.mono (by simp));clear ho2 hbe2))
 have hlg:=Qe5 h
 obtain ⟨FS,HFZ',HFSS',hFN',hFL',hEnd⟩:∃FS:Nat->List Nat,FS 0=xs/\(∀s,FS (s+1)=fpS P N R s (FS s) (2^s))/\(∀s,(FS s).length=N)/\(∀s,∀x∈FS s,x<P)/\fsS P N R xs (lg N)=FS (lg N):=
  ⟨fsS P N R xs,rfl,fun _=>rfl,fun s=>by rw [Qko,la],fun s=>Qqj P N R xs (by omega) ha s,rfl⟩
 have HFZ:Hid (toZ (FS 0)=toZ xs):=by show _ = _;rw [HFZ']
 have HFSS:=Qaa HFSS';have hFN:=Qaa hFN';have hFL:=Qaa hFL';have HEnd:=Qaa hEnd;clear HFZ' HFSS' hFN' hFL' hEnd;have HLS:=Qaa (Qh6 P R (2*N));have RC2:=Qaa (RC0.out.old HG2.out);have HGw2:=Qaa (Old.trans ((Old.refl w).alloc _) HG2.out);refine Q23 P N R (lg N) (pwS P R (2*N)) w.heap.size w2 RC2 HLS cpw (fun W g=>cno W (HT.out.old (Old.trans HGw2.out g))) _ _ _ _ _ _ _ _ _ _ _ _ _ _ _ _ _ _ _ _ _ _ _ _ _ _ _ _ _ _ _ _ _ _ _ _ _ _ _ _ _ _ _ _ _ _ _ _ _ _ ?_
 intro kp W u17 u18 u19 u20 u21 gW hPw hkp0;have HPW:=Qaa hPw;have HOW:=Qaa (HO2.out.old gW);have HRW:=Qaa (RC2.out.old gW);have HGW:=Qaa (Old.trans HGw2.out gW)
 have hkp:w.heap.size+1<kp:=by
  have h1:=(World.ownsRow.lt HO2.out (w.heap.size+1) rfl).2;omega
 clear gW hPw hkp0 RC2 HGw2 HO2 HG2;go_wp2_with fail
 go_loopw [23] (fun i V=>∃s:Nat,s<=lg N/\i=.int .i64 s/\Hid (Qbc V (w.heap.size+1) (w.heap.size+1) N (toZ (FS s)))/\Hid (Pw V kp (pwS P R (2*N)))/\Hid (Rc V w.heap.size P N R)/\Hid (Old w V)) (fun i _=>lg N - (intOf i).toNat)
 case atStart=>exact ⟨0,by omega,rfl,(by show Qbc _ _ _ _ _;rw [HFZ.out];exact HOW.out),HPW,HRW,HGW⟩
 case round=>
  obtain ⟨s,hsl,rfl,HO5,HP5,HR5,HG5⟩:=hrel;clear HOW HPW HRW HGW
  by_cases hlt:s<lg N
  ·obtain ⟨hh,e1,e2,e3,e4⟩:=halves h s hlt;have hwp:=Qpy s (by omega);have h2s:=Q25 hlt;rw [hlg.1] at h2s
   obtain ⟨FP,HF0',HFS',HFE',HFP',HFQ'⟩:∃FP:Nat->List Nat,FP 0=FS s/\(∀J,FP (J+1)=spS P (R^(Qai (lg N) (2^s+J) 0)%P) (J*(2*hh)) hh (FP J) hh)/\FP (2^s)=FS (s+1)/\(∀J,(FP J).length=N)/\(∀J,∀x∈FP J,x<P):=
    ⟨fpS P N R s (FS s),rfl,fun J=>by rw [fpS,e1,show 2*hh/2=hh by omega],(HFSS.out s).symm,fun J=>by rw [Qkn];exact hFN.out s,fun J=>Qt8 P N R s _ (by omega) (hFL.out s) J⟩
   have HF0:Hid (toZ (FP 0)=toZ (FS s)):=by show _ = _;rw [HF0']
   have HFS:Hid (∀J,toZ (FP (J+1))=toZ (spS P (R^(Qai (lg N) (2^s+J) 0)%P) (J*(2*hh)) hh (FP J) hh)):=fun J=>by rw [HFS' J]
   have HFE:Hid (toZ (FP (2^s))=toZ (FS (s+1))):=by show _ = _;rw [HFE']
   have HFP:=Qaa HFP';have HFQ:=Qaa HFQ';clear HF0' HFS' HFE' HFP' HFQ';obtain ⟨q,hq⟩:∃q,2^s=q:=⟨_,rfl⟩
   rw [hq] at hwp h2s e2 HFE;have HQQ:=Qaa hq;clear e1 e4;go_wp2_with fail;rw [hwp];clear hwp hq
   go_loopw [30] (fun j V=>∃J:Nat,J<=q/\j=.int .i64 J/\Hid (Qbc V (w.heap.size+1) (w.heap.size+1) N (toZ (FP J)))/\Hid (Pw V kp (pwS P R (2*N)))/\Hid (Rc V w.heap.size P N R)/\Hid (Old w V)) (fun j _=>q - (intOf j).toNat)
   case atStart=>exact ⟨0,by omega,rfl,(by show Qbc _ _ _ _ _;rw [HF0.out];exact HO5.out),HP5,HR5,HG5⟩
   case round=>
    obtain ⟨J,hJ,rfl,HO6,HP6,HR6,HG6⟩:=hrel;clear HO5 HP5 HR5 HG5
    by_cases hjl:J<q
    ·have hNX:=HFS.out J;rw [HQQ.out] at hNX;have hbl:=Qg6 h (q+J);have hw0:(pwS P R (2*N)).getD (Qai (lg N) (q+J) 0) 0=R^(Qai (lg N) (q+J) 0)%P:=Qor P R (2*N) _ (by omega) (by omega);have hwl:R^(Qai (lg N) (q+J) 0)%P<P:=Nat.mod_lt _ (by omega)
     have hof:J*(2*hh)+2*hh<=N:=by
      have h1:(J+1)*(2*hh)<=q*(2*hh):=Nat.mul_le_mul_right _ hjl;rw [Nat.add_mul,Nat.one_mul,e2] at h1;exact h1
     have cpa:=fun W=>Qh4 (w.heap.size+1) N J q (2*hh) W hs e2.symm (by omega) (by omega) hjl
     have cbb:=fun W=>Qji N (q+J) W h (by omega)
     have hgl:=(World.ownsRow.lt HO6.out (w.heap.size+1) rfl).2;have csp:=Qrs P N R (R^(Qai (lg N) (q+J) 0)%P) (J*(2*hh)) hh (N - J*(2*hh)) (w.heap.size+1) (w.heap.size+1) (FP J) wr.drew hP hwl (by omega) hof (HO6.out.old (Below.drew (Old.refl wr))) hgl (HFP.out J) (HFQ.out J);rw [<- hNX] at csp;clear hNX;generalize R^(Qai (lg N) (q+J) 0)%P=w0 at *;generalize Qai (lg N) (q+J) 0=bb at *;go_wp2_with fail;refine Q04 P N R (lg N) q J bb w0 (pwS P R (2*N)) (some ⟨w.heap.size+1,0,none⟩) (some ⟨w.heap.size+1,J*(2*hh),none⟩) (2*hh) (N - J*(2*hh)) w.heap.size kp wr HR6 HP6 (by omega) hw0 (by omega) cpa cbb (fun w'=>wr.drew.grownBy w' (some (w.heap.size+1))/\Qbc w' (w.heap.size+1) (w.heap.size+1) N (toZ (FP (J+1)))) csp _ _ _ _ _ _ _ _ _ _ _ _ _ _ _ _ _ _ _ _ _ _ _ _ _ _ _ _ _ _ _ _ _ _ _ _ _ _ _ _ _ _ _ _ _ ?_
     intro V u33 u34 u35 u36 u37 u38 u39 u40 u41 u42 u43 u44 u45 hPS;have HO7:=Qaa hPS.2;have HP7:=Qaa ((HP6.out.old (Below.drew (Old.refl wr))).by_ hPS.1 (fun k hk=>by cases hk;omega));have HR7:=Qaa ((HR6.out.old (Below.drew (Old.refl wr))).by_ hPS.1 (fun k hk=>by cases hk;omega));have HG7:=Qaa (Old.by_ (Below.drew HG6.out) hPS.1 (fun k hk=>by cases hk;omega));clear hPS HO6 HP6 HR6 HG6;go_wp2_with fail;exact ⟨⟨J+1,by omega,by go_num,HO7,HP7,HR7,HG7⟩,by simp [intOf];omega⟩
    ·have d2:decide ((J:Int)<(q:Int))=false:=by simp;omega
     obtain rfl:J=q:=by omega
     have HO8:Hid (Qbc wr (w.heap.size+1) (w.heap.size+1) N (toZ (FS (s+1)))):=by
      have:=HO6.out;rw [HFE.out] at this;exact this
     go_wp2_with fail;exact ⟨⟨s+1,by omega,by go_num,HO8,HP6,HR6,HG6⟩,by simp [intOf];omega⟩
  ·have d1:decide ((s:Int)<((lg N:Nat):Int))=false:=by simp;omega
   obtain rfl:s=lg N:=by omega
   have HF:Hid (Own wr (w.heap.size+1) (.slice (some ⟨w.heap.size+1,0,none⟩) N N) (toZ (fsS P N R xs (lg N)))):=by rw [HEnd.out];exact HO5.out.own (by rw [Qau];exact hFN.out _)
   go_wp2_with fail;go_ret;exact ⟨_,rfl,HG5.out,HF.out.low (by omega)⟩
def ipS (P N R t:Nat) (fs:List Nat):Nat->List Nat
 | 0=>fs
 | J+1=>jnS P (R^(2*N - Qai (lg N) (N/2^(t+1)+J) 0)%P) (J*(2*2^t)) (2^t) (ipS P N R t fs J) (2^t)
def isS (P N R:Nat) (xs:List Nat):Nat->List Nat
 | 0=>xs
 | t+1=>ipS P N R t (isS P N R xs t) (N/2^(t+1))
theorem Qku (P N R t:Nat) (fs:List Nat):∀J,(ipS P N R t fs J).length=fs.length
 | 0=>rfl
 | J+1=>by rw [ipS,Qkq,Qku P N R t fs J]
theorem Qia (P N R:Nat) (xs:List Nat):∀t,(isS P N R xs t).length=xs.length
 | 0=>rfl
 | t+1=>by rw [isS,Qku,Qia P N R xs t]
theorem Quj (P N R t:Nat) (fs:List Nat) (hP:0<P) (h:∀x∈fs,x<P):∀J,∀x∈ipS P N R t fs J,x<P
 | 0=>h
 | J+1=>by rw [ipS];exact Qua P _ _ _ _ hP (Quj P N R t fs hP h J) _
theorem Qqo (P N R:Nat) (xs:List Nat) (hP:0<P) (h:∀x∈xs,x<P):∀t,∀x∈isS P N R xs t,x<P
 | 0=>h
 | t+1=>by rw [isS];exact Quj P N R t _ hP (Qqo P N R xs hP h t) _
theorem Quk {N:Nat} (h:Sz4 N) (t:Nat) (ht:t<lg N):(N/2^(t+1))*(2*2^t)=N/\1<=N/2^(t+1)/\N/2^(t+1)+N/2^(t+1)<=N/\1<=2^t:=by
 have key:∀N∈[2,4,8,16],∀t,t<lg N->(N/2^(t+1))*(2*2^t)=N/\1<=N/2^(t+1)/\N/2^(t+1)+N/2^(t+1)<=N/\1<=2^t:=by decide
 exact key N (by rcases h with rfl | rfl | rfl | rfl <;> decide) t ht
def mS (iv P:Nat) (fs:List Nat):Nat->List Nat
 | 0=>fs
 | k+1=>(mS iv P fs k).set k (fs.getD k 0*iv%P)
theorem Qmy (iv P:Nat) (fs:List Nat):∀k,(mS iv P fs k).length=fs.length
 | 0=>rfl
 | k+1=>by rw [mS,List.length_set,Qmy iv P fs k]
theorem Qul (iv P:Nat) (fs:List Nat):∀k j,k<=fs.length->(mS iv P fs k).getD j 0=if j<k then fs.getD j 0*iv%P else fs.getD j 0
 | 0,j,_=>by simp [mS]
 | k+1,j,h=>by
   rw [mS]
   by_cases hj:j=k
   ·subst hj;rw [if_pos (by omega)];simp [List.getD,Qmy,show j<fs.length by omega]
   ·have e:((mS iv P fs k).set k (fs.getD k 0*iv%P)).getD j 0=(mS iv P fs k).getD j 0:=by simp [List.getD,List.getElem?_set,Ne.symm hj]
    rw [e,Qul iv P fs k j (by omega)]
    by_cases h1:j<k
    ·rw [if_pos h1,if_pos (by omega)]
    ·rw [if_neg h1,if_neg (by omega)]
theorem Q26 (iv P:Nat) (fs:List Nat):mS iv P fs fs.length=fs.map (fun x=>x*iv%P):=by
 apply List.ext_getElem
 ·rw [Qmy,List.length_map]
 ·intro j h1 h2;have hj:j<fs.length:=by rwa [Qmy] at h1
  have:=Qul iv P fs fs.length j (Nat.le_refl _);rw [if_pos hj] at this;simp only [List.getD_eq_getElem?_getD,List.getElem?_eq_getElem h1,List.getElem?_eq_getElem hj,Option.getD_some] at this;rw [this,List.getElem_map]
theorem Qwz (a m:Nat) (hm:0<m):M1.invM a m<m:=by
 unfold M1.invM
 cases h:(List.range m).find? (fun i=>a*i%m==1) with
 | none=>exact hm
 | some i=>
   have:=List.mem_of_find?_eq_some h
   simpa using this
theorem Qw0 {N:Nat} (h:Sz4 N) (k:Nat) (h0:0<k) (hk:k<N):0<Qai (lg N) k 0:=by
 have key:∀N∈[2,4,8,16],∀k,k<N->0<k->0<Qai (lg N) k 0:=by decide +kernel
 exact key N (by rcases h with rfl | rfl | rfl | rfl <;> decide) k hk h0
theorem Qkv (P N R:Nat) (xs:List Nat) (v:Value) (w:World) (hT:Qbb w) (hv:Row w v (toZ xs)) (hP:2≤P∧P≤268435456) (h:Sz4 N) (hR:R<P) (la:xs.length=N) (ha:∀x∈xs,x<P) :
  Calls Tryz.prog 134 #[.agg #[.int .i64 P,.int .i64 N,.int .i64 R],v] w fun e w'=>∃v',e=.returned v'/\Old w w'/\Own w' w.heap.size v' (toZ ((isS P N R xs (lg N)).map (fun x=>x*M1.invM (N%P) P%P))):=by
 obtain ⟨i0,hi,hz0,hz1,hz2⟩:=info_parts Tryz.infoInt;have hs:=Qon h;obtain ⟨b0,o0,cap0,rfl,hb0,hc0⟩:=hv.atZ (by omega);rw [la] at hc0 ⊢;have HC0:Hid (∀j,j<N->w.cell? ⟨b0,o0+j,none⟩=some (.int .i64 ((toZ xs).getD j 0))):=fun j hj=>by rw [hc0 j hj,Qcd]
 have hlx:(toZ xs).length=N:=by rw [Qau,la]
 have HT:=Qaa hT;have cpw:=fun W=>Qh7 P N R W hP hs hR
 have cno:=fun W (hT:Qbb W)=>Qgu N W h hT
 have RC0:Hid (Rc (w.alloc (.cells #[.int .i64 P,.int .i64 N,.int .i64 R] 133)) w.heap.size P N R):=Rc.new w _ _ _;clear hc0 hv hT;go_enter Tryz.func134,Tryz.ntmps134
 go_wp2_with (first
  | (at_make;refine wpList_make_full _ rfl _ _ 22 rfl (w.heap.size+1) 3 i0 (.int .i64 0) 1 Tryz.underlying22 hi hz0 hz1 .i64 .i64 _ _ N rfl rfl rfl rfl (by rw [hz2];omega) (by unfold maxLen;omega) (by simp) ?_;intro w1 hown hgrow;have HO1:Hid (Qbc w1 (w.heap.size+1) (w.heap.size+1) N (List.replicate N 0)):=(by have e:(w.alloc (.cells #[.int .i64 P,.int .i64 N,.int .i64 R] 133)).heap.size=w.heap.size+1:=(by simp);rw [Qbj,e] at hown;exact hown);have HG1:Hid (Old (w.alloc (.cells #[.int .i64 P,.int .i64 N,.int .i64 R] 133)) w1):=Old.by_ (Old.refl _) hgrow (fun b hb=>by cases hb);clear hown hgrow)
  | ((with_reducible refine Qqm (w.heap.size+1) (w.heap.size+1) N b0 o0 cap0 (List.replicate N 0) (toZ xs) ?_ ?_ HO1.out ?_ hlx ?_ ?_);exact rfl;exact rfl;(simp);(intro j hj;exact ((Old.trans ((Old.refl w).alloc _) HG1.out).cell (p:=⟨b0,o0+j,none⟩) hb0).trans (HC0.out j hj));intro w2 ho2 hbe2;have HO2:=Qaa ho2;have HG2:Hid (Old (w.alloc (.cells #[.int .i64 P,.int .i64 N,.int .i64 R] 133)) w2):=Below.trans HG1.out (hbe2.mono (by simp));clear ho2 hbe2))
 have hlg:=Qe5 h
 obtain ⟨FS,HFZ',HFSS',hFN',hFL',hEnd⟩:∃FS:Nat->List Nat,FS 0=xs/\(∀t,FS (t+1)=ipS P N R t (FS t) (N/2^(t+1)))/\(∀t,(FS t).length=N)/\(∀t,∀x∈FS t,x<P)/\isS P N R xs (lg N)=FS (lg N):=
  ⟨isS P N R xs,rfl,fun _=>rfl,fun s=>by rw [Qia,la],fun s=>Qqo P N R xs (by omega) ha s,rfl⟩
 have HFZ:Hid (toZ (FS 0)=toZ xs):=by show _ = _;rw [HFZ']
 have HFSS:=Qaa HFSS';have hFN:=Qaa hFN';have hFL:=Qaa hFL';have HEnd:=Qaa hEnd;clear HFZ' HFSS' hFN' hFL' hEnd;have HLS:=Qaa (Qh6 P R (2*N));have RC2:=Qaa (RC0.out.old HG2.out);have HGw2:=Qaa (Old.trans ((Old.refl w).alloc _) HG2.out);refine Q24 P N R (lg N) (pwS P R (2*N)) w.heap.size w2 RC2 HLS cpw (fun W g=>cno W (HT.out.old (Old.trans HGw2.out g))) _ _ _ _ _ _ _ _ _ _ _ _ _ _ _ _ _ _ _ _ _ _ _ _ _ _ _ _ _ _ _ _ _ _ _ _ _ _ _ _ _ _ _ _ _ _ _ _ _ _ _ _ _ _ _ _ _ _ _ _ _ _ _ _ _ _ _ _ _ _ _ _ _ _ _ _ _ _ _ _ _ _ ?_
 intro kp W u19 u20 u21 u22 u23 gW hPw hkp0;have HPW:=Qaa hPw;have HOW:=Qaa (HO2.out.old gW);have HRW:=Qaa (RC2.out.old gW);have HGW:=Qaa (Old.trans HGw2.out gW)
 have hkp:w.heap.size+1<kp:=by
  have h1:=(World.ownsRow.lt HO2.out (w.heap.size+1) rfl).2;omega
 clear gW hPw hkp0 RC2 HGw2 HO2 HG2;go_wp2_with fail
 go_loopw [25] (fun i V=>∃t:Nat,t<=lg N/\i=.int .i64 t/\Hid (Qbc V (w.heap.size+1) (w.heap.size+1) N (toZ (FS t)))/\Hid (Pw V kp (pwS P R (2*N)))/\Hid (Rc V w.heap.size P N R)/\Hid (Old w V)) (fun i _=>lg N - (intOf i).toNat)
 case atStart=>exact ⟨0,by omega,rfl,(by show Qbc _ _ _ _ _;rw [HFZ.out];exact HOW.out),HPW,HRW,HGW⟩
 case round=>
  obtain ⟨t,htl,rfl,HO5,HP5,HR5,HG5⟩:=hrel;clear HOW HPW HRW HGW;have z1:=HR5.out.c1;have z0:=HR5.out.c0
  by_cases hlt:t<lg N
  ·obtain ⟨p1,p2,p3,p4⟩:=Quk h t hlt
   obtain ⟨FP,HF0',HFS',HFE',HFP',HFQ'⟩:∃FP:Nat->List Nat,FP 0=FS t/\(∀J,FP (J+1)=jnS P (R^(2*N - Qai (lg N) (N/2^(t+1)+J) 0)%P) (J*(2*2^t)) (2^t) (FP J) (2^t))/\FP (N/2^(t+1))=FS (t+1)/\(∀J,(FP J).length=N)/\(∀J,∀x∈FP J,x<P):=
    ⟨ipS P N R t (FS t),rfl,fun J=>rfl,(HFSS.out t).symm,fun J=>by rw [Qku];exact hFN.out t,fun J=>Quj P N R t _ (by omega) (hFL.out t) J⟩
   have hqi:(N:Int)/2^(t+1)=((N/2^(t+1):Nat):Int):=by push_cast;rfl
   obtain ⟨q,hq⟩:∃q,N/2^(t+1)=q:=⟨_,rfl⟩
   obtain ⟨hh,hhh⟩:∃hh,2^t=hh:=⟨_,rfl⟩
   rw [hq] at p1 p2 p3 hqi HFE';rw [hhh] at p1 p4;have HFS:Hid (∀J,toZ (FP (J+1))=toZ (jnS P (R^(2*N - Qai (lg N) (q+J) 0)%P) (J*(2*hh)) hh (FP J) hh)):=fun J=>by rw [HFS' J,hq,hhh]
   have HF0:Hid (toZ (FP 0)=toZ (FS t)):=by show _ = _;rw [HF0']
   have HFE:Hid (toZ (FP q)=toZ (FS (t+1))):=by show _ = _;rw [HFE']
   have HFP:=Qaa HFP';have HFQ:=Qaa HFQ';clear HF0' HFS' HFE' HFP' HFQ' hq hhh;go_wp2_with fail
   try rw [hqi]
   clear hqi
   go_loopw [35] (fun j V=>∃J:Nat,J<=q/\j=.int .i64 J/\Hid (Qbc V (w.heap.size+1) (w.heap.size+1) N (toZ (FP J)))/\Hid (Pw V kp (pwS P R (2*N)))/\Hid (Rc V w.heap.size P N R)/\Hid (Old w V)) (fun j _=>q - (intOf j).toNat)
   case atStart=>exact ⟨0,by omega,rfl,(by show Qbc _ _ _ _ _;rw [HF0.out];exact HO5.out),HP5,HR5,HG5⟩
   case round=>
    obtain ⟨J,hJ,rfl,HO6,HP6,HR6,HG6⟩:=hrel;clear HO5 HP5 HR5 HG5 z0 z1
    by_cases hjl:J<q
    ·have hNX:=HFS.out J;have hbl:=Qg6 h (q+J);have hbp:=Qw0 h (q+J) (by omega) (by omega);have hw0:(pwS P R (2*N)).getD (2*N - Qai (lg N) (q+J) 0) 0=R^(2*N - Qai (lg N) (q+J) 0)%P:=Qor P R (2*N) _ (by omega) (by omega);have hwl:R^(2*N - Qai (lg N) (q+J) 0)%P<P:=Nat.mod_lt _ (by omega)
     have hof:J*(2*hh)+2*hh<=N:=by
      have h1:(J+1)*(2*hh)<=q*(2*hh):=Nat.mul_le_mul_right _ hjl;rw [Nat.add_mul,Nat.one_mul,p1] at h1;exact h1
     have cpa:=fun W=>Qh4 (w.heap.size+1) N J q (2*hh) W hs p1.symm (by omega) (by omega) hjl
     have cbb:=fun W=>Qji N (q+J) W h (by omega)
     have hgl:=(World.ownsRow.lt HO6.out (w.heap.size+1) rfl).2;have csp:=Qub P N R (R^(2*N - Qai (lg N) (q+J) 0)%P) (J*(2*hh)) hh (N - J*(2*hh)) (w.heap.size+1) (w.heap.size+1) (FP J) wr.drew hP hwl (by omega) hof (HO6.out.old (Below.drew (Old.refl wr))) hgl (HFP.out J) (HFQ.out J);rw [<- hNX] at csp;clear hNX;generalize R^(2*N - Qai (lg N) (q+J) 0)%P=w0 at *;generalize Qai (lg N) (q+J) 0=bb at *;go_wp2_with fail;refine Q05 P N R (lg N) q J bb w0 (pwS P R (2*N)) (some ⟨w.heap.size+1,0,none⟩) (some ⟨w.heap.size+1,J*(2*hh),none⟩) (2*hh) (N - J*(2*hh)) w.heap.size kp wr HR6 HP6 (by omega) (by omega) hw0 (by omega) (by omega) cpa cbb (fun w'=>wr.drew.grownBy w' (some (w.heap.size+1))/\Qbc w' (w.heap.size+1) (w.heap.size+1) N (toZ (FP (J+1)))) csp _ _ _ _ _ _ _ _ _ _ _ _ _ _ _ _ _ _ _ _ _ _ _ _ _ _ _ _ _ _ _ _ _ _ _ _ _ _ _ _ _ _ _ _ _ _ _ _ _ _ _ _ _ _ _ _ _ _ _ _ _ _ _ _ _ _ _ _ _ _ _ _ _ _ _ _ _ ?_
     intro V u38 u39 u40 u41 u42 u43 u44 u45 u46 u47 u48 u49 u50 u51 u52 u53 u54 hPS;have HO7:=Qaa hPS.2;have HP7:=Qaa ((HP6.out.old (Below.drew (Old.refl wr))).by_ hPS.1 (fun k hk=>by cases hk;omega));have HR7:=Qaa ((HR6.out.old (Below.drew (Old.refl wr))).by_ hPS.1 (fun k hk=>by cases hk;omega));have HG7:=Qaa (Old.by_ (Below.drew HG6.out) hPS.1 (fun k hk=>by cases hk;omega));clear hPS HO6 HP6 HR6 HG6;go_wp2_with fail;exact ⟨⟨J+1,by omega,by go_num,HO7,HP7,HR7,HG7⟩,by simp [intOf];omega⟩
    ·have d2:decide ((J:Int)<(q:Int))=false:=by simp;omega
     obtain rfl:J=q:=by omega
     have HO8:Hid (Qbc wr (w.heap.size+1) (w.heap.size+1) N (toZ (FS (t+1)))):=by
      have:=HO6.out;rw [HFE.out] at this;exact this
     go_wp2_with fail;exact ⟨⟨t+1,by omega,by go_num,HO8,HP6,HR6,HG6⟩,by simp [intOf];omega⟩
  ·have d1:decide ((t:Int)<((lg N:Nat):Int))=false:=by simp;omega
   obtain rfl:t=lg N:=by omega
   have ci:=fun W=>Qec (N:Int) (P:Int) W (by omega) (decide_eq_true ⟨by omega,by omega⟩)
   have ei:((N:Int)%(P:Int)).toNat=N%P:=by rw [<- Int.natCast_emod,Int.toNat_natCast]
   rw [ei,Int.toNat_natCast] at ci;go_wp2_with fail;refine (ci _).mono ?_
   rintro e w3 ⟨rfl,hw3⟩
   replace hw3:=hw3.symm
   subst hw3;have hfl:=hFN.out (lg N);have hft:=hFL.out (lg N);have HFT:=Qaa (fun j=>getD_lt hft (by omega) j);have HFN:=Qaa hfl
   have HME:Hid (toZ (mS (M1.invM (N%P) P) P (FS (lg N)) N)=toZ ((isS P N R xs (lg N)).map (fun x=>x*M1.invM (N%P) P%P))):=by
    show _ = _
    have e3:=Q26 (M1.invM (N%P) P) P (FS (lg N));rw [hfl] at e3;rw [HEnd.out,e3]
   have hil:=Qwz (N%P) P (by omega);have HMG:Hid (∀k j,k<=N->(mS (M1.invM (N%P) P) P (FS (lg N)) k).getD j 0=if j<k then (FS (lg N)).getD j 0*M1.invM (N%P) P%P else (FS (lg N)).getD j 0):=fun k j hk=>Qul _ _ _ k j (by omega)
   have HML:Hid (∀k,(toZ (mS (M1.invM (N%P) P) P (FS (lg N)) k)).length=N):=fun k=>by rw [Qau,Qmy,hfl]
   have HMS:Hid (∀k,toZ (mS (M1.invM (N%P) P) P (FS (lg N)) (k+1))=(toZ (mS (M1.invM (N%P) P) P (FS (lg N)) k)).set k (((FS (lg N)).getD k 0*M1.invM (N%P) P%P:Nat):Int)):=fun k=>by rw [mS,Qfd]
   have HM0:Hid (toZ (mS (M1.invM (N%P) P) P (FS (lg N)) 0)=toZ (FS (lg N))):=rfl;clear hfl hft;generalize mS (M1.invM (N%P) P) P (FS (lg N))=MS at *;generalize FS (lg N)=fs at *;have HZZ:Hid (∃zz,zz=toZ ((isS P N R xs (lg N)).map (fun x=>x*M1.invM (N%P) P%P))):=⟨_,rfl⟩;obtain ⟨zz,hzz⟩:=HZZ.out;rw [<- hzz] at HME;have HZE:=Qaa hzz;clear hzz HZZ;obtain ⟨iv,hiv⟩:∃iv,M1.invM (N%P) P=iv:=⟨_,rfl⟩
   rw [hiv] at hil HMG HMS ⊢;clear hiv;go_wp2_with fail
   go_loopw [64] (fun i V=>∃k:Nat,k<=N/\i=.int .i64 k/\Hid (Qbc V (w.heap.size+1) (w.heap.size+1) N (toZ (MS k)))/\Hid (Rc V w.heap.size P N R)/\Hid (Old w V)) (fun i _=>N - (intOf i).toNat)
   case atStart=>exact ⟨0,by omega,rfl,(by show Qbc _ _ _ _ _;rw [HM0.out];exact HO5.out),HR5,HG5⟩
   case round=>
    obtain ⟨k,hk,rfl,HO6,HR6,HG6⟩:=hrel;clear HO5 HP5 HR5 HG5 z0 z1
    by_cases hkl:k<N
    ·have i1:(k:Int)<(N:Int):=by omega
     have z0:=HR6.out.c0;have c1:=HO6.out.get (HML.out k) k hkl;rw [Qcd,HMG.out k k hk,if_neg (by omega)] at c1;have c2:=HO6.out.free k;have hx:=HFT.out k;have HS:=HMS.out k;generalize fs.getD k 0=x at *;have b1:x*iv<=72057594037927936:=Nat.le_trans (Nat.mul_le_mul (show x<=268435456 by omega) (show iv<=268435456 by omega)) (by decide);have e1:IntKind.i64.wrap ((x:Int)*(iv:Int))=((x*iv:Nat):Int):=by rw [<- Int.natCast_mul,IntKind.wrap_i64];omega
     have e2:Int.tmod ((x*iv:Nat):Int) (P:Int)=((x*iv%P:Nat):Int):=by rw [Int.tmod_eq_emod_of_nonneg (by omega)];rfl
     have hp0:¬P=0:=by omega
     generalize x*iv%P=y at *;generalize x*iv=m at *
     have HO7:Hid (Qbc (wr.setCell ⟨w.heap.size+1,k,none⟩ (.int .i64 (y:Int))) (w.heap.size+1) (w.heap.size+1) N (toZ (MS (k+1)))):=by
      show Qbc _ _ _ _ _
      rw [HS];exact HO6.out.put k _
     have HR7:Hid (Rc (wr.setCell ⟨w.heap.size+1,k,none⟩ (.int .i64 (y:Int))) w.heap.size P N R):=HR6.out.by_ (HO6.out.gby k _) (fun b hb=>by injection hb with hb;omega);have HG7:Hid (Old w (wr.setCell ⟨w.heap.size+1,k,none⟩ (.int .i64 (y:Int)))):=HG6.out.own (p:=⟨w.heap.size+1,k,none⟩) (by show _<=w.heap.size+1;omega) _;clear HS;go_wp2_with fail
     go_region
     all_goals
      go_wp2_with fail;exact ⟨⟨k+1,by omega,by go_num,HO7.out,HR7.out.old ((Old.refl _).drewN 1),HG7.out.drewN 1⟩,by simp [intOf];omega⟩
    ·have d2:decide ((k:Int)<(N:Int))=false:=by simp;omega
     obtain rfl:k=N:=by omega
     have HF:Hid (Own wr w.heap.size (.slice (some ⟨w.heap.size+1,0,none⟩) k k) (toZ ((isS P k R xs (lg k)).map (fun x=>x*M1.invM (k%P) P%P)))):=by
      have:=HO6.out.own (HML.out k);rw [HME.out,HZE.out] at this;exact this.low (by omega)
     go_wp2_with fail;go_ret;exact ⟨_,rfl,HG6.out,HF.out⟩
end Go.Proofs.YthcidnnkakppcaaGreatDoor
namespace Go.Proofs.YthcidnnkakppcaaGreatDoor
theorem Qym (P w0 off hh:Nat) (fs:List Nat) (hl:off+2*hh≤fs.length):∀i,i≤hh→∀m,(jnS P w0 off hh fs i).getD m 0 =
  if off<=m/\m<off+i then (fs.getD m 0+fs.getD (m+hh) 0)%P else if off+hh<=m/\m<off+hh+i then (fs.getD (m - hh) 0+P - fs.getD m 0)*w0%P else fs.getD m 0
 | 0,_,m=>by
   rw [if_neg (by omega),if_neg (by omega)];rfl
 | i+1,hi,m=>by
   have ih:=Qym P w0 off hh fs hl i (by omega);have hln:=Qkq P w0 off hh fs i;have e1:(jnS P w0 off hh fs i).getD (off+i) 0=fs.getD (off+i) 0:=by rw [ih,if_neg (by omega),if_neg (by omega)]
   have e2:(jnS P w0 off hh fs i).getD (off+hh+i) 0=fs.getD (off+hh+i) 0:=by rw [ih,if_neg (by omega),if_neg (by omega)]
   rw [jnS,Q20 _ _ _ _ (by rw [List.length_set,hln];omega),Q20 _ _ _ _ (by rw [hln];omega),e1,e2,ih m]
   by_cases h1:m=off+hh+i
   ·subst h1;rw [if_pos rfl,if_neg (by omega),if_pos (by omega),show off+hh+i - hh=off+i by omega]
   ·rw [if_neg h1]
    by_cases h2:m=off+i
    ·subst h2;rw [if_pos rfl,if_pos (by omega),show off+i+hh=off+hh+i by omega]
    ·rw [if_neg h2]
     by_cases h3:off<=m/\m<off+i
     ·rw [if_pos h3,if_pos (by omega)]
     ·rw [if_neg h3]
      by_cases h4:off+hh<=m/\m<off+hh+i
      ·rw [if_pos h4,if_neg (by omega),if_pos (by omega)]
      ·rw [if_neg h4,if_neg (by omega),if_neg (by omega)]
theorem Qyn (P N R t hh:Nat) (fs:List Nat) (hl:fs.length=N) (hD:2^t=hh) (hN:N/2^(t+1)*(2*hh)=N) (h0:0<hh):∀J,J≤N/2^(t+1)→∀m,m<N→(ipS P N R t fs J).getD m 0 =
  if m/(2*hh)<J then (if m%(2*hh)<hh then (fs.getD m 0+fs.getD (m+hh) 0)%P else (fs.getD (m - hh) 0+P - fs.getD m 0)*(R^(2*N - Qai (lg N) (N/2^(t+1)+m/(2*hh)) 0)%P)%P) else fs.getD m 0
 | 0,_,m,_=>by rw [if_neg (Nat.not_lt_zero _)];rfl
 | J+1,hJ,m,hm=>by
   have ih:=Qyn P N R t hh fs hl hD hN h0 J (by omega)
   have hb:(J+1)*(2*hh)<=N:=by
    have:=Nat.mul_le_mul_right (2*hh) hJ;rw [hN] at this;exact this
   have hb':J*(2*hh)+2*hh<=N:=by rw [Nat.add_mul,Nat.one_mul] at hb;exact hb
   rw [ipS,hD,Qym P _ _ hh _ (by rw [Qku,hl];exact hb') hh (Nat.le_refl _) m];have hdl:=Qt9 m (2*hh) (by omega)
   by_cases hj:m/(2*hh)=J
   ·rw [hj] at hdl
    have hg:∀m',J*(2*hh)<=m'->m'<J*(2*hh)+2*hh->(ipS P N R t fs J).getD m' 0=fs.getD m' 0:=fun m' a b=>by
     rw [ih m' (by omega),dv a b,if_neg (by omega)]
    rw [if_pos (show m/(2*hh)<J+1 by omega),hj];clear ih
    by_cases hlo:m%(2*hh)<hh
    ·rw [if_pos (by omega),if_pos hlo,hg m (by omega) (by omega),hg (m+hh) (by omega) (by omega)]
    ·rw [if_neg (by omega),if_pos (by omega),if_neg hlo,hg m (by omega) (by omega),hg (m - hh) (by omega) (by omega)]
   ·have hne:¬(J*(2*hh)≤m∧m<J*(2*hh)+2*hh):=fun h=>hj (dv h.1 h.2)
    rw [if_neg (by omega),if_neg (by omega),ih m hm]
    by_cases hlt:m/(2*hh)<J
    ·rw [if_pos hlt,if_pos (show m/(2*hh)<J+1 by omega)]
    ·rw [if_neg hlt,if_neg (show ¬m/(2*hh)<J+1 by omega)]
def Qc0 (f:Nat->Int) (a:Nat):Nat->Int
 | 0=>0
 | n+1=>Qc0 f a n+f (a+n)
theorem Qg8 (f:Nat->Int) (a n:Nat):∀m,Qc0 f a (n+m)=Qc0 f a n+Qc0 f (a+n) m
 | 0=>by simp [Qc0]
 | m+1=>by rw [<- Nat.add_assoc,Qc0,Qg8 f a n m,Qc0,Nat.add_assoc a n m];omega
theorem Qgg {P:Int} {f g:Nat->Int} (a:Nat):∀n,(∀j,j<n->Cg P (f (a+j)) (g (a+j)))->Cg P (Qc0 f a n) (Qc0 g a n)
 | 0,_=>Cg.refl _ _
 | n+1,h=>(Qgg a n (fun j hj=>h j (by omega))).add (h n (by omega))
theorem Qg9 (f:Nat->Int) (c:Int) (a:Nat):∀n,Qc0 (fun k=>f k*c) a n=Qc0 f a n*c
 | 0=>by simp [Qc0]
 | n+1=>by rw [Qc0,Qg9 f c a n,Qc0,Int.add_mul]
theorem Q06 (P N hh Q:Nat) (fs gs:List Nat) (W:Nat→Nat) (X:Nat→Int) (B:Int) (e:Nat→Nat) (hP:0<P) (hN:Q*(2*hh)=N) (h0:0<hh) (hlt:∀m,fs.getD m 0<P)
  (hg:∀m,m<N->gs.getD m 0=if m%(2*hh)<hh then (fs.getD m 0+fs.getD (m+hh) 0)%P else (fs.getD (m - hh) 0+P - fs.getD m 0)*W (m/(2*hh))%P)
  (hw:∀k,k<N->Cg P (B^(e k*hh)) (if k%(2*hh)<hh then (W (k/(2*hh)):Int) else -(W (k/(2*hh)):Int)))
  (ih:∀J i,J*hh+hh<=N->i<hh->Cg P (fs.getD (J*hh+i) 0:Nat) (Qc0 (fun k=>X k*B^(e k*i)) (J*hh) hh))
  (J i:Nat) (hJ:J<Q) (hi:i<2*hh):Cg P (gs.getD (J*(2*hh)+i) 0:Nat) (Qc0 (fun k=>X k*B^(e k*i)) (J*(2*hh)) (2*hh)):=by
 have hb:J*(2*hh)+2*hh<=N:=by
  have:=Nat.mul_le_mul_right (2*hh) (show J+1<=Q by omega);rw [hN,Nat.add_mul,Nat.one_mul] at this;exact this
 obtain ⟨off,eo⟩:∃off,off=J*(2*hh):=⟨_,rfl⟩
 have eo1:2*J*hh=off:=by rw [eo,Nat.mul_comm 2 J,Nat.mul_assoc]
 have eo2:(2*J+1)*hh=off+hh:=by rw [Nat.add_mul,eo1,Nat.one_mul]
 have hgo:∀i,i<2*hh->(off+i)/(2*hh)=J/\(off+i)%(2*hh)=i:=fun i hi=>by
  have h1:(off+i)/(2*hh)=J:=dv (by omega) (by omega);have h2:=Qt9 (off+i) (2*hh) (by omega);rw [h1] at h2;exact ⟨h1,by omega⟩
 have ia:=fun i hi=>ih (2*J) i (by rw [eo1];omega) hi
 have ib:=fun i hi=>ih (2*J+1) i (by rw [eo2];omega) hi
 rw [eo1] at ia;rw [eo2] at ib;rw [<- eo] at hb ⊢;rw [show 2*hh=hh+hh by omega,Qg8,hg (off+i) (by omega),(hgo i hi).1,(hgo i hi).2]
 by_cases hlo:i<hh
 ·rw [if_pos hlo];refine (Cg.mod P _).trans ?_
  push_cast
  have h2:=ib i hlo;rw [show off+hh+i=off+i+hh by omega] at h2;exact (ia i hlo).add h2
 ·rw [if_neg hlo];obtain ⟨j,rfl⟩:∃j,i=hh+j:=⟨i - hh,by omega⟩
  have hj:j<hh:=by omega
  have h1:=ia j hj;have h2:=ib j hj;rw [show off+(hh+j) - hh=off+j by omega,show off+(hh+j)=off+hh+j by omega];refine (Cg.mod P _).trans ?_
  have hl1:=hlt (off+hh+j)
  have e1:(((fs.getD (off+j) 0+P - fs.getD (off+hh+j) 0)*W J:Nat):Int)=((fs.getD (off+j) 0:Nat):Int)*(W J:Int)+((fs.getD (off+hh+j) 0:Nat):Int)*(-(W J:Int))+(P:Int)*(W J:Int):=by
   rw [Int.natCast_mul,show ((fs.getD (off+j) 0+P - fs.getD (off+hh+j) 0:Nat):Int)=((fs.getD (off+j) 0:Nat):Int)+(P:Int) - ((fs.getD (off+hh+j) 0:Nat):Int) by omega]
   grind
  rw [e1]
  have s1:Cg P (Qc0 (fun k=>X k*B^(e k*(hh+j))) off hh) (Qc0 (fun k=>X k*B^(e k*j)) off hh*(W J:Int)):=by
   rw [<- Qg9];refine Qgg off hh (fun m hm=>?_);have:=hw (off+m) (by omega);rw [(hgo m (by omega)).1,(hgo m (by omega)).2,if_pos hm] at this;rw [Nat.mul_add,Int.pow_add,Int.mul_comm (B^(e (off+m)*hh)),<- Int.mul_assoc];exact (Cg.refl _ _).mul this
  have s2:Cg P (Qc0 (fun k=>X k*B^(e k*(hh+j))) (off+hh) hh) (Qc0 (fun k=>X k*B^(e k*j)) (off+hh) hh*(-(W J:Int))):=by
   rw [<- Qg9];refine Qgg (off+hh) hh (fun m hm=>?_);have:=hw (off+hh+m) (by omega);rw [show off+hh+m=off+(hh+m) by omega,(hgo (hh+m) (by omega)).1,(hgo (hh+m) (by omega)).2,if_neg (by omega)] at this;rw [show off+hh+m=off+(hh+m) by omega,Nat.mul_add,Int.pow_add,Int.mul_comm (B^(e (off+(hh+m))*hh)),<- Int.mul_assoc];exact (Cg.refl _ _).mul this
  refine Cg.trans ?_ (s1.add s2).symm
  have h3:=(h1.mul (Cg.refl (P:Int) (W J:Int))).add (h2.mul (Cg.refl (P:Int) (-(W J:Int))));refine Cg.trans ?_ h3
  exact ⟨(W J:Int),rfl⟩
end Go.Proofs.YthcidnnkakppcaaGreatDoor
namespace Go.Proofs.YthcidnnkakppcaaGreatDoor
open M1
theorem Qyo {P N R:Nat} {B:Nat} (r1:Cg P ((R:Int)^(2*N)) 1) (r2:Cg P ((R:Int)^N) (-1)) (hB:Cg P ((R:Int)*(B:Int)) 1) :
  Cg P ((B:Int)^(2*N)) 1/\Cg P ((B:Int)^N) (-1)/\∀z,z<=2*N->Cg P ((B:Int)^z) ((R:Int)^(2*N - z)):=by
 have hz:=fun z=>by
  have:=hB.pow z;rw [Int.one_pow,Int.mul_pow] at this;exact this
 refine ⟨?_,?_,fun z hz'=>?_⟩
 ·have h:=(r1.mul (Cg.refl (P:Int) ((B:Int)^(2*N)))).symm.trans (hz (2*N));rw [Int.one_mul] at h;exact h
 ·have h:=((r2.mul (Cg.refl (P:Int) ((B:Int)^N))).symm.trans (hz N)).neg;rw [Int.neg_mul,Int.one_mul,Int.neg_neg] at h;exact h
 ·have h1:=(Cg.refl (P:Int) ((R:Int)^(2*N - z))).mul (hz z);rw [Int.mul_one,<- Int.mul_assoc,<- Int.pow_add,show 2*N - z+z=2*N by omega] at h1;have h2:=(r1.mul (Cg.refl (P:Int) ((B:Int)^z))).symm.trans h1;rw [Int.one_mul] at h2;exact h2
theorem halt {N:Nat} (h:Sz4 N) (t:Nat) (ht:t<lg N):∃s,s<lg N/\N/2^(t+1)=2^s/\N/2^s=2*2^t/\N/2^(t+1)*(2*2^t)=N:=by
 have key:∀M∈[2,4,8,16],∀t,t<lg M->lg M - 1 - t<lg M/\M/2^(t+1)=2^(lg M - 1 - t)/\M/2^(lg M - 1 - t)=2*2^t/\M/2^(t+1)*(2*2^t)=M:=by
  intro M hM t ht;simp only [List.mem_cons,List.not_mem_nil,or_false] at hM;have hs4:t<4:=by have:=(Qe5 (N:=M) (by omega)).2.2;omega
  rcases hM with rfl | rfl | rfl | rfl <;> (have:t=0∨t=1∨t=2∨t=3:=by omega) <;> rcases this with rfl | rfl | rfl | rfl <;> revert ht <;> decide
 exact ⟨_,key N (by simp only [List.mem_cons,List.not_mem_nil,or_false];omega) t ht⟩
theorem Qum (P N R B:Nat) (xs:List Nat) (hS:Sz4 N) (hl:xs.length=N) (hP:0<P) (hlt:∀x∈xs,x<P) (r1:Cg P ((R:Int)^(2*N)) 1) (r2:Cg P ((R:Int)^N) (-1)) (hB:Cg P ((R:Int)*(B:Int)) 1):∀t,t≤lg N→∀J i,J*2^t+2^t≤N→i<2^t→
  Cg P (((isS P N R xs t).getD (J*2^t+i) 0:Nat):Int) (Qc0 (fun k=>((xs.getD k 0:Nat):Int)*(B:Int)^((2*Qai (lg N) k 0+1)*i)) (J*2^t) (2^t))
 | 0,_,J,i,hJ,hi=>by
   obtain rfl:i=0:=by simpa using hi
   simp only [isS,Qc0,Nat.pow_zero,Nat.mul_one,Nat.add_zero,Nat.mul_zero,Int.zero_add,Int.pow_zero,Int.mul_one];exact Cg.refl _ _
 | t+1,ht,J,i,hJ,hi=>by
   obtain ⟨s,hs,q1,q2,q3⟩:=halt hS t (by omega);obtain ⟨b1,b2,b3⟩:=Qyo r1 r2 hB;have h0:0<2^t:=Nat.pos_of_ne_zero (by simp);have ih:=Qum P N R B xs hS hl hP hlt r1 r2 hB t (by omega);have hg:=Qyn P N R t (2^t) (isS P N R xs t) (by rw [Qia,hl]) rfl q3 h0 (N/2^(t+1)) (Nat.le_refl _);have hf:=fun k hk=>fact hS s hs k hk
   have hbk:=fun k=>Qg6 hS k
   have hlt2:=fun m=>getD_lt (Qqo P N R xs hP hlt t) hP m
   rw [isS];rw [q2,<- q1] at hf;generalize isS P N R xs t=fs at *;generalize N/2^(t+1)=Q at *;rw [show (2:Nat)^(t+1)=2*2^t by rw [Nat.pow_succ,Nat.mul_comm]] at hJ hi ⊢;generalize 2^t=hh at *;rw [show 2*hh/2=hh by omega] at hf
   have hJQ:J<Q:=by
    have h1:(J+1)*(2*hh)<=Q*(2*hh):=by rw [Nat.add_mul,Nat.one_mul,q3];exact hJ
    have:=Nat.le_of_mul_le_mul_right h1 (by omega);omega
   have hmq:∀m,m<N->m/(2*hh)<Q:=fun m hm=>by
    rw [Nat.div_lt_iff_lt_mul (by omega),q3];exact hm
   refine Q06 P N hh Q fs _ (fun J=>R^(2*N - Qai (lg N) (Q+J) 0)%P) (fun k=>((xs.getD k 0:Nat):Int)) (B:Int) (fun k=>2*Qai (lg N) k 0+1) hP q3 h0 hlt2 (fun m hm=>?_) (fun k hk=>?_) ih J i hJQ hi
   ·rw [hg m hm,if_pos (hmq m hm)]
   ·have hfk:=hf k hk;have hz:=hbk (Q+k/(2*hh));generalize Qai (lg N) (Q+k/(2*hh)) 0=z at *
    have hm:Cg P ((R^(2*N - z)%P:Nat):Int) ((R:Int)^(2*N - z)):=by
     have:=Cg.mod P (R^(2*N - z))
     push_cast at this ⊢
     exact this
    by_cases hlo:k%(2*hh)<hh
    ·rw [if_pos hlo] at hfk ⊢;exact (Qgd b1 _ _ hfk).trans ((b3 z (by omega)).trans hm.symm)
    ·rw [if_neg hlo] at hfk ⊢;refine (Qgd b1 _ _ hfk).trans ?_
     rw [Int.pow_add];refine (((b3 z (by omega)).trans hm.symm).mul b2).trans ?_
     rw [Int.mul_neg,Int.mul_one];exact Cg.refl _ _
theorem Qkw (P B:Nat) (ps xs:List Nat) (i:Nat):∀c,Cg P ((invS P B ps xs i c:Nat):Int) (Qc0 (fun k=>((xs.getD k 0:Nat):Int)*(B:Int)^(ps.getD k 0*i)) 0 c)
 | 0=>Cg.refl _ _
 | c+1=>by
   rw [invS,Qc0,Nat.zero_add];refine (Cg.mod P _).trans ?_
   rw [Int.natCast_add,Int.natCast_mul];refine (Qkw P B ps xs i c).add ((Cg.refl _ _).mul ?_);have:=Cg.mod P (B^(ps.getD c 0*i))
   push_cast at this ⊢
   exact this
theorem Qqp {P N R:Nat} (hP:2<=P) (hN:0<N) (r1:Cg P ((R:Int)^(2*N)) 1):Cg P ((R:Int)*((invM R P:Nat):Int)) 1:=by
 have e:Cg P ((R*(R^(2*N - 1)%P):Nat):Int) 1:=by
  have h1:=(Cg.refl (P:Int) (R:Int)).mul (Cg.mod P (R^(2*N - 1)));rw [Int.natCast_mul];refine h1.trans ?_
  rw [<- Int.natCast_mul,Nat.mul_comm,<- Nat.pow_succ,show (2*N - 1).succ=2*N by omega]
  push_cast
  exact r1
 have h2:R*(R^(2*N - 1)%P)%P=1:=Cg.eq_of_lt ((Cg.mod P _).trans e) (Nat.mod_lt _ (by omega)) (by omega);rw [Qnr R _ P (Nat.mod_lt _ (by omega)) h2,<- Int.natCast_mul];exact e
theorem Qw1 (P N R:Nat) (xs:List Nat) (hS:Sz4 N) (hl:xs.length=N) (hP:2≤P) (hlt:∀x∈xs,x<P) (r1:Cg P ((R:Int)^(2*N)) 1) (r2:Cg P ((R:Int)^N) (-1)) :
  (isS P N R xs (lg N)).map (fun x=>x*invM (N%P) P%P)=Q03 P N R xs:=by
 have hs:=Qon hS;refine Qkp (by rw [List.length_map,Qia,Qks,hl]) (fun k hk=>?_);rw [Qks] at hk;have hk2:k<(isS P N R xs (lg N)).length:=by rw [Qia,hl];exact hk
 have e0:((isS P N R xs (lg N)).map (fun x=>x*invM (N%P) P%P)).getD k 0=(isS P N R xs (lg N)).getD k 0*invM (N%P) P%P:=by simp [List.getD,hk2]
 rw [e0,Qqn P N R xs k hk];have h1:=Qum P N R (invM R P) xs hS hl (by omega) hlt r1 r2 (Qqp hP (by omega) r1) (lg N) (Nat.le_refl _) 0 k;rw [(Qe5 hS).1,Nat.zero_mul,Nat.zero_add,Nat.zero_add] at h1;have h2:=Qkw P (invM R P) (Qvm N) xs k N
 have h3:Cg P (Qc0 (fun j=>((xs.getD j 0:Nat):Int)*((invM R P:Nat):Int)^((2*Qai (lg N) j 0+1)*k)) 0 N) (Qc0 (fun j=>((xs.getD j 0:Nat):Int)*((invM R P:Nat):Int)^((Qvm N).getD j 0*k)) 0 N):=by
  refine Qgg 0 N (fun j hj=>?_);rw [Nat.zero_add,Qg7 N j hj];exact Cg.refl _ _
 have h4:=((h1 (Nat.le_refl _) hk).trans h3).trans h2.symm;rw [Cg.eq_of_lt h4 (getD_lt (Qqo P N R xs (by omega) hlt _) (by omega) k) (Q02 _ _ _ _ _ (by omega) _)]
theorem Qmz (f g:Nat->Int) (a:Nat):∀n,Qc0 (fun k=>f k+g k) a n=Qc0 f a n+Qc0 g a n
 | 0=>by simp [Qc0]
 | n+1=>by rw [Qc0,Qmz f g a n,Qc0,Qc0];omega
theorem Qgh (c:Int) (a:Nat):∀n:Nat,Qc0 (fun _=>c) a n=(n:Int)*c
 | 0=>by simp [Qc0]
 | n+1=>by rw [Qc0,Qgh c a n,Int.natCast_add,Int.add_mul];simp
theorem Qjm {P:Int} (f:Nat->Int) (s h:Nat):∀n,(∀i,i<n->Cg P (f (s+h+i)) (-(f (s+i))))->Cg P (Qc0 f (s+h) n) (-(Qc0 f s n))
 | 0,_=>by simp [Qc0];exact Cg.refl _ _
 | n+1,H=>by
   rw [Qc0,Qc0,Int.neg_add];exact (Qjm f s h n (fun i hi=>H i (by omega))).add (H n (by omega))
theorem Qjn {P:Int} (f:Nat->Int) (h Q:Nat) (hf:∀J i,J<Q->i<h->Cg P (f (J*(2*h)+h+i)) (-(f (J*(2*h)+i)))):∀J,J<=Q->Cg P (Qc0 f 0 (J*(2*h))) 0
 | 0,_=>by rw [Nat.zero_mul];exact Cg.refl _ _
 | J+1,hJ=>by
   rw [Nat.add_mul,Nat.one_mul,Qg8,Nat.zero_add,show 2*h=h+h by omega,Qg8,<- show 2*h=h+h by omega];have h1:=Qjn f h Q hf J (by omega);have h2:=Qjm f (J*(2*h)) h h (fun i hi=>hf J i (by omega) hi);have h3:=h1.add ((Cg.refl P (Qc0 f (J*(2*h)) h)).add h2);rw [Int.add_right_neg,Int.add_zero] at h3;exact h3
def pw2 (d:Nat):Nat:=if d%2=1 then 1 else if d%4=2 then 2 else if d%8=4 then 4 else 8
def Qrv (N d:Nat):Bool:=decide (N%(2*pw2 d)=0)&&(List.range N).all (fun k=>decide (¬k%(2*pw2 d)<pw2 d)||decide (((2*Qai (lg N) k 0+1)*d+N)%(2*N)=((2*Qai (lg N) (k+pw2 d) 0+1)*d)%(2*N)))
theorem Q4j:∀d,d<2->0<d->Qrv 2 d=true:=by decide +kernel
theorem Q4k:∀d,d<4->0<d->Qrv 4 d=true:=by decide +kernel
theorem Q4l:∀d,d<8->0<d->Qrv 8 d=true:=by decide +kernel
theorem Q27:∀d,d<16->0<d->Qrv 16 d=true:=by decide +kernel
theorem pairs {N:Nat} (h:Sz4 N) (d:Nat) (hd:d<N) (h0:0<d):N%(2*pw2 d)=0/\∀k,k<N->k%(2*pw2 d)<pw2 d->((2*Qai (lg N) k 0+1)*d+N)%(2*N)=((2*Qai (lg N) (k+pw2 d) 0+1)*d)%(2*N):=by
 have key:Qrv N d=true:=by
  rcases h with rfl | rfl | rfl | rfl
  ·exact Q4j d hd h0
  ·exact Q4k d hd h0
  ·exact Q4l d hd h0
  ·exact Q27 d hd h0
 unfold Qrv at key;rw [Bool.and_eq_true] at key;refine ⟨of_decide_eq_true key.1,fun k hk hlt=>?_⟩;have:=List.all_eq_true.1 key.2 k (List.mem_range.2 hk);rw [Bool.or_eq_true] at this;rcases this with h1 | h1
 ·exact absurd hlt (of_decide_eq_true h1)
 ·exact of_decide_eq_true h1
theorem Q07 (d:Nat):0<pw2 d:=by unfold pw2;split <;> (try split) <;> (try split) <;> omega
theorem Q4z {P N T:Nat} (hS:Sz4 N) (t1:Cg P ((T:Int)^(2*N)) 1) (t2:Cg P ((T:Int)^N) (-1)) (d:Nat) (hd:d<N) (h0:0<d) :
  Cg P (Qc0 (fun k=>(T:Int)^((2*Qai (lg N) k 0+1)*d)) 0 N) 0:=by
 obtain ⟨hm,hp⟩:=pairs hS d hd h0;have hpos:=Q07 d
 have e:N=N/(2*pw2 d)*(2*pw2 d):=by
  have:=Nat.div_add_mod N (2*pw2 d);rw [hm,Nat.add_zero,Nat.mul_comm] at this;exact this.symm
 have key:=Qjn (P:=P) (fun k=>(T:Int)^((2*Qai (lg N) k 0+1)*d)) (pw2 d) (N/(2*pw2 d)) (fun J i hJ hi=>by
  have hb:J*(2*pw2 d)+2*pw2 d<=N:=by
   have:=Nat.mul_le_mul_right (2*pw2 d) (show J+1<=N/(2*pw2 d) by omega);rw [<- e,Nat.add_mul,Nat.one_mul] at this;exact this
  have hk:=hp (J*(2*pw2 d)+i) (by omega) (by rw [Nat.mul_comm,Nat.mul_add_mod,Nat.mod_eq_of_lt (by omega)];exact hi);have ek:J*(2*pw2 d)+pw2 d+i=J*(2*pw2 d)+i+pw2 d:=by omega
  show Cg P ((T:Int)^((2*Qai (lg N) (J*(2*pw2 d)+pw2 d+i) 0+1)*d)) (-((T:Int)^((2*Qai (lg N) (J*(2*pw2 d)+i) 0+1)*d)))
  rw [ek];have c1:=Qgd t1 _ _ hk.symm;have c2:=(Qgd t1 ((2*Qai (lg N) (J*(2*pw2 d)+i) 0+1)*d+N) _ rfl).symm;refine (c1.trans c2).trans ?_
  rw [Int.pow_add];have:=(Cg.refl (P:Int) ((T:Int)^((2*Qai (lg N) (J*(2*pw2 d)+i) 0+1)*d))).mul t2;rw [Int.mul_neg,Int.mul_one] at this;exact this) (N/(2*pw2 d)) (Nat.le_refl _)
 rw [<- e] at key;exact key
theorem Qw2 (R B:Int) (P:Int) (hB:Cg P (R*B) 1) (p h i:Nat):Cg P ((R^p)^h*B^(p*i)) (if i<=h then R^(p*(h - i)) else B^(p*(i - h))):=by
 have hz:=fun z=>by
  have:=hB.pow z;rw [Int.one_pow,Int.mul_pow] at this;exact this
 rw [<- Int.pow_mul]
 by_cases hi:i<=h
 ·rw [if_pos hi,show p*h=p*(h - i)+p*i by rw [<- Nat.mul_add];congr 1;omega,Int.pow_add,Int.mul_assoc];have:=(Cg.refl P (R^(p*(h - i)))).mul (hz (p*i));rw [Int.mul_one] at this;exact this
 ·rw [if_neg hi,show p*i=p*h+p*(i - h) by rw [<- Nat.mul_add];congr 1;omega,Int.pow_add,<- Int.mul_assoc];have:=(hz (p*h)).mul (Cg.refl P (B^(p*(i - h))));rw [Int.one_mul] at this;exact this
theorem Qqq {P N R B:Nat} (hS:Sz4 N) (r1:Cg P ((R:Int)^(2*N)) 1) (r2:Cg P ((R:Int)^N) (-1)) (hB:Cg P ((R:Int)*(B:Int)) 1) (c:Nat→Int) (i:Nat) (hi:i<N) :
  ∀h,h<=N->Cg P (Qc0 (fun k=>evI c ((R:Int)^(2*Qai (lg N) k 0+1)) h*(B:Int)^((2*Qai (lg N) k 0+1)*i)) 0 N) (if i<h then (N:Int)*c i else 0)
 | 0,_=>by
   rw [if_neg (by omega)]
   have:(fun k=>evI c ((R:Int)^(2*Qai (lg N) k 0+1)) 0*(B:Int)^((2*Qai (lg N) k 0+1)*i))=fun _=>(0:Int):=by
    funext k
    simp [evI]
   rw [this,Qgh,Int.mul_zero];exact Cg.refl _ _
 | h+1,hh=>by
   have ih:=Qqq hS r1 r2 hB c i hi h (by omega);obtain ⟨b1,b2,_⟩:=Qyo r1 r2 hB
   have e:(fun k=>evI c ((R:Int)^(2*Qai (lg N) k 0+1)) (h+1)*(B:Int)^((2*Qai (lg N) k 0+1)*i))=fun k=>evI c ((R:Int)^(2*Qai (lg N) k 0+1)) h*(B:Int)^((2*Qai (lg N) k 0+1)*i)+(((R:Int)^(2*Qai (lg N) k 0+1))^h*(B:Int)^((2*Qai (lg N) k 0+1)*i))*c h:=by
    funext k
    rw [evI]
    grind
   rw [e,Qmz,Qg9]
   have hs:Cg P (Qc0 (fun k=>((R:Int)^(2*Qai (lg N) k 0+1))^h*(B:Int)^((2*Qai (lg N) k 0+1)*i)) 0 N) (if i=h then (N:Int) else 0):=by
    refine (Qgg (g:=fun k=>if i<=h then (R:Int)^((2*Qai (lg N) k 0+1)*(h - i)) else (B:Int)^((2*Qai (lg N) k 0+1)*(i - h))) 0 N (fun j _=>Qw2 (R:Int) (B:Int) P hB (2*Qai (lg N) (0+j) 0+1) h i)).trans ?_
    by_cases h1:i=h
    ·subst h1;rw [if_pos rfl]
     have:(fun k=>if i<=i then (R:Int)^((2*Qai (lg N) k 0+1)*(i - i)) else (B:Int)^((2*Qai (lg N) k 0+1)*(i - i)))=fun _=>(1:Int):=by
      funext k
      rw [if_pos (Nat.le_refl _),Nat.sub_self,Nat.mul_zero,Int.pow_zero]
     rw [this,Qgh,Int.mul_one];exact Cg.refl _ _
    ·rw [if_neg h1]
     by_cases h2:i<=h
     ·have:(fun k=>if i≤h then (R:Int)^((2*Qai (lg N) k 0+1)*(h - i)) else (B:Int)^((2*Qai (lg N) k 0+1)*(i - h)))=fun k=>(R:Int)^((2*Qai (lg N) k 0+1)*(h - i)):=by
       funext k
       rw [if_pos h2]
      rw [this];exact Q4z hS r1 r2 (h - i) (by omega) (by omega)
     ·have:(fun k=>if i≤h then (R:Int)^((2*Qai (lg N) k 0+1)*(h - i)) else (B:Int)^((2*Qai (lg N) k 0+1)*(i - h)))=fun k=>(B:Int)^((2*Qai (lg N) k 0+1)*(i - h)):=by
       funext k
       rw [if_neg h2]
      rw [this];exact Q4z hS b1 b2 (i - h) (by omega) (by omega)
   have h3:=ih.add (hs.mul (Cg.refl (P:Int) (c h)));refine h3.trans ?_
   by_cases h1:i=h
   ·subst h1;rw [if_neg (by omega),if_pos rfl,if_pos (by omega),Int.zero_add];exact Cg.refl _ _
   ·rw [if_neg h1,Int.zero_mul,Int.add_zero]
    by_cases h2:i<h
    ·rw [if_pos h2,if_pos (by omega)];exact Cg.refl _ _
    ·rw [if_neg h2,if_neg (by omega)];exact Cg.refl _ _
theorem Qw3 {P N:Nat} (hS:Sz4 N) (hP:2<=P) (ho:P%2=1):Cg P ((N:Int)*((invM (N%P) P:Nat):Int)) 1:=by
 have hN:=(Qe5 hS).1;obtain ⟨h,hh⟩:∃h,2*h=P+1:=⟨(P+1)/2,by omega⟩
 have e1:Cg P (((N*(h^lg N%P):Nat)):Int) 1:=by
  have h1:=(Cg.refl (P:Int) (N:Int)).mul (Cg.mod P (h^lg N));rw [Int.natCast_mul];refine h1.trans ?_
  rw [<- Int.natCast_mul]
  have e2:N*h^lg N=(P+1)^lg N:=by
   rw [<- hh,Nat.mul_pow,hN]
  rw [e2];have h2:Cg P ((P:Int)+1) 1:=⟨1,by omega⟩;have h3:=h2.pow (lg N);rw [Int.one_pow] at h3
  push_cast
  exact h3
 have h2:N%P*(h^lg N%P)%P=1:=by
  rw [Nat.mod_mul_mod];exact Cg.eq_of_lt ((Cg.mod P _).trans e1) (Nat.mod_lt _ (by omega)) (by omega)
 rw [Qnr (N%P) _ P (Nat.mod_lt _ (by omega)) h2,<- Int.natCast_mul];exact e1
theorem Qjo (P N R:Nat) (xs:List Nat) (k:Nat) (hk:k<N):Cg P (((Qf3 P N R xs).getD k 0:Nat):Int) (evI (fun i=>((xs.getD i 0:Nat):Int)) ((R:Int)^(2*Qai (lg N) k 0+1)) N):=by
 rw [Qkg P N R xs k hk,Qg7 N k hk];have h2:=Qt7 P (R^(2*Qai (lg N) k 0+1)%P) xs N N (Nat.le_refl _)
 have e2:(fun i=>((xs.getD (N - N+i) 0:Nat):Int))=(fun i=>((xs.getD i 0:Nat):Int)):=by
  funext i
  rw [Nat.sub_self,Nat.zero_add]
 rw [e2] at h2;refine h2.trans (Q2z _ ?_ N);have:=Cg.mod P (R^(2*Qai (lg N) k 0+1))
 push_cast at this ⊢
 exact this
theorem Qoy (P N R:Nat) (cs:List Nat) (hS:Sz4 N) (hl:cs.length=N) (hP:2<=P) (ho:P%2=1) (hlt:∀x∈cs,x<P) (r1:Cg P ((R:Int)^(2*N)) 1) (r2:Cg P ((R:Int)^N) (-1)):Q03 P N R (Qf3 P N R cs)=cs:=by
 have hs:=Qon hS;refine Qkp (by rw [Qks,hl]) (fun i hi=>?_);rw [hl] at hi;rw [Qqn P N R _ i hi];have hB:=Qqp (N:=N) hP (by omega) r1;have h1:=Qkw P (invM R P) (Qvm N) (Qf3 P N R cs) i N
 have h2:Cg P (Qc0 (fun k=>(((Qf3 P N R cs).getD k 0:Nat):Int)*((invM R P:Nat):Int)^((Qvm N).getD k 0*i)) 0 N) (Qc0 (fun k=>evI (fun i=>((cs.getD i 0:Nat):Int)) ((R:Int)^(2*Qai (lg N) k 0+1)) N*((invM R P:Nat):Int)^((2*Qai (lg N) k 0+1)*i)) 0 N):=by
  refine Qgg 0 N (fun j hj=>?_);rw [Nat.zero_add,Qg7 N j hj];exact (Qjo P N R cs j hj).mul (Cg.refl _ _)
 have h3:=Qqq hS r1 r2 hB (fun i=>((cs.getD i 0:Nat):Int)) i hi N (Nat.le_refl _);rw [if_pos hi] at h3;have h4:=((h1.trans h2).trans h3).mul (Cg.refl (P:Int) ((invM (N%P) P:Nat):Int));have h5:=(Qw3 hS hP ho).mul (Cg.refl (P:Int) ((cs.getD i 0:Nat):Int));rw [Int.one_mul] at h5;refine Cg.eq_of_lt ((Cg.mod P _).trans ?_) (Nat.mod_lt _ (by omega)) (getD_lt hlt (by omega) i);rw [Int.natCast_mul];refine h4.trans ?_
 refine Cg.trans ?_ h5
 exact ⟨0,by grind⟩
def muI (P N x i:Nat) (ys os:List Nat):Nat->List Nat
 | 0=>os
 | k+1=>if i+k<N then (muI P N x i ys os k).set (i+k) (((muI P N x i ys os k).getD (i+k) 0+x*ys.getD k 0%P)%P) else (muI P N x i ys os k).set (i+k - N) (((muI P N x i ys os k).getD (i+k - N) 0+P - x*ys.getD k 0%P)%P)
def muO (P N:Nat) (xs ys:List Nat):Nat->List Nat
 | 0=>List.replicate N 0
 | i+1=>muI P N (xs.getD i 0) i ys (muO P N xs ys i) N
theorem Qkx (P N x i:Nat) (ys os:List Nat):∀k,(muI P N x i ys os k).length=os.length
 | 0=>rfl
 | k+1=>by rw [muI];split <;> rw [List.length_set,Qkx P N x i ys os k]
theorem Qdo (P N:Nat) (xs ys:List Nat):∀i,(muO P N xs ys i).length=N
 | 0=>by simp [muO]
 | i+1=>by rw [muO,Qkx,Qdo P N xs ys i]
theorem Qqr (P N x i:Nat) (ys os:List Nat) (hP:0<P) (h:∀z∈os,z<P):∀k,∀z∈muI P N x i ys os k,z<P
 | 0=>h
 | k+1=>by
   rw [muI];intro z hz;split at hz
   ·rcases List.mem_or_eq_of_mem_set hz with h1 | h1
    ·exact Qqr P N x i ys os hP h k z h1
    ·rw [h1];exact Nat.mod_lt _ hP
   ·rcases List.mem_or_eq_of_mem_set hz with h1 | h1
    ·exact Qqr P N x i ys os hP h k z h1
    ·rw [h1];exact Nat.mod_lt _ hP
theorem Qqs (P N:Nat) (xs ys:List Nat) (hP:0<P):∀i,∀z∈muO P N xs ys i,z<P
 | 0=>by intro z hz;rw [muO] at hz;rw [(List.mem_replicate.1 hz).2];exact hP
 | i+1=>by rw [muO];exact Qqr P N _ i ys _ hP (Qqs P N xs ys hP i) N
theorem Qun (l:List Nat) (m v:Nat) (hm:m<l.length) (X:Int):∀h,evI (fun i=>(((l.set m v).getD i 0:Nat):Int)) X h=evI (fun i=>((l.getD i 0:Nat):Int)) X h+(if m<h then ((v:Int) - ((l.getD m 0:Nat):Int))*X^m else 0)
 | 0=>by simp [evI]
 | h+1=>by
   rw [evI,Qun l m v hm X h,evI,Q20 l m v h hm]
   by_cases h1:h=m
   ·subst h1;rw [if_pos rfl,if_neg (by omega),if_pos (by omega)]
    grind
   ·rw [if_neg h1]
    by_cases h2:m<h
    ·rw [if_pos h2,if_pos (by omega)];grind
    ·rw [if_neg h2,if_neg (by omega)];grind
theorem Qyp (P N x i:Nat) (ys os:List Nat) (hP:0<P) (ho:os.length=N) (hi:i<N) (X:Int) (hX:Cg P (X^N) (-1)):∀k,k<=N->Cg P (evI (fun j=>(((muI P N x i ys os k).getD j 0:Nat):Int)) X N) (evI (fun j=>((os.getD j 0:Nat):Int)) X N+(x:Int)*X^i*evI (fun j=>((ys.getD j 0:Nat):Int)) X k)
 | 0,_=>by rw [muI,evI,Int.mul_zero,Int.add_zero];exact Cg.refl _ _
 | k+1,hk=>by
   have ih:=Qyp P N x i ys os hP ho hi X hX k (by omega);have hl:=Qkx P N x i ys os k
   have hz:Cg P ((x*ys.getD k 0%P:Nat):Int) ((x:Int)*((ys.getD k 0:Nat):Int)):=by
    have:=Cg.mod P (x*ys.getD k 0);rw [Int.natCast_mul] at this;exact this
   have hzl:x*ys.getD k 0%P<P:=Nat.mod_lt _ hP;rw [muI];split
   case isTrue h1=>
    rw [Qun _ (i+k) _ (by omega) X N,if_pos h1];generalize (muI P N x i ys os k).getD (i+k) 0=L;generalize x*ys.getD k 0%P=Z at *
    have c1:Cg P ((((L+Z)%P:Nat):Int) - (L:Int)) ((x:Int)*((ys.getD k 0:Nat):Int)):=by
     have h2:=(Cg.mod P (L+Z)).add (Cg.refl (P:Int) (-(L:Int)));have h3:(((L+Z:Nat):Int) + -(L:Int))=(Z:Int):=by omega
     rw [h3] at h2;exact h2.trans hz
    refine (ih.add (c1.mul (Cg.refl (P:Int) (X^(i+k))))).trans ?_
    rw [evI,Int.pow_add];exact ⟨0,by grind⟩
   case isFalse h1=>
    rw [Qun _ (i+k - N) _ (by omega) X N,if_pos (by omega)];generalize (muI P N x i ys os k).getD (i+k - N) 0=L;generalize x*ys.getD k 0%P=Z at *
    have c1:Cg P ((((L+P - Z)%P:Nat):Int) - (L:Int)) (-((x:Int)*((ys.getD k 0:Nat):Int))):=by
     have h2:=(Cg.mod P (L+P - Z)).add (Cg.refl (P:Int) (-(L:Int)));refine h2.trans ?_
     refine Cg.trans ?_ hz.neg
     exact ⟨1,by omega⟩
    have c2:Cg P (X^(i+k)) (-(X^(i+k - N))):=by
     have h2:=(Cg.refl (P:Int) (X^(i+k - N))).mul hX;rw [<- Int.pow_add,show i+k - N+N=i+k by omega,Int.mul_neg,Int.mul_one] at h2;exact h2
    have c3:=c1.mul (Cg.refl (P:Int) (X^(i+k - N)));rw [Int.neg_mul,<- Int.mul_neg] at c3;have c4:=c3.trans ((Cg.refl (P:Int) ((x:Int)*((ys.getD k 0:Nat):Int))).mul c2.symm);refine (ih.add c4).trans ?_
    rw [evI,Int.pow_add];exact ⟨0,by grind⟩
theorem Quo (N:Nat) (X:Int):∀h,evI (fun j=>(((List.replicate N 0).getD j 0:Nat):Int)) X h=0
 | 0=>rfl
 | h+1=>by
   rw [evI,Quo N X h]
   have:(List.replicate N 0).getD h 0=0:=by
    simp [List.getD,List.getElem?_replicate];split <;> rfl
   rw [this];simp
theorem Qib (P N:Nat) (xs ys:List Nat) (hP:0<P) (X:Int) (hX:Cg P (X^N) (-1)):∀i,i<=N->Cg P (evI (fun j=>(((muO P N xs ys i).getD j 0:Nat):Int)) X N) (evI (fun j=>((xs.getD j 0:Nat):Int)) X i*evI (fun j=>((ys.getD j 0:Nat):Int)) X N)
 | 0,_=>by rw [muO,Quo,evI,Int.zero_mul];exact Cg.refl _ _
 | i+1,hi=>by
   have ih:=Qib P N xs ys hP X hX i (by omega);rw [muO];refine (Qyp P N (xs.getD i 0) i ys (muO P N xs ys i) hP (Qdo P N xs ys i) (by omega) X hX N (Nat.le_refl _)).trans ?_
   refine (ih.add (Cg.refl _ _)).trans ?_
   rw [evI];exact ⟨0,by grind⟩
theorem Q08 (P N R:Nat) (xs ys:List Nat) (hS:Sz4 N) (hP:2<=P) (r2:Cg P ((R:Int)^N) (-1)):Qf3 P N R (muO P N xs ys N)=Qfc P N (Qf3 P N R xs) (Qf3 P N R ys):=by
 refine Qkp (by rw [Qdh,Qej]) (fun k hk=>?_);rw [Qej] at hk;rw [Qmr P N _ _ k hk]
 have hX:Cg P (((R:Int)^(2*Qai (lg N) k 0+1))^N) (-1):=by
  rw [<- Int.pow_mul,Nat.mul_comm,Int.pow_mul];have h1:=r2.pow (2*Qai (lg N) k 0+1)
  have h2:((-1:Int))^(2*Qai (lg N) k 0+1) = -1:=by
   rw [Int.pow_succ,Int.pow_mul];simp [Int.one_pow]
  rw [h2] at h1;exact h1
 have h1:=Qjo P N R (muO P N xs ys N) k hk;have h2:=Qib P N xs ys (by omega) _ hX N (Nat.le_refl _);have h3:=((Qjo P N R xs k hk).mul (Qjo P N R ys k hk)).symm;have h4:=(h1.trans h2).trans h3;rw [<- Int.natCast_mul] at h4;refine Cg.eq_of_lt (h4.trans (Cg.mod P _).symm) ?_ (Nat.mod_lt _ (by omega))
 rw [Qkg P N R _ k hk];exact Qoo P _ _ N (by omega) N
theorem Qw4 (P N R:Nat) (xs ys:List Nat) (hS:Sz4 N) (hP:2<=P) (ho:P%2=1) (r1:Cg P ((R:Int)^(2*N)) 1) (r2:Cg P ((R:Int)^N) (-1)):Q03 P N R (Qfc P N (Qf3 P N R xs) (Qf3 P N R ys))=muO P N xs ys N:=by
 rw [<- Q08 P N R xs ys hS hP r2];exact Qoy P N R _ hS (Qdo P N xs ys N) hP ho (Qqs P N xs ys (by omega) N) r1 r2
end Go.Proofs.YthcidnnkakppcaaGreatDoor
