/- Proved: what its theorems say. -/
import Derived.Test.YthcidnnkakppcaaGreatDoorDe26
set_option linter.unusedVariables false
set_option linter.unusedSimpArgs false
set_option maxHeartbeats 8000000
set_option maxRecDepth 100000
namespace Go.Proofs.YthcidnnkakppcaaGreatDoor
open Go.ChangeShapes Go.WideShapes Go.ChangeAt Go.RowKit
theorem Qqt (P N:Nat) (xs ys:List Nat) (hP:0<P):∀z∈Qfc P N xs ys,z<P:=by
 intro z hz;unfold Qfc at hz;obtain ⟨k,_,rfl⟩:=List.mem_map.1 hz;exact Nat.mod_lt _ hP
theorem Qky (P N R:Nat) (xs:List Nat) (hP:0<P):∀z∈Qf3 P N R xs,z<P:=by
 intro z hz;unfold Qf3 at hz;obtain ⟨k,_,rfl⟩:=List.mem_map.1 hz;exact Qoo P _ xs N hP N
theorem Qm0 (P N R:Nat) (xs ys:List Nat) (v u:Value) (w:World) (hT:Qbb w) (hv:Row w v (toZ xs)) (hu:Row w u (toZ ys)) (hP:2≤P∧P≤268435456) (ho:P%2=1) (hS:Sz4 N) (hR:R<P) (la:xs.length=N) (lb:ys.length=N) (ha:∀x∈xs,x<P) (hb:∀x∈ys,x<P)
  (r1:Cg P ((R:Int)^(2*N)) 1) (r2:Cg P ((R:Int)^N) (-1)) :
  Calls Tryz.prog 122 #[.agg #[.int .i64 P,.int .i64 N,.int .i64 R],v,u] w fun e w'=>∃v',e=.returned v'/\Old w w'/\Own w' w.heap.size v' (toZ (muO P N xs ys N)):=by
 have hs:=Qon hS;obtain ⟨A,hA⟩:∃A:Array Value,A=#[.int .i64 P,.int .i64 N,.int .i64 R]:=⟨_,rfl⟩
 obtain ⟨wB,hwB⟩:∃wB,wB=w.alloc (.cells A 133):=⟨_,rfl⟩
 have HWB:Old w wB:=by rw [hwB];exact (Old.refl w).alloc _
 have hb0:wB.heap[w.heap.size]? = some (.cells A 133 (0,0)):=by rw [hwB];exact heap_alloc_new _ _
 have KF1:Hid (∀W,Old wB W->Calls Tryz.prog 135 #[.agg A,v] W fun e w'=>∃v',e=.returned v'/\Old W w'/\Own w' W.heap.size v' (toZ (Qf3 P N R xs))):=fun W g=>by
  have g0:=Old.trans HWB g;have:=Qgw P N R xs v W (hT.old g0) (hv.old g0) hP hS hR la ha;rw [Qqk P N R xs hS la (by omega) ha r1 r2] at this;rw [hA];exact this
 have KF2:Hid (∀W,Old wB W->Calls Tryz.prog 135 #[.agg A,u] W fun e w'=>∃v',e=.returned v'/\Old W w'/\Own w' W.heap.size v' (toZ (Qf3 P N R ys))):=fun W g=>by
  have g0:=Old.trans HWB g;have:=Qgw P N R ys u W (hT.old g0) (hu.old g0) hP hS hR lb hb;rw [Qqk P N R ys hS lb (by omega) hb r1 r2] at this;rw [hA];exact this
 have KP:Hid (∀W x y,Old wB W->Row W x (toZ (Qf3 P N R xs))->Row W y (toZ (Qf3 P N R ys))->Calls Tryz.prog 121 #[.agg A,x,y] W fun e w'=>∃v',e=.returned v'/\Old W w'/\Own w' W.heap.size v' (toZ (Qfc P N (Qf3 P N R xs) (Qf3 P N R ys)))):=fun W x y g h1 h2=>by
  have:=Qkh P N R _ _ x y W h1 h2 hP (by omega) (Qdh P N R xs) (Qdh P N R ys) (Qky P N R xs (by omega)) (Qky P N R ys (by omega));rw [hA];exact this
 have KI:Hid (∀W x,Old wB W->Row W x (toZ (Qfc P N (Qf3 P N R xs) (Qf3 P N R ys)))->Calls Tryz.prog 134 #[.agg A,x] W fun e w'=>∃v',e=.returned v'/\Old W w'/\Own w' W.heap.size v' (toZ (muO P N xs ys N))):=fun W x g h1=>by
  have g0:=Old.trans HWB g;have:=Qkv P N R _ x W (hT.old g0) h1 hP hS hR (Qej P N _ _) (Qqt P N _ _ (by omega));rw [Qw1 P N R _ hS (Qej P N _ _) hP.1 (Qqt P N _ _ (by omega)) r1 r2,Qw4 P N R xs ys hS hP.1 ho r1 r2] at this;rw [hA];exact this
 have HB:=Qaa hb0;have HW:=Qaa HWB;have hA3:A.size=3:=by rw [hA];rfl
 obtain ⟨av,cv,rfl⟩:=hv.slice;obtain ⟨au,cu,rfl⟩:=hu.slice;rw [<- hA];generalize toZ (muO P N xs ys N)=ZS at *;generalize toZ (Qfc P N (Qf3 P N R xs) (Qf3 P N R ys))=PS at *;generalize toZ (Qf3 P N R xs)=FA at *;generalize toZ (Qf3 P N R ys)=FB at *;generalize (toZ xs).length=lx at *;generalize (toZ ys).length=ly at *;clear hv hu ha hb r1 r2 hb0 HWB hT la lb;rw [hA];go_enter Tryz.func122,Tryz.ntmps122;go_wp2_with fail;rw [<- hA,<- hwB];refine Qwq wB w.heap.size A _ _ FA FB PS ZS HB.out hA3 KF1.out KF2.out KP.out KI.out _ _ _ ?_ ?_ ?_ ?_ ?_
 iterate 4 (·exact rfl)
 intro a W g hF o;have hdef:a.defers=[]:=hF.defers;go_wp2_with fail;refine bodyPost_ret (results_tmp rfl _ _ _) hdef ⟨_,rfl,Old.trans HW.out g,?_⟩;exact o.low HW.out.size
theorem Q40 (L z P:Nat):((L:Int)+(z:Int))%(P:Int)=(((L+z)%P:Nat):Int):=by
 rw [Int.natCast_emod]
 congr 1
theorem Q41 (L z P:Nat) (h:z<P):((L:Int)+(P:Int) - (z:Int))%(P:Int)=(((L+P - z)%P:Nat):Int):=by
 rw [Int.natCast_emod]
 congr 1
 omega
theorem Qrw (P N:Nat) (R:Int) (xs ys:List Nat) (v u:Value) (w:World) (hv:Row w v (toZ xs)) (hu:Row w u (toZ ys)) (hP:2≤P∧P≤268435456) (hN:2≤N∧N≤16) (la:xs.length=N) (lb:ys.length=N) (ha:∀x∈xs,x<P) (hb:∀x∈ys,x<P) :
  Calls Tryz.prog 89 #[.agg #[.int .i64 P,.int .i64 N,.int .i64 R],v,u] w fun e w'=>∃v',e=.returned v'/\Old w w'/\Own w' w.heap.size v' (toZ (muO P N xs ys N)):=by
 obtain ⟨i0,hi,hz0,hz1,hz2⟩:=info_parts Tryz.infoInt;obtain ⟨b1,o1,cap1,rfl,hb1,hc1⟩:=hv.atZ (by omega);obtain ⟨b2,o2,cap2,rfl,hb2,hc2⟩:=hu.atZ (by omega);rw [la] at hc1 ⊢;rw [lb] at hc2 ⊢;have HC1:=Qaa hc1;have HC2:=Qaa hc2;have HA:=Qaa (fun k=>getD_lt ha (by omega) k);have HB:=Qaa (fun k=>getD_lt hb (by omega) k);obtain ⟨O,hO⟩:∃O,O=muO P N xs ys:=⟨_,rfl⟩
 have HO0:Hid (O 0=List.replicate N 0):=by show _ = _;rw [hO];rfl
 have HOS:Hid (∀i,O (i+1)=muI P N (xs.getD i 0) i ys (O i) N):=fun i=>by rw [hO];rfl
 have HOL:Hid (∀i,(O i).length=N):=fun i=>by rw [hO];exact Qdo P N xs ys i
 have HOT:Hid (∀i,∀z∈O i,z<P):=fun i=>by rw [hO];exact Qqs P N xs ys (by omega) i
 rw [<- hO];clear hO hc1 hc2 hv hu la lb ha hb;obtain ⟨wB,hwB⟩:∃wB,wB=w.alloc (.cells #[.int .i64 P,.int .i64 N,.int .i64 R] 133):=⟨_,rfl⟩
 have RC0:Hid (Rc wB w.heap.size P N R):=by rw [hwB];exact Rc.new w _ _ _
 have HSZ:Hid (wB.heap.size=w.heap.size+1):=by show _ = _;rw [hwB];simp
 have HWB:Hid (Old w wB):=by rw [hwB];exact (Old.refl w).alloc _
 have hpn2:¬P=0:=by omega
 go_enter Tryz.func89,Tryz.ntmps89;go_wp2_with (first | (at_make;rw [<- hwB];refine wpList_make_full _ rfl _ _ 22 rfl wB.heap.size 3 i0 (.int .i64 0) 1 Tryz.underlying22 hi hz0 hz1 .i64 .i64 _ _ N rfl rfl rfl rfl (by rw [hz2];omega) (by unfold maxLen;omega) (Nat.le_refl _) ?_;intro w1 hown hgrow) | fail)
 have HO:Hid (Qbc w1 (w.heap.size+1) (w.heap.size+1) N (toZ (O 0))):=by
  rw [Qbj,HSZ.out] at hown;rw [HO0.out,show toZ (List.replicate N 0)=List.replicate N (0:Int) by simp];exact hown
 have HG:=Qaa (Old.by_ (Old.refl _) hgrow (fun b hb=>by cases hb));clear hown hgrow hwB
 go_loopw [18] (fun iv W=>∃i:Nat,i<=N/\iv=.int .i64 i/\Hid (Qbc W (w.heap.size+1) (w.heap.size+1) N (toZ (O i)))/\Hid (Old wB W)) (fun iv _=>N - (intOf iv).toNat)
 case atStart=>exact ⟨0,by omega,rfl,HO,HG⟩
 case round=>
  obtain ⟨i,hiN,rfl,HO1,HG1⟩:=hrel;clear HO HG
  by_cases hlt:i<N
  ·have d1:decide ((i:Int)<(N:Int))=true:=by simp;omega
   have c1:=((Old.trans HWB.out HG1.out).cell (p:=⟨b1,o1+i,none⟩) hb1).trans (HC1.out i hlt);have hx:=HA.out i;have HOS1:=HOS.out i;obtain ⟨x,ex⟩:∃x,xs.getD i 0=x:=⟨_,rfl⟩
   rw [ex] at c1 hx HOS1;obtain ⟨I,hI⟩:∃I,I=muI P N x i ys (O i):=⟨_,rfl⟩
   rw [<- hI] at HOS1;have HOS2:=Qaa HOS1;have HI0:Hid (O i=I 0):=by show _ = _;rw [hI];rfl
   have HIS:Hid (∀k,I (k+1)=if i+k<N then (I k).set (i+k) (((I k).getD (i+k) 0+x*ys.getD k 0%P)%P) else (I k).set (i+k - N) (((I k).getD (i+k - N) 0+P - x*ys.getD k 0%P)%P)):=fun k=>by rw [hI];rfl
   have HIL:Hid (∀k,(I k).length=N):=fun k=>by rw [hI,Qkx];exact HOL.out i
   have HIT:Hid (∀k,∀z∈I k,z<P):=fun k=>by rw [hI];exact Qqr P N x i ys _ (by omega) (HOT.out i) k
   have HO2:Hid (Qbc wr (w.heap.size+1) (w.heap.size+1) N (toZ (I 0))):=by rw [<- HI0.out];exact HO1.out
   clear HOS1 hI ex HO1 HI0;go_wp2_with fail
   go_loopw [25] (fun kv W=>∃k:Nat,k<=N/\kv=.int .i64 k/\Hid (Qbc W (w.heap.size+1) (w.heap.size+1) N (toZ (I k)))/\Hid (Old wB W)) (fun kv _=>N - (intOf kv).toNat)
   case atStart=>exact ⟨0,by omega,rfl,HO2,HG1⟩
   case round=>
    obtain ⟨k,hkN,rfl,HO3,HG3⟩:=hrel;clear HO2 HG1 c1
    by_cases hlk:k<N
    ·have c2:=((Old.trans HWB.out HG3.out).cell (p:=⟨b2,o2+k,none⟩) hb2).trans (HC2.out k hlk);have hy:=HB.out k;obtain ⟨y,ey⟩:∃y,ys.getD k 0=y:=⟨_,rfl⟩
     rw [ey] at c2 hy;have hmul:=Qg5 x y P hx hy hP.2;obtain ⟨z,hz⟩:∃z,z=x*y%P:=⟨_,rfl⟩
     have bz:z<P:=by rw [hz];exact Nat.mod_lt _ (by omega)
     have HZ:=Qaa hz;obtain ⟨xy,hxy⟩:∃xy,xy=x*y:=⟨_,rfl⟩
     rw [<- hxy] at hmul;have e1:(x:Int)*(y:Int)=(xy:Int):=by rw [hxy];simp
     have e2:(xy:Int)%(P:Int)=(z:Int):=by rw [hz,hxy];rfl
     have e3:(xy:Int).tmod (P:Int)=(z:Int):=by rw [hz,hxy];rfl
     have RC3:=Qaa (RC0.out.old HG3.out);clear hz hxy
     by_cases hik:i+k<N
     ·have e4:decide ((i:Int)+(k:Int)<(N:Int))=true:=by simp;omega
      obtain ⟨m,hm⟩:∃m,m=i+k:=⟨_,rfl⟩
      have bm:m<N:=by omega
      have HIk:Hid (I (k+1)=(I k).set m (((I k).getD m 0+z)%P)):=by
       have:=HIS.out k;rw [if_pos (by omega),ey,<- HZ.out,<- hm] at this;exact this
      have cL:=HO3.out.get (by rw [Qau];exact HIL.out k) m bm;have fL:=HO3.out.free m;have bL:=getD_lt (HIT.out k) (by omega) m;rw [Qcd] at cL;obtain ⟨L,eL⟩:∃L,(I k).getD m 0=L:=⟨_,rfl⟩
      rw [eL] at cL bL HIk;obtain ⟨Z,eZ⟩:∃Z,Z=(L+z)%P:=⟨_,rfl⟩
      rw [<- eZ] at HIk
      have HP2:Hid (∀W,Qbc W (w.heap.size+1) (w.heap.size+1) N (toZ (I k))->Qbc (W.setCell ⟨w.heap.size+1,m,none⟩ (.int .i64 Z)) (w.heap.size+1) (w.heap.size+1) N (toZ (I (k+1)))):=fun W h=>by
       have:=h.put m (Z:Int);rw [<- Qfd,<- HIk.out] at this;exact this
      skip
      have q0:=RC3.out.c0;have q1:=RC3.out.c1;have HZZ:=Qaa eZ;have HMM:=Qaa hm;clear eZ hm eL HIk;go_wp2_with fail;refine Qtp wr (w.heap.size+1) w.heap.size i k m N P L z Z N (by rw [HMM.out];omega) bm (by omega) (by omega) hpn2 bL bz (by rw [HZZ.out];exact Q40 L z P) (by rw [HZZ.out,Int.tmod_eq_emod_of_nonneg (by omega)];exact Q40 L z P) cL fL q0 q1 _ _ ?_ ?_ ?_ ?_ ?_ ?_ ?_
      iterate 6 (·exact rfl)
      intro us W' g';simp only [Qb6,Act.put,Qat,List.range,List.range.loop,List.map_cons,List.map_nil,List.getD_cons_zero,List.getD_cons_succ,List.setIfInBounds_toArray,List.set_cons_succ,List.set_cons_zero];have HG5:Hid (Old wB (W'.setCell ⟨w.heap.size+1,m,none⟩ (.int .i64 Z))):=(Old.trans HG3.out g').own (by have:=HSZ.out;simp;omega) _;have HO5:=Qaa (HP2.out W' (HO3.out.old g'));clear HO3 HG3 cL fL q0 q1 c2 g' HP2;go_wp2_with fail;exact ⟨⟨k+1,by omega,by go_num,HO5,HG5⟩,by simp [intOf];omega⟩
     ·have e4:decide ((i:Int)+(k:Int)<(N:Int))=false:=by simp;omega
      obtain ⟨m,hm⟩:∃m,m=i+k - N:=⟨_,rfl⟩
      have bm:m<N:=by omega
      have HIk:Hid (I (k+1)=(I k).set m (((I k).getD m 0+P - z)%P)):=by
       have:=HIS.out k;rw [if_neg (by omega),ey,<- HZ.out,<- hm] at this;exact this
      have cL:=HO3.out.get (by rw [Qau];exact HIL.out k) m bm;have fL:=HO3.out.free m;have bL:=getD_lt (HIT.out k) (by omega) m;rw [Qcd] at cL;obtain ⟨L,eL⟩:∃L,(I k).getD m 0=L:=⟨_,rfl⟩
      rw [eL] at cL bL HIk;obtain ⟨Z,eZ⟩:∃Z,Z=(L+P - z)%P:=⟨_,rfl⟩
      rw [<- eZ] at HIk
      have HP2:Hid (∀W,Qbc W (w.heap.size+1) (w.heap.size+1) N (toZ (I k))->Qbc (W.setCell ⟨w.heap.size+1,m,none⟩ (.int .i64 Z)) (w.heap.size+1) (w.heap.size+1) N (toZ (I (k+1)))):=fun W h=>by
       have:=h.put m (Z:Int);rw [<- Qfd,<- HIk.out] at this;exact this
      skip
      have q0:=RC3.out.c0;have q1:=RC3.out.c1;have HZZ:=Qaa eZ;have HMM:=Qaa hm;clear eZ hm eL HIk;go_wp2_with fail;refine Qtq wr (w.heap.size+1) w.heap.size i k m N P L z Z N (i+k) (by omega) (by rw [HMM.out];omega) bm (by omega) (by omega) hpn2 bL bz (by rw [HZZ.out];exact Q41 L z P bz) (by rw [HZZ.out,Int.tmod_eq_emod_of_nonneg (by omega)];exact Q41 L z P bz) cL fL q0 q1 _ _ ?_ ?_ ?_ ?_ ?_ ?_ ?_
      iterate 6 (·exact rfl)
      intro us W' g';simp only [Qb6,Act.put,Qaj,List.range,List.range.loop,List.map_cons,List.map_nil,List.getD_cons_zero,List.getD_cons_succ,List.setIfInBounds_toArray,List.set_cons_succ,List.set_cons_zero];have HG5:Hid (Old wB (W'.setCell ⟨w.heap.size+1,m,none⟩ (.int .i64 Z))):=(Old.trans HG3.out g').own (by have:=HSZ.out;simp;omega) _;have HO5:=Qaa (HP2.out W' (HO3.out.old g'));clear HO3 HG3 cL fL q0 q1 c2 g' HP2;go_wp2_with fail;exact ⟨⟨k+1,by omega,by go_num,HO5,HG5⟩,by simp [intOf];omega⟩
    ·have d2:decide ((k:Int)<(N:Int))=false:=by simp;omega
     obtain rfl:k=N:=by omega
     have HO5:Hid (Qbc wr (w.heap.size+1) (w.heap.size+1) k (toZ (O (i+1)))):=by rw [HOS2.out];exact HO3.out
     clear HO3;go_wp2_with fail;exact ⟨⟨i+1,by omega,by go_num,HO5,HG3⟩,by simp [intOf];omega⟩
  ·have d1:decide ((i:Int)<(N:Int))=false:=by simp;omega
   obtain rfl:i=N:=by omega
   have HF:=Qaa (HO1.out.own (by rw [Qau];exact HOL.out i));go_wp2_with fail;go_ret;exact ⟨_,rfl,Old.trans HWB.out HG1.out,HF.out.low (by omega)⟩
end Go.Proofs.YthcidnnkakppcaaGreatDoor
