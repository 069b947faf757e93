/- Proved: what its theorems say. -/
import Derived.Test.YthcidnnkakppcaaGreatDoorDe28
import Derived.Deep.RegionHeld3
set_option linter.unusedVariables false
set_option linter.unusedSimpArgs false
set_option maxHeartbeats 4000000
set_option maxRecDepth 100000
namespace Go.Proofs.YthcidnnkakppcaaGreatDoor
open Go.ChangeShapes Go.WideShapes Go.ChangeAt Go.RowKit
theorem Qr4 (xs ys:List Int) (n1 n2:Nat) (e1:xs.length=n1) (e2:ys.length=n2) (g:Nat) (a1 a2:Addr) (c1 c2:Nat) (w:World) (h1:w.cell? ⟨g,0,none⟩=some (.slice (some a1) n1 c1)) (h2:w.cell? ⟨g,1,none⟩=some (.slice (some a2) n2 c2))
  (l1:Lie w a1 xs) (l2:Lie w a2 ys) (hx:n1<=50) (hy:n2<=50) :
  Calls Tryz.prog 162 #[.slice (some ⟨g,0,none⟩) 2 2] w fun e w'=>∃v',e=.returned v'/\Old w w'/\Own w' w.heap.size v' (xs++ys):=by
 subst e1 e2;exact Qr3 xs ys g a1 a2 c1 c2 w h1 h2 l1 l2 hx hy
theorem Q3c (b o j:Nat):(⟨b,o,none⟩:Addr).add j=⟨b,o+j,none⟩:=by
 by_cases hj:j=0
 ·subst hj;simp [Addr.add]
 ·simp [Addr.add,hj]
theorem Qqx {w:World} {b o:Nat} {xs:List Int} (hc:∀j,j<xs.length->w.cell? ⟨b,o+j,none⟩=some (.int .i64 (xs.getD j 0))) (k n:Nat):Lie w ⟨b,o+k,none⟩ ((xs.drop k).take n):=by
 intro j u hj;rw [List.getElem?_map,List.getElem?_take] at hj
 by_cases h1:j<n
 ·rw [if_pos h1,List.getElem?_drop] at hj
  by_cases h2:k+j<xs.length
  ·rw [List.getElem?_eq_getElem h2] at hj;simp only [Option.map_some,Option.some.injEq] at hj;rw [Q3c,Nat.add_assoc,hc (k+j) h2,<- hj];simp [List.getD,h2]
  ·rw [List.getElem?_eq_none (by omega)] at hj
   cases hj
 ·rw [if_neg h1] at hj
  cases hj
theorem Qju (xs:List Int) (v:Value) (i:Nat) (w:World) (hv:Row w v xs) (hf:Fit v) (hi:i<xs.length) (hl:xs.length≤50) :
  Calls Tryz.prog 147 #[v,.int .i64 i] w fun e w'=>∃v',e=.returned v'/\Old w w'/\Own w' w.heap.size v' (xs.take i++xs.drop (i+1)):=by
 rcases hv with ⟨a,cap,rfl,rfl⟩ | ⟨b,o,cap,rfl,hb,h0,hc⟩
 ·simp at hi
 have hcap:xs.length<=cap:=hf;obtain ⟨j,hj⟩:∃j,j=i+1:=⟨_,rfl⟩
 rw [<- hj];have k1:i<=cap:=by omega
 have e1:IntKind.i64.wrap ((i:Int)+1)=(j:Int):=by rw [IntKind.wrap_i64];omega
 have k3:j<=xs.length:=by omega
 have HL1:Hid (Lie w ⟨b,o,none⟩ (xs.take i)):=by
  have:=Qqx hc 0 i;rw [List.drop_zero,Nat.add_zero] at this;exact this
 obtain ⟨a2,ha2,hl2⟩:∃a2,(if cap=j then some (⟨b,o,none⟩:Addr) else some ⟨b,o+j,none⟩)=some a2/\Lie w a2 (xs.drop j):=by
  by_cases hcj:cap=j
  ·rw [if_pos hcj];refine ⟨_,rfl,?_⟩;rw [List.drop_eq_nil_of_le (by omega)];exact Lie.nil _ _
  ·rw [if_neg hcj];refine ⟨_,rfl,?_⟩;have:=Qqx hc j (xs.length - j);rw [List.take_of_length_le (by simp)] at this;exact this
 have HA2:=Qaa ha2;have HL2:=Qaa hl2;have HN1:Hid ((xs.take i).length=i):=by show _ = _;rw [List.length_take];omega
 have HN2:Hid ((xs.drop j).length=xs.length - j):=by show _ = _;rw [List.length_drop]
 have HK:Hid (i<=50/\xs.length - j<=50):=⟨by omega,by omega⟩;have tt:=trivial;generalize xs.take i=ys at *;generalize xs.drop j=zs at *;clear hj hc hf ha2 hl2 hi;generalize xs.length=n at *;obtain ⟨rs,hrs⟩:∃rs,ys++zs=rs:=⟨_,rfl⟩
 rw [hrs];have HRS:=Qaa hrs;clear hrs;go_enter Tryz.func147,Tryz.ntmps147;go_wp2_with fail
 go_region_held3 (fun W'=>W'=W') (first | exact rfl | fail) (first | (go_at_call 162;rw [HA2.out];refine (Qr4 ys zs i (n - j) HN1.out HN2.out w.heap.size ⟨b,o,none⟩ a2 cap (cap - j) _ (Qad w _ _ _ 0 rfl) (Qad w _ _ _ 1 rfl) (HL1.out.old (((Old.refl w).alloc _).drewN 1)) (HL2.out.old (((Old.refl w).alloc _).drewN 1)) HK.out.1 HK.out.2).mono ?_;rw [HRS.out];rintro e w1 ⟨v1,rfl,g1,o1⟩;have HG:=Qaa (Old.trans (((Old.refl w).alloc _).drewN 1) g1);have HO:=Qaa (o1.low (by show w.heap.size<=(w.alloc _).heap.size;simp));obtain ⟨va1,vc1,rfl⟩:=(Own.row o1).slice;clear g1 o1) | fail)
 all_goals
  go_wp2_with fail;go_ret;exact ⟨_,rfl,HG.out,HO.out⟩
end Go.Proofs.YthcidnnkakppcaaGreatDoor
namespace Go.Proofs.YthcidnnkakppcaaGreatDoor
open Go.ChangeShapes Go.WideShapes Go.ChangeAt Go.RowKit
open M1
def pmN (m:Nat) (ps:List Nat):Nat:=ps.foldl (fun a p=>a*p%m) 1
theorem Qk4 (m:Nat) (ps:List Nat) (p:Nat):pmN m (ps++[p])=pmN m ps*p%m:=by simp [pmN,List.foldl_append]
theorem Qxl (m:Nat) (ps:List Nat) (k:Nat) (h:k<ps.length):pmN m (ps.take (k+1))=pmN m (ps.take k)*ps.getD k 0%m:=by
 rw [<- Qk4]
 congr 1
 rw [List.take_add_one]
 congr 1
 simp [List.getD,h]
theorem Qys (m:Nat) (ps:List Nat) (hm:2<=m):pmN m ps<m:=by
 rcases List.eq_nil_or_concat ps with h | ⟨qs,p,h⟩
 ·subst h;simp [pmN];omega
 ·rw [h,List.concat_eq_append,Qk4];exact Nat.mod_lt _ (by omega)
theorem Q3d (m x y:Nat) (w:World) (hm:2≤m∧m≤268435456) (hx:x<m) (hy:y≤268435456) :
  Calls Tryz.prog 172 #[.iface 194 (.int .u64 m),.int .i64 x,.int .i64 y] w fun e w'=>e=.returned (.int .i64 ((x*y%m:Nat):Int))/\∃n,w'=w.drewN n:=by
 have hb:x*y<=268435456*268435456:=Nat.mul_le_mul (by omega) hy;have c:=fun W=>Qdz m x y (by omega) (by omega) (by omega) (by omega) (by omega) W
 have hz:x*y%m<m:=Nat.mod_lt _ (by omega);generalize x*y%m=z at *;clear hb;go_enter Tryz.func172,Tryz.ntmps172;go_wp2_with (go_at_call 165;refine (c _).mono ?_;rintro e w1 ⟨rfl,k1,rfl⟩);go_ret;exact ⟨rfl,_,rfl⟩
theorem Qr5 (m x y g:Nat) (w:World) (hm:2≤m∧m≤268435456) (hx:x<m) (hy:y≤268435456) (hc:w.cell? ⟨g,0,none⟩=some (.int .u64 (m:Int))) :
  Calls Tryz.prog 171 #[.int .i64 x,.int .i64 y,.pointer (some ⟨g,0,none⟩)] w fun e w'=>e=.returned (.int .i64 ((x*y%m:Nat):Int))/\∃n,w'=w.drewN n:=by
 have c:=fun W=>Q3d m x y W hm hx hy
 generalize x*y%m=z at *;go_enter Tryz.func171,Tryz.ntmps171;go_wp2_with (go_at_call 172;refine (c _).mono ?_;rintro e w1 ⟨rfl,k1,rfl⟩);go_ret;exact ⟨rfl,_,rfl⟩
theorem Qxm (m g:Nat) (ps:List Nat) (v:Value) (w:World) (hm:2≤m∧m≤268435456) (hg:w.cell? ⟨g,0,none⟩=some (.int .u64 (m:Int))) (hv:Row w v (toZ ps)) (hl:ps.length≤50) (hb:∀p∈ps,p≤268435456) :
  Calls Tryz.prog 170 #[.func (.func 171) #[] #[.pointer (some ⟨g,0,none⟩)],.int .i64 1,v] w fun e w'=>e=.returned (.int .i64 ((pmN m ps:Nat):Int))/\Old w w':=by
 have HB:=Qaa hb;have HV:=Qaa hv;have HGC:=Qaa hg;have hgl:g<w.heap.size:=block_lt_of_cell hg;obtain ⟨r,hr⟩:∃r,pmN m ps=r:=⟨_,rfl⟩
 rw [hr];have HRR:=Qaa hr;obtain ⟨va,vc,rfl⟩:∃a c,v=.slice a ps.length c:=by have:=hv.slice;rwa [Qau] at this
 clear hb hv hg hr;go_enter Tryz.func170,Tryz.ntmps170;go_wp2_with fail
 go_loopw [7,13] (fun x i W=>∃k q:Nat,k<=ps.length/\i=.int .i64 k/\x=.int .i64 q/\q<m/\Hid (pmN m (ps.take k)=q)/\Hid (Old w W)) (fun _ i _=>ps.length - (intOf i).toNat)
 case atStart=>exact ⟨0,1,by omega,rfl,rfl,by omega,rfl,Old.refl _⟩
 case round=>
  obtain ⟨k,q,hk,rfl,rfl,hq,HQ,HG⟩:=hrel
  by_cases hlt:k<ps.length
  ·obtain ⟨b,o,rfl,hb,hc⟩:∃b o,va=some ⟨b,o,none⟩∧b<w.heap.size∧∀j,j<ps.length→w.cell? ⟨b,o+j,none⟩=some (.int .i64 ((ps.getD j 0:Nat):Int)):=by
    rcases HV.out with ⟨a',cap',e,e2⟩ | ⟨b,o,cap',e,hb,h0,hc⟩
    ·have:=congrArg List.length e2;rw [Qau] at this;simp only [List.length_nil] at this;omega
    ·simp only [Value.slice.injEq] at e;rw [Qau] at hc;exact ⟨b,o,e.1,hb,fun j hj=>by rw [hc j hj,Qcd]⟩
   have c1:=(HG.out.cell (p:=⟨b,o+k,none⟩) hb).trans (hc k hlt);have hpb:ps.getD k 0<=268435456:=HB.out _ (by simp [List.getD,hlt]);have HE:Hid (pmN m (ps.take (k+1))=q*ps.getD k 0%m):=by show _ = _;rw [Qxl m ps k hlt,HQ.out]
   have HCC:=Qaa ((HG.out.cell (p:=⟨g,0,none⟩) hgl).trans HGC.out);have ct:=Qr5 m q (ps.getD k 0) g wr hm hq hpb HCC.out;have hz:q*ps.getD k 0%m<m:=Nat.mod_lt _ (by omega);clear hc HQ;generalize q*ps.getD k 0%m=y at *;generalize ps.getD k 0=p at *;go_wp2_with (go_at_call 171;refine ct.mono ?_;rintro e w5 ⟨rfl,k5,rfl⟩);exact ⟨⟨k+1,y,by omega,by go_num,rfl,hz,HE,HG.out.drewN _⟩,by simp [intOf];omega⟩
  ·have d1:decide ((k:Int)<(ps.length:Int))=false:=by simp;omega
   obtain rfl:k=ps.length:=by omega
   obtain rfl:q=r:=by
    have:=HQ.out;rw [List.take_length,HRR.out] at this;exact this.symm
   go_wp2_with fail;go_ret;exact ⟨rfl,HG.out⟩
theorem Qxn (m:Nat) (ps:List Nat) (v:Value) (w:World) (hm:2≤m∧m≤268435456) (hv:Row w v (toZ ps)) (hl:ps.length≤50) (hb:∀p∈ps,p≤268435456) :
  Calls Tryz.prog 166 #[.int .i64 m,v] w fun e w'=>e=.returned (.int .i64 ((pmN m ps:Nat):Int))/\Old w w':=by
 have HV:=Qaa hv;obtain ⟨va,vc,rfl⟩:∃a c,v=.slice a ps.length c:=by have:=hv.slice;rwa [Qau] at this
 have c:=fun g W h1 h2=>Qxm m g ps (.slice va ps.length vc) W hm h1 h2 hl hb
 generalize pmN m ps=r at *;clear hv hb;go_enter Tryz.func166,Tryz.ntmps166;go_wp2_with fail;refine (c _ _ (Qad w _ _ _ 0 rfl) (HV.out.old ((Old.refl w).alloc _))).mono ?_
 rintro e w1 ⟨rfl,g1⟩;have HG:=Qaa (Old.trans ((Old.refl w).alloc _) g1);clear g1;go_wp2_with fail;go_ret;exact ⟨rfl,HG.out⟩
def oth (ps:List Nat) (i:Nat):List Nat:=ps.take i++ps.drop (i+1)
theorem Quv (ps:List Nat) (i:Nat):(toZ ps).take i++(toZ ps).drop (i+1)=toZ (oth ps i):=by simp [oth,toZ,List.map_take,List.map_drop]
theorem Qo2 {ps:List Nat} {i p:Nat} (h:p∈oth ps i):p∈ps:=by
 rcases List.mem_append.1 h with h | h
 ·exact List.mem_of_mem_take h
 ·exact List.mem_of_mem_drop h
theorem Quw (ps:List Nat) (i:Nat):(oth ps i).length<=ps.length:=by simp [oth];omega
def ivN (ps:List Nat) (i:Nat):Nat:=invM (pmN (ps.getD i 0) (oth ps i)) (ps.getD i 0)
theorem Old.drwI {a b:World} (h:Old a b):Old a b.drew:=Below.drew h
theorem Qk5 (ps:List Nat) (v:Value) (i:Nat) (w:World) (hv:Row w v (toZ ps)) (hf:Fit v) (hi:i<ps.length) (hl:ps.length≤50) (hlo:∀p∈ps,2≤p) (hhi:∀p∈ps,p≤268435456) :
  Calls Tryz.prog 161 #[v,.int .i64 i] w fun e w'=>e=.returned (.int .i64 ((ivN ps i:Nat):Int))/\Old w w':=by
 have hm:ps.getD i 0∈ps:=by simp [List.getD,hi]
 have m1:=hlo _ hm;have m2:=hhi _ hm;have co:=fun W h3=>Qju (toZ ps) v i W h3 hf (by rw [Qau];exact hi) (by rw [Qau];exact hl)
 rw [Quv] at co;have cp:=fun u W h3=>Qxn (ps.getD i 0) (oth ps i) u W ⟨m1,m2⟩ h3 (Nat.le_trans (Quw ps i) hl) (fun p hp=>hhi p (Qo2 hp))
 have hlt:=Qys (ps.getD i 0) (oth ps i) m1;have ci:=fun W=>Qec ((pmN (ps.getD i 0) (oth ps i):Nat):Int) ((ps.getD i 0:Nat):Int) W (by omega) (decide_eq_true ⟨by omega,by omega⟩)
 have ei:((((pmN (ps.getD i 0) (oth ps i):Nat):Int)%((ps.getD i 0:Nat):Int)).toNat)=pmN (ps.getD i 0) (oth ps i):=by
  rw [<- Int.natCast_emod,Nat.mod_eq_of_lt hlt,Int.toNat_natCast]
 rw [ei,Int.toNat_natCast] at ci;have HIV:Hid (invM (pmN (ps.getD i 0) (oth ps i)) (ps.getD i 0)=ivN ps i):=rfl;rw [HIV.out] at ci;have HV:=Qaa hv;obtain ⟨b,o,cap,rfl,hb,hc⟩:=hv.atZ (by omega);have HC:=Qaa (hc i hi);clear hv hf hc hm hlo hhi ei HIV;generalize ivN ps i=z at *;generalize pmN (ps.getD i 0) (oth ps i)=q at *;generalize ps.getD i 0=m at *;have HAS:Hid (∀W',Old w W'->W'.cell? ⟨b,o+i,none⟩=some (.int .i64 (m:Int))):=fun W' g=>(g.cell (p:=⟨b,o+i,none⟩) hb).trans HC.out
 have i1:(i:Int)<(ps.length:Int):=by omega
 go_enter Tryz.func161,Tryz.ntmps161;go_wp2_with fail
 go_region_held3 (fun W'=>W'.cell? ⟨b,o+i,none⟩=some (.int .i64 (m:Int))) (first | exact HAS.out _ (by repeat' (first | exact Old.refl _ | exact G3.out | exact G2.out | exact G1.out | refine Old.drwI ?_ | fail)) | fail) (first
  | (go_at_call 147;refine (co _ (HV.out.old (by repeat' (first | exact Old.refl _ | refine Old.drwI ?_ | fail)))).mono ?_;rintro e w1 ⟨v1,rfl,g1,o1⟩;have G1:Hid (Old w w1):=Old.trans (by repeat' (first | exact Old.refl _ | refine Old.drwI ?_ | fail)) g1;have R1:=Qaa (Own.row o1);obtain ⟨va1,vc1,rfl⟩:∃a c,v1=.slice a (oth ps i).length c:=(by have:=(Own.row o1).slice;rwa [Qau] at this);clear g1 o1)
  | (go_at_call 166;refine (cp _ _ R1.out).mono ?_;rintro e w2 ⟨rfl,g2⟩;have G2:=Qaa (Old.trans G1.out g2);clear g2)
  | (go_at_call 153;refine (ci _).mono ?_;rintro e w3 ⟨rfl,hw3⟩;have G3:Hid (Old w w3):=(by rw [hw3];exact G2.out);clear hw3)
  | fail)
 all_goals
  go_wp2_with fail;go_ret;exact ⟨rfl,G3.out⟩
def Qd9 (ps:List Nat) (i k:Nat):List Nat:=(ps.take k).take i++(ps.take k).drop (i+1)
theorem Qm6 (ps:List Nat) (i:Nat):Qd9 ps i 0=[]:=by simp [Qd9]
theorem Qqy (ps:List Nat) (i k:Nat) (h:ps.length<=k):Qd9 ps i k=oth ps i:=by unfold Qd9 oth;rw [List.take_of_length_le h]
theorem Qm7 (ps:List Nat) (i:Nat) (h:i<ps.length):Qd9 ps i (i+1)=Qd9 ps i i:=by
 unfold Qd9;rw [List.take_take,List.take_take,List.drop_eq_nil_of_le (by simp;omega),List.drop_eq_nil_of_le (by simp;omega)]
 congr 2
 omega
theorem Qm8 (ps:List Nat) (i k:Nat) (h:k<ps.length) (hk:k≠i):Qd9 ps i (k+1)=Qd9 ps i k++[ps.getD k 0]:=by
 unfold Qd9;have hl:(ps.take k).length=k:=by rw [List.length_take];omega
 have e:ps.take (k+1)=ps.take k++[ps.getD k 0]:=by
  rw [List.take_add_one]
  congr 1
  simp [List.getD,h]
 rw [e];generalize ps.take k=l at *;rw [List.take_append,List.drop_append,hl];rcases Nat.lt_or_gt_of_ne hk with h1 | h1
 ·obtain ⟨d,hd⟩:∃d,i - k=d+1:=⟨i - k - 1,by omega⟩
  have e2:i+1 - k=d+2:=by omega
  have e3:l.drop (i+1)=[]:=List.drop_eq_nil_of_le (by omega);rw [hd,e2,e3];simp
 ·rw [show i - k=0 by omega,show i+1 - k=0 by omega,List.take_zero,List.drop_zero,List.append_nil,List.append_assoc]
theorem Q1e (m:Nat) (qs:List Nat) (p:Nat):pmN m (qs++[p])=pmN m qs*(p%m)%m:=by
 rw [Qk4,Nat.mul_mod,Nat.mul_mod (pmN m qs) (p%m),Nat.mod_mod]
theorem Qm9 (ps:List Nat) (v:Value) (i:Nat) (w:World) (hv:Row w v (toZ ps)) (hi:i<ps.length) (hl:ps.length≤50) (hlo:∀p∈ps,2≤p) (hhi:∀p∈ps,p≤268435456) :
  Calls Tryz.prog 85 #[v,.int .i64 i] w fun e w'=>e=.returned (.int .i64 ((ivN ps i:Nat):Int))/\Old w w':=by
 have hm:ps.getD i 0∈ps:=by simp [List.getD,hi]
 have m1:=hlo _ hm;have m2:=hhi _ hm;have hlt:=Qys (ps.getD i 0) (oth ps i) m1;have ci:=fun W=>Qv1 ((pmN (ps.getD i 0) (oth ps i):Nat):Int) ((ps.getD i 0:Nat):Int) W (by omega) (by omega)
 have ei:((((pmN (ps.getD i 0) (oth ps i):Nat):Int)%((ps.getD i 0:Nat):Int)).toNat)=pmN (ps.getD i 0) (oth ps i):=by
  rw [<- Int.natCast_emod,Nat.mod_eq_of_lt hlt,Int.toNat_natCast]
 rw [ei,Int.toNat_natCast] at ci;have HIV:Hid (invM (pmN (ps.getD i 0) (oth ps i)) (ps.getD i 0)=ivN ps i):=rfl;rw [HIV.out] at ci;obtain ⟨b,o,cap,rfl,hb,hc⟩:=hv.atZ (by omega);have HC:=Qaa hc;have HH:Hid (∀k,k<ps.length->ps.getD k 0<=268435456):=fun k hk=>hhi _ (by simp [List.getD,hk])
 have HS:Hid (∀k,k<ps.length->k≠i->pmN (ps.getD i 0) (Qd9 ps i (k+1))=pmN (ps.getD i 0) (Qd9 ps i k)*(ps.getD k 0%ps.getD i 0)%ps.getD i 0):=fun k h1 h2=>by rw [Qm8 ps i k h1 h2,Q1e]
 have HS2:Hid (pmN (ps.getD i 0) (Qd9 ps i (i+1))=pmN (ps.getD i 0) (Qd9 ps i i)):=by show _ = _;rw [Qm7 ps i hi]
 have HS3:Hid (pmN (ps.getD i 0) (Qd9 ps i ps.length)=pmN (ps.getD i 0) (oth ps i)):=by show _ = _;rw [Qqy ps i _ (Nat.le_refl _)]
 have HS0:Hid (pmN (ps.getD i 0) (Qd9 ps i 0)=1):=by show _ = _;rw [Qm6];rfl
 have HMI:=Qaa (hc i hi);have cmi:=hc i hi;clear hv hc hm hlo hhi ei HIV hlt;generalize ivN ps i=z at *;generalize pmN (ps.getD i 0) (oth ps i)=q at *;generalize ps.getD i 0=m at *;have i1:(i:Int)<(ps.length:Int):=by omega
 have e1:(1:Int)%(m:Int)=1:=Int.emod_eq_of_lt (by omega) (by omega);have hm0:¬m=0:=by omega
 go_enter Tryz.func85,Tryz.ntmps85;go_wp2_with fail;clear cmi
 go_loopw [5,15] (fun x j W=>∃k y:Nat,k<=ps.length/\j=.int .i64 k/\x=.int .i64 y/\y<m/\Hid (pmN m (Qd9 ps i k)=y)/\Hid (Old w W)) (fun _ j _=>ps.length - (intOf j).toNat)
 case atStart=>exact ⟨0,1,by omega,rfl,by rw [e1];rfl,by omega,HS0,Old.refl _⟩
 case round=>
  obtain ⟨k,y,hk,rfl,rfl,hy,HY,HG⟩:=hrel;have cm:=(HG.out.cell (p:=⟨b,o+i,none⟩) hb).trans HMI.out
  by_cases hlt:k<ps.length
  ·have c1:=(HG.out.cell (p:=⟨b,o+k,none⟩) hb).trans (HC.out k hlt);have hpb:=HH.out k hlt
   by_cases hki:k=i
   ·subst hki;have HE:Hid (pmN m (Qd9 ps k (k+1))=y):=by show _ = _;rw [HS2.out];exact HY.out
    clear HY;generalize ps.getD k 0=p at *;go_wp2_with fail;exact ⟨⟨k+1,y,by omega,by go_num,rfl,hy,HE,HG⟩,by simp [intOf];omega⟩
   ·have HE:Hid (pmN m (Qd9 ps i (k+1))=y*(ps.getD k 0%m)%m):=by show _ = _;rw [HS.out k hlt hki,HY.out]
    have dn:((k:Int) != (i:Int))=true:=by simp;omega
    clear HY;generalize ps.getD k 0=p at *;obtain ⟨r,hr⟩:∃r,p%m=r:=⟨_,rfl⟩
    have hrm:r<m:=by rw [<- hr];exact Nat.mod_lt _ (by omega)
    have t1:Int.tmod (p:Int) (m:Int)=(r:Int):=by rw [Int.tmod_eq_emod_of_nonneg (by omega),<- hr];rfl
    rw [hr] at HE;obtain ⟨x2,hx2⟩:∃x2,y*r=x2:=⟨_,rfl⟩
    have hb2:x2<=72057594037927936:=by rw [<- hx2];exact Nat.le_trans (Nat.mul_le_mul (show y<=268435456 by omega) (show r<=268435456 by omega)) (by decide)
    have t2:IntKind.i64.wrap ((y:Int)*(r:Int))=(x2:Int):=by rw [<- Int.natCast_mul,hx2,IntKind.wrap_i64];omega
    rw [hx2] at HE;obtain ⟨x3,hx3⟩:∃x3,x2%m=x3:=⟨_,rfl⟩
    have h3:x3<m:=by rw [<- hx3];exact Nat.mod_lt _ (by omega)
    have t3:Int.tmod (x2:Int) (m:Int)=(x3:Int):=by rw [Int.tmod_eq_emod_of_nonneg (by omega),<- hx3];rfl
    rw [hx3] at HE;clear hr hx2 hx3;go_wp2_with fail
    go_quiet (fail)
    go_wp2_with fail;exact ⟨⟨k+1,x3,by omega,by go_num,rfl,h3,HE,HG.out.drewN _⟩,by simp [intOf];omega⟩
  ·have d1:decide ((k:Int)<(ps.length:Int))=false:=by simp;omega
   obtain rfl:k=ps.length:=by omega
   obtain rfl:y=q:=by rw [<- HY.out,HS3.out]
   go_wp2_with (go_at_call 113;refine (ci _).mono ?_;rintro e w5 ⟨rfl,hw5⟩;have HG5:Hid (Old w w5):=(by rw [hw5];exact HG.out);clear hw5);go_ret;exact ⟨rfl,HG5.out⟩
end Go.Proofs.YthcidnnkakppcaaGreatDoor
namespace Go.Proofs.YthcidnnkakppcaaGreatDoor
open Go.ChangeShapes Go.WideShapes Go.ChangeAt Go.RowKit
open M2
def yN (rs ps:List Nat) (i:Nat):Nat:=rs.getD i 0*ivN ps i%ps.getD i 0
def Qe2 (rs ps:List Nat):Nat->Nat
 | 0=>0
 | k+1=>Qe2 rs ps k+Qaf (oth ps k)*yN rs ps k
theorem Qxo (ps:List Nat) (i:Nat) (h:i<ps.length):(oth ps i).length=ps.length - 1:=by simp [oth];omega
theorem Qna (ps:List Nat) (hb:∀p∈ps,p<=268435456):Qaf ps<=LB^ps.length:=by
 have:=Qkj ps hb ps.length (Nat.le_refl _)
 rwa [List.take_length] at this
theorem Qyt {ps:List Nat} (hb:Bas ps) {i:Nat} (hi:i<ps.length):Qaf (oth ps i)<=LB^5:=by
 have h1:=Qna (oth ps i) (fun p hp=>hb.hi p (Qo2 hp));rw [Qxo ps i hi] at h1;exact Nat.le_trans h1 (Nat.pow_le_pow_right Qa2 (by have:=hb.len6;omega))
theorem Qxp {rs ps:List Nat} (hb:Bas ps) {i:Nat} (hi:i<ps.length):yN rs ps i<ps.getD i 0/\ps.getD i 0<=268435456:=by
 have hm:ps.getD i 0∈ps:=by simp [List.getD,hi]
 have:=hb.lo _ hm;exact ⟨Nat.mod_lt _ (by omega),hb.hi _ hm⟩
theorem Qux {rs ps:List Nat} (hb:Bas ps) {i:Nat} (hi:i<ps.length):Qaf (oth ps i)*yN rs ps i<=LB^6:=by
 have h1:=Qyt hb hi;have h2:=Qxp (rs:=rs) hb hi;have h3:yN rs ps i<=LB:=by show _<=268435456;omega
 rw [Nat.pow_succ LB 5];exact Nat.mul_le_mul h1 h3
theorem Quy {rs ps:List Nat} (hb:Bas ps):∀k,k<=ps.length->Qe2 rs ps k<=k*LB^6
 | 0,_=>by simp [Qe2]
 | k+1,h=>by
   have h1:=Quy (rs:=rs) hb k (by omega);have h2:=Qux (rs:=rs) hb (show k<ps.length by omega);rw [Qe2,Nat.add_mul,Nat.one_mul];omega
theorem Qk6 {n:Nat} (h:n<=6*LB^6):cnt n<=7:=by
 refine Qb4 (Nat.lt_of_le_of_lt h ?_);rw [Nat.pow_succ LB 6,Nat.mul_comm];exact Nat.mul_lt_mul_of_pos_left (by decide) (pw 6)
theorem Qdj {rs ps:List Nat} (hb:Bas ps) (k:Nat) (h:k<=ps.length):cnt (Qe2 rs ps k)<=7:=by
 refine Qk6 (Nat.le_trans (Quy hb k h) (Nat.mul_le_mul_right _ (by have:=hb.len6;omega)))
theorem Quz {ps:List Nat} (hb:Bas ps) {i:Nat} (hi:i<ps.length):cnt (Qaf (oth ps i))<=7:=by
 refine Qk6 (Nat.le_trans (Qyt hb hi) ?_);rw [Nat.pow_succ LB 5];have:=pw 5;have h2:LB^5*1<=LB^5*LB:=Nat.mul_le_mul_left _ (by decide);omega
theorem Qqz {rs ps:List Nat} (hb:Bas ps) {i:Nat} (hi:i<ps.length):cnt (Qaf (oth ps i)*yN rs ps i)<=7:=by
 refine Qk6 (Nat.le_trans (Qux hb hi) ?_);have:=pw 6;omega
theorem Qu0 (a m:Nat) (hm:0<m):M1.invM a m<m:=by
 unfold M1.invM
 cases h:(List.range m).find? (fun i=>a*i%m==1) with
 | none=>exact hm
 | some i=>
   have:=List.mem_of_find?_eq_some h
   simpa using this
def yL (rs ps:List Nat):List Nat:=(List.range ps.length).map (fun i=>yN rs ps i)
theorem Qyu (rs ps:List Nat):(yL rs ps).length=ps.length:=by simp [yL]
theorem Qyv (rs ps:List Nat) (k:Nat) (h:k<ps.length):(yL rs ps).getD k 0=yN rs ps k:=by simp [yL,List.getD,h]
theorem Qxq {ps:List Nat} {i k p:Nat} (h:p∈Qd9 ps i k):p∈ps:=by
 rcases List.mem_append.1 h with h | h
 ·exact List.mem_of_mem_take (List.mem_of_mem_take h)
 ·exact List.mem_of_mem_take (List.mem_of_mem_drop h)
theorem Qxr (ps:List Nat) (i k:Nat):(Qd9 ps i k).length<=ps.length:=by simp [Qd9];omega
theorem Qxs {ps:List Nat} (hb:Bas ps) (i k:Nat):cnt (Qaf (Qd9 ps i k))<=7:=by
 refine Qk6 (Nat.le_trans (Qna _ (fun p hp=>hb.hi p (Qxq hp))) (Nat.le_trans (Nat.pow_le_pow_right Qa2 (show (Qd9 ps i k).length<=6 from Nat.le_trans (Qxr ps i k) hb.len6)) ?_));have:=pw 6;omega
theorem Qr6 (ps:List Nat) (v:Value) (i:Nat) (w:World) (hv:Row w v (toZ ps)) (hb:Bas ps) (hi:i<ps.length) :
  Calls Tryz.prog 86 #[v,.int .i64 i] w fun e w'=>∃v',e=.returned v'/\Old w w'/\Row w' v' (toI (dig (Qaf (oth ps i)))):=by
 have hl6:=hb.len6;have HB:=Qaa hb;obtain ⟨b,o,cap,rfl,hbb,hc⟩:=hv.atZ (by have:=hb.len1;omega);have HC:=Qaa hc;have HS:Hid (∀k,k<ps.length->k≠i->Qaf (Qd9 ps i (k+1))=Qaf (Qd9 ps i k)*ps.getD k 0):=fun k h1 h2=>by rw [Qm8 ps i k h1 h2,Qjj]
 have HS2:Hid (Qaf (Qd9 ps i (i+1))=Qaf (Qd9 ps i i)):=by show _ = _;rw [Qm7 ps i hi]
 have HS3:Hid (Qaf (Qd9 ps i ps.length)=Qaf (oth ps i)):=by show _ = _;rw [Qqy ps i _ (Nat.le_refl _)]
 have HS0:Hid (Qaf (Qd9 ps i 0)=1):=by show _ = _;rw [Qm6];rfl
 clear hv hc hb;go_enter Tryz.func86,Tryz.ntmps86;go_wp2_with fail
 go_loopw [5,11] (fun x j W=>∃(k:Nat) (a:Option Addr) (n c:Nat),k<=ps.length/\j=.int .i64 k/\x=.slice a n c/\Hid (Row W (.slice a n c) (toI (dig (Qaf (Qd9 ps i k)))))/\Hid (Old w W)) (fun _ j _=>ps.length - (intOf j).toNat)
 case atStart=>exact ⟨0,_,_,_,by omega,rfl,rfl,(by show Row _ _ _;rw [HS0.out];exact Qt3 w _),(Old.refl w).alloc _⟩
 case round=>
  obtain ⟨k,a,n,c,hk,rfl,rfl,HR,HG⟩:=hrel
  by_cases hlt:k<ps.length
  ·have c1:=(HG.out.cell (p:=⟨b,o+k,none⟩) hbb).trans (HC.out k hlt);have hpb:ps.getD k 0≤268435456:=HB.out.hi _ (by simp [List.getD,hlt])
   by_cases hki:k=i
   ·subst hki;have HF:Hid (Row wr (.slice a n c) (toI (dig (Qaf (Qd9 ps k (k+1)))))):=by show Row _ _ _;rw [HS2.out];exact HR.out
    clear HR;generalize ps.getD k 0=p at *;go_wp2_with fail;exact ⟨⟨k+1,_,_,_,by omega,by go_num,rfl,HF,HG⟩,by simp [intOf];omega⟩
   ·have dn:((k:Int) != (i:Int))=true:=by simp;omega
    have HE:=Qaa (HS.out k hlt hki);have HC1:Hid ((dig (Qaf (Qd9 ps i k))).length<=1048576):=Nat.le_trans (Qxs HB.out i k) (by omega);have HC2:Hid ((dig (ps.getD k 0)).length<=1048576):=Nat.le_trans (Qcn (by omega)) (by omega);have HF:Hid (∀W u,Row W u (toI (dig (Qaf (Qd9 ps i k)*ps.getD k 0)))->Row W u (toI (dig (Qaf (Qd9 ps i (k+1)))))):=fun W u h=>by rw [HE.out];exact h
    clear HE;generalize Qaf (Qd9 ps i k)=q at *;generalize ps.getD k 0=p at *;go_wp2_with fail;refine (Qlv p _ (by omega)).mono ?_
    rintro e w2 ⟨v2,rfl,g2,o2⟩;have HG2:=Qaa (Old.trans HG.out g2);have HR2:=Qaa (HR.out.old g2);have HP2:=Qaa (Own.row o2);obtain ⟨a2,cap2,rfl⟩:=(Own.row o2).slice;clear g2 o2;go_wp2_with fail;refine (Qf8 (dig q) (dig p) _ _ _ HR2.out HP2.out (Qao q) (Qao p) HC1.out HC2.out).mono ?_
    rw [Qag,Qag];rintro e w3 ⟨v3,rfl,g3,o3⟩;have HG3:=Qaa (Old.trans HG2.out g3);have HP3:=Qaa (Own.row o3);obtain ⟨a3,cap3,rfl⟩:=(Own.row o3).slice;clear g3 o3;go_wp2_with fail;exact ⟨⟨k+1,_,_,_,by omega,by go_num,rfl,HF.out _ _ HP3.out,HG3⟩,by simp [intOf];omega⟩
  ·have d1:decide ((k:Int)<(ps.length:Int))=false:=by simp;omega
   obtain rfl:k=ps.length:=by omega
   have HF:Hid (Row wr (.slice a n c) (toI (dig (Qaf (oth ps i))))):=by
    have:=HR.out;rw [HS3.out] at this;exact this
   clear HR;go_wp2_with fail;go_ret;exact ⟨_,rfl,HG.out,HF.out⟩
theorem cellS (w:World) (g j:Nat) (x:Value) {b o:Nat} (h:b≠g):(w.setCell ⟨g,j,none⟩ x).cell? ⟨b,o,none⟩=w.cell? ⟨b,o,none⟩:=World.cell?_of_block (heap_setCell_other w ⟨g,j,none⟩ b x h)
theorem Qr7 (rs ps:List Nat) (v u:Value) (w:World) (hv:Row w v (toZ rs)) (hu:Row w u (toZ ps)) (hf:Fit u) (hb:Bas ps) (hrl:rs.length=ps.length) (hr:∀i,i<ps.length→rs.getD i 0<ps.getD i 0) :
  Calls Tryz.prog 146 #[v,u] w fun e w'=>∃g,e=.returned (.slice (some ⟨g,0,none⟩) ps.length ps.length)/\Old w w'/\Own w' w.heap.size (.slice (some ⟨g,0,none⟩) ps.length ps.length) (toZ (yL rs ps)):=by
 obtain ⟨i0,hi,hz0,hz1,hz2⟩:=info_parts Tryz.infoInt;have hl6:=hb.len6;have hl1:=hb.len1;have HU:=Qaa hu;obtain ⟨b1,o1,cap1,rfl,hb1,hc1⟩:=hv.atZ (by omega);obtain ⟨b2,o2,cap2,rfl,hb2,hc2⟩:=hu.atZ (by omega);rw [hrl] at hc1 ⊢;have HC1:=Qaa hc1;have HC2:=Qaa hc2;have HB:=Qaa hb;have HR:=Qaa hr;have HF:=Qaa hf;have hlen:(toZ (yL rs ps)).length=ps.length:=by rw [Qau,Qyu]
 have HE:Hid (∀k,k<ps.length->(toZ (yL rs ps)).getD k 0=((yN rs ps k:Nat):Int)):=fun k hk=>by rw [Qcd,Qyv _ _ _ hk]
 generalize toZ (yL rs ps)=zs at *;clear hv hu hc1 hc2 hb hr hf hrl;go_enter Tryz.func146,Tryz.ntmps146;go_wp2_with (at_make;refine wpList_make_full _ rfl _ _ 22 rfl w.heap.size 3 i0 (.int .i64 0) 1 Tryz.underlying22 hi hz0 hz1 .i64 .i64 _ _ ps.length rfl rfl rfl rfl (by rw [hz2];omega) (by unfold maxLen;omega) (Nat.le_refl _) ?_;intro w3 hown hgrow)
 have HO:Hid (Qbc w3 w.heap.size w.heap.size ps.length (List.replicate ps.length 0)):=by
  rw [Qbj] at hown;exact hown
 have HG3:=Qaa (Old.by_ (Old.refl _) hgrow (fun b hb=>by cases hb));clear hown hgrow
 go_loopw [13] (fun i W=>∃k:Nat,k<=ps.length/\i=.int .i64 k/\Hid (Qbc W w.heap.size w.heap.size ps.length (Qbr zs k))/\Hid (Old w W)) (fun i _=>ps.length - (intOf i).toNat)
 case atStart=>exact ⟨0,by omega,rfl,(by show Qbc _ _ _ _ _;rw [Qch,hlen];exact HO.out),HG3⟩
 case round=>
  obtain ⟨k,hk,rfl,HO1,HG⟩:=hrel;clear HO HG3
  by_cases hlt:k<ps.length
  ·have c1:=(HG.out.cell (p:=⟨b1,o1+k,none⟩) hb1).trans (HC1.out k hlt);have c2:=(HG.out.cell (p:=⟨b2,o2+k,none⟩) hb2).trans (HC2.out k hlt);have civ:=fun W h3=>Qk5 ps (.slice (some ⟨b2,o2,none⟩) ps.length cap2) k W h3 HF.out hlt (by omega) HB.out.lo HB.out.hi
   have hyl:=Qxp (rs:=rs) HB.out hlt
   have hivl:ivN ps k<=268435456:=by
    have:ivN ps k<ps.getD k 0:=by
     have hm:ps.getD k 0∈ps:=by simp [List.getD,hlt]
     have h2:=HB.out.lo _ hm;unfold ivN;exact Qu0 _ _ (by omega)
    omega
   have hrk:=HR.out k hlt;have HX:=Qaa (HE.out k hlt);have HYE:Hid (rs.getD k 0*ivN ps k%ps.getD k 0=yN rs ps k):=rfl;generalize yN rs ps k=y at *;generalize ivN ps k=iv at *;generalize rs.getD k 0=rk at *;generalize ps.getD k 0=p at *;obtain ⟨y0,hy0⟩:∃y0,rk*iv=y0:=⟨_,rfl⟩
   have hb2':y0<=72057594037927936:=by rw [<- hy0];exact Nat.le_trans (Nat.mul_le_mul (show rk<=268435456 by omega) hivl) (by decide)
   have t2:IntKind.i64.wrap ((rk:Int)*(iv:Int))=(y0:Int):=by rw [<- Int.natCast_mul,hy0,IntKind.wrap_i64];omega
   have hye:=HYE.out;rw [hy0] at hye;have t3:Int.tmod (y0:Int) (p:Int)=(y:Int):=by rw [Int.tmod_eq_emod_of_nonneg (by omega),<- hye];rfl
   have hp0:¬p=0:=by omega
   have i1:(k:Int)<(ps.length:Int):=by omega
   have hbk1:=Nat.lt_of_lt_of_le hb1 HG.out.size;have HAS:Hid (∀W',Old wr W'->W'.cell? ⟨b1,o1+k,none⟩=some (.int .i64 (rk:Int))):=fun W' g=>(g.cell (p:=⟨b1,o1+k,none⟩) hbk1).trans c1
   have HAS2:Hid (∀W' z,Old wr W'->((fun W'=>W'.cell? ⟨b1,o1+k,none⟩=some (.int .i64 (rk:Int))) (W'.setCell ⟨w.heap.size,k,none⟩ z))):=fun W' z g=>(cellS _ _ _ _ (by omega)).trans (HAS.out W' g)
   have HLK:=Qaa hlen;clear HYE hy0 hye;go_wp2_with fail
   go_region_held3 (fun W'=>W'.cell? ⟨b1,o1+k,none⟩=some (.int .i64 (rk:Int))) (first | with_reducible exact HAS.out _ G5.out | with_reducible exact HAS.out _ (Below.drew (Old.refl wr)) | with_reducible exact HAS2.out _ _ G5.out | with_reducible exact HAS.out _ (Old.refl wr)) (first
    | (go_at_call 161;refine (civ _ (HU.out.old (Old.trans HG.out (Below.drew (Old.refl wr))))).mono ?_;rintro e w5 ⟨rfl,g5⟩;have G5:=Qaa (Old.trans (Below.drew (Old.refl wr)) g5);clear g5;have c3:=(HO1.out.old G5.out).get (Qbd zs k (by omega) |>.trans HLK.out) k hlt;have c4:=(HO1.out.old G5.out).free k;generalize (Qbr zs k).getD k 0=oldv at c3)
    | fail)
   all_goals
    have HP:Hid (Qbc (w5.setCell ⟨w.heap.size,k,none⟩ (.int .i64 (y:Int))) w.heap.size w.heap.size ps.length (Qbr zs (k+1))):=by
     have:=(HO1.out.old G5.out).put k (y:Int);rw [<- HX.out,Qc4 zs k (by omega)] at this;rw [<- HX.out];exact this
    have HN2:Hid (Old w (w5.setCell ⟨w.heap.size,k,none⟩ (.int .i64 (y:Int)))):=(Old.trans HG.out G5.out).own (Nat.le_refl _) _;go_wp2_with fail;exact ⟨⟨k+1,by omega,by go_num,HP,HN2⟩,by simp [intOf];omega⟩
  ·have d1:decide ((k:Int)<(ps.length:Int))=false:=by simp;omega
   obtain rfl:k=ps.length:=by omega
   have HFI:Hid (Own wr w.heap.size (.slice (some ⟨w.heap.size,0,none⟩) ps.length ps.length) zs):=by
    have:=HO1.out.own ((Qbd zs ps.length (by omega)).trans hlen);rw [show Qbr zs ps.length=zs by rw [<- hlen];exact Qc3 zs] at this;exact this
   go_wp2_with fail;go_ret;exact ⟨_,rfl,HG.out,HFI.out⟩
def coN (rs ps:List Nat):Nat:=Qe2 rs ps ps.length%Qaf ps
structure Res (rs ps:List Nat):Prop where
 bas:Bas ps
 len:rs.length=ps.length
 lt:∀i,i<ps.length->rs.getD i 0<ps.getD i 0
theorem Qc8 {rs ps:List Nat} (h:Res rs ps):cnt (coN rs ps)<=7:=Nat.le_trans (cnt_mono (Nat.mod_le _ _)) (Qdj h.bas _ (Nat.le_refl _))
end Go.Proofs.YthcidnnkakppcaaGreatDoor
