/- Proved: what its theorems say. -/
import Derived.Test.YtanijpekdnkicaaGreatDoorTc19
import Derived.Deep.RegionWith
namespace Go.Proofs.YtanijpekdnkicaaGreatDoor
open Go.ChangeShapes Go.WideShapes Go.ChangeAt Go.RowKit
set_option linter.unusedVariables false
def trnS (P N t:Nat) (xs:List Nat):Nat→List Int
 | 0=>List.replicate N 0
 | k+1=>if k*t%(2*N)<N then (trnS P N t xs k).set (k*t%(2*N)) ((xs.getD k 0:Nat):Int) else (trnS P N t xs k).set (k*t%(2*N) - N) ((-((xs.getD k 0:Nat):Int))%(P:Int))
theorem trnS_len (P N t:Nat) (xs:List Nat):∀k,(trnS P N t xs k).length=N
 | 0=>by simp [trnS]
 | k+1=>by
   unfold trnS
   split <;> rw [List.length_set,trnS_len P N t xs k]
theorem trnS_lo (P N t:Nat) (xs:List Nat) (k e:Nat) (he:k*t%(2*N)=e) (h:e<N):trnS P N t xs (k+1)=(trnS P N t xs k).set e ((xs.getD k 0:Nat):Int):=by
 subst he
 rw [trnS,if_pos h]
theorem trnS_hi (P N t:Nat) (xs:List Nat) (k e:Nat) (he:k*t%(2*N)=e) (h:¬e<N):trnS P N t xs (k+1)=(trnS P N t xs k).set (e - N) ((-((xs.getD k 0:Nat):Int))%(P:Int)):=by
 subst he
 rw [trnS,if_neg h]
theorem kt_bd (k t N:Nat) (hk:k<N) (hN:N≤16) (ht:t<2*N):k*t≤512:=by
 have:=Nat.mul_le_mul (show k≤16 by omega) (show t≤32 by omega)
 omega
set_option maxRecDepth 100000 in
set_option maxHeartbeats 800000 in
theorem impl_turned (P N R t:Nat) (xs:List Nat) (v:Value) (w:World) (hv:Row w v (toZ xs)) (hP:2≤P∧P≤268435456) (hN:2≤N∧N≤16) (la:xs.length=N) (ha:∀x∈xs,x<P) (ht:t<2*N) :
 Calls Tryz.prog 96 #[.agg #[.int .i64 P,.int .i64 N,.int .i64 R],v,.int .i64 t] w fun e w'=>∃v',e=.returned v'∧Old w w'∧Own w' w.heap.size v' (trnS P N t xs N):=by
 obtain ⟨i0,hi,hz0,hz1,hz2⟩:=info_parts Tryz.infoInt
 obtain ⟨b1,o1,cap1,rfl,hb1,hc1⟩:=hv.atZ (by omega)
 rw [la] at hc1 ⊢
 have HC1:Hid (∀j,j<N→w.cell? ⟨b1,o1+j,none⟩=some (.int .i64 ((xs.getD j 0:Nat):Int))):=hc1
 have HA:Hid (∀k,xs.getD k 0<P):=fun k=>getD_lt ha (by omega) k
 have HLO:Hid (∀k e,k*t%(2*N)=e→e<N→trnS P N t xs (k+1)=(trnS P N t xs k).set e ((xs.getD k 0:Nat):Int)):=fun k e he h=>trnS_lo P N t xs k e he h
 have HHI:Hid (∀k e,k*t%(2*N)=e→¬e<N→trnS P N t xs (k+1)=(trnS P N t xs k).set (e - N) ((-((xs.getD k 0:Nat):Int))%(P:Int))):=fun k e he h=>trnS_hi P N t xs k e he h
 have HL:Hid (∀k,(trnS P N t xs k).length=N):=fun k=>trnS_len P N t xs k
 have H0:Hid (trnS P N t xs 0=List.replicate N 0):=rfl
 generalize trnS P N t xs=F at *
 clear hc1 hv la ha
 have RC0:Hid (Rc (w.alloc (.cells #[.int .i64 P,.int .i64 N,.int .i64 R] 144)) w.heap.size P N R):=Rc.new w _ _ _
 have hpn:¬(2*(N:Int))=0:=by omega
 have hpn2:¬N=0:=by omega
 go_enter Tryz.func96,Tryz.ntmps96
 go_wp2_with (at_make;refine wpList_make_full _ rfl _ _ 22 rfl (w.heap.size+1) 3 i0 (.int .i64 0) 1 Tryz.underlying22 hi hz0 hz1 .i64 .i64 _ _ N rfl rfl rfl rfl (by rw [hz2];omega) (by unfold maxLen;omega) (by simp) ?_;intro w1 hown hgrow;have z1:=(RC0.out.by_ hgrow (fun k hk=>by cases hk)).c1)
 have HO:Hid (OwnI w1 (w.heap.size+1) (w.heap.size+1) N (F 0)):=by
  have e:(w.alloc (.cells #[.int .i64 P,.int .i64 N,.int .i64 R] 144)).heap.size=w.heap.size+1:=by simp
  rw [made_ints,e] at hown
  show OwnI _ _ _ _ _
  rw [H0.out]
  exact hown
 have HG:Hid (Old (w.alloc (.cells #[.int .i64 P,.int .i64 N,.int .i64 R] 144)) w1):=Old.by_ (Old.refl _) hgrow (fun b hb=>by cases hb)
 have HSZ:Hid ((w.alloc (.cells #[.int .i64 P,.int .i64 N,.int .i64 R] 144)).heap.size=w.heap.size+1):=by show _ = _;simp
 clear z1
 clear hown hgrow
 go_loopw [8,9,15] (fun x y i W=>∃k:Nat,k≤N∧i=.int .i64 k∧Hid (OwnI W (w.heap.size+1) (w.heap.size+1) N (F k))∧Hid (Old (w.alloc (.cells #[.int .i64 P,.int .i64 N,.int .i64 R] 144)) W)) (fun _ _ i _=>N - (intOf i).toNat)
 case atStart=>exact ⟨0,by omega,rfl,HO,HG⟩
 case round=>
  obtain ⟨k,hk,rfl,HO1,HG2⟩:=hrel
  clear HO HG
  have HG1:Hid (Old w wr):=Old.trans ((Old.refl w).alloc _) HG2.out
  have RC2:Hid (Rc wr w.heap.size P N R):=RC0.out.old HG2.out
  have z0:=RC2.out.c0
  have z1:=RC2.out.c1
  by_cases hlt:k<N
  ·have d1:decide ((k:Int)<(N:Int))=true:=by simp;omega
   have i1:(k:Int)<(N:Int):=by omega
   have c1:wr.cell? ⟨b1,o1+k,none⟩=some (.int .i64 ((xs.getD k 0:Nat):Int)):=(HG1.out.cell (p:=⟨b1,o1+k,none⟩) hb1).trans (HC1.out k hlt)
   have hx:=HA.out k
   have hkt:=kt_bd k t N hlt hN.2 ht
   have e1:(k:Int)*(t:Int)=((k*t:Nat):Int):=by simp
   have he:k*t%(2*N)<2*N:=Nat.mod_lt _ (by omega)
   have e2:((k*t:Nat):Int)%(2*(N:Int))=((k*t%(2*N):Nat):Int):=by simp
   have HLO1:=fun h=>HLO.out k _ rfl h
   have HHI1:=fun h=>HHI.out k _ rfl h
   have hlen:=HL.out k
   generalize xs.getD k 0=x at *
   generalize k*t=m at *
   generalize m%(2*N)=e at *
   by_cases hlo:e<N
   ·have d2:decide ((e:Int)<(N:Int))=true:=by simp;omega
    have i2:(e:Int)<(N:Int):=by omega
    have HS:Hid (F (k+1)=(F k).set e (x:Int)):=HLO1 hlo
    clear HLO1 HHI1
    have c3:=HO1.out.get hlen e hlo
    have c4:=HO1.out.free e
    generalize (F k).getD e 0=oldv at *
    have HP:Hid (OwnI (wr.setCell ⟨w.heap.size+1,e,none⟩ (.int .i64 (x:Int))) (w.heap.size+1) (w.heap.size+1) N (F (k+1))):=by
     show OwnI _ _ _ _ _
     rw [HS.out]
     exact HO1.out.put e _
    have HN2:Hid (Old (w.alloc (.cells #[.int .i64 P,.int .i64 N,.int .i64 R] 144)) (wr.setCell ⟨w.heap.size+1,e,none⟩ (.int .i64 (x:Int)))):=HG2.out.own (by have:=HSZ.out;simp;try omega) _
    clear HS
    go_wp2_with fail
    exact ⟨⟨k+1,by omega,by go_num,HP,HN2⟩,by simp [intOf];omega⟩
   ·have d2:decide ((e:Int)<(N:Int))=false:=by simp;omega
    have i2:(e:Int) - (N:Int)<(N:Int):=by omega
    obtain ⟨f,hf⟩:∃f,f=e - N:=⟨_,rfl⟩
    have ef:(e:Int) - (N:Int)=(f:Int):=by omega
    have hfl:f<N:=by omega
    have i3:(f:Int)<(N:Int):=by omega
    have HS:Hid (F (k+1)=(F k).set f ((-(x:Int))%(P:Int))):=by rw [hf];exact HHI1 hlo
    clear HLO1 HHI1 hf
    have c3:=HO1.out.get hlen f hfl
    have c4:=HO1.out.free f
    have cr:=fun W=>impl_residueOf (-(x:Int)) (P:Int) W ⟨by omega,by omega⟩ ⟨by omega,by omega⟩
    have ew1:IntKind.i64.wrap (f:Int)=(f:Int):=by rw [IntKind.wrap_i64];omega
    have ew2:IntKind.i64.wrap (-(x:Int)) = -(x:Int):=by rw [IntKind.wrap_i64];omega
    have ew3:IntKind.i64.wrap ((e:Int) - (N:Int))=(f:Int):=by rw [IntKind.wrap_i64];omega
    generalize (F k).getD f 0=oldv at *
    generalize (-(x:Int))%(P:Int)=y at *
    have HP:Hid (OwnI (wr.setCell ⟨w.heap.size+1,f,none⟩ (.int .i64 y)) (w.heap.size+1) (w.heap.size+1) N (F (k+1))):=by
     show OwnI _ _ _ _ _
     rw [HS.out]
     exact HO1.out.put f _
    have HN2:Hid (Old (w.alloc (.cells #[.int .i64 P,.int .i64 N,.int .i64 R] 144)) (wr.setCell ⟨w.heap.size+1,f,none⟩ (.int .i64 y))):=HG2.out.own (by have:=HSZ.out;simp;try omega) _
    clear HS
    go_wp2_with fail
    go_region_with (go_at_call 118;refine (cr _).mono ?_;rintro en w5 ⟨rfl,rfl⟩)
    all_goals
     go_wp2_with fail
     exact ⟨⟨k+1,by omega,by go_num,HP.out,HN2.out.drewN 1⟩,by simp [intOf];omega⟩
  ·have d1:decide ((k:Int)<(N:Int))=false:=by simp;omega
   obtain rfl:k=N:=by omega
   have HF:Hid (Own wr (w.heap.size+1) (.slice (some ⟨w.heap.size+1,0,none⟩) k k) (F k)):=HO1.out.own (HL.out k)
   go_wp2_with fail
   go_ret
   exact ⟨_,rfl,HG1.out,HF.out.low (by omega)⟩
set_option maxRecDepth 100000 in
set_option maxHeartbeats 800000 in
theorem spec_turned (P N R t:Nat) (xs:List Nat) (v:Value) (w:World) (hv:Row w v (toZ xs)) (hP:2≤P∧P≤268435456) (hN:2≤N∧N≤16) (la:xs.length=N) (ha:∀x∈xs,x<P) (ht:t<2*N) :
 Calls Tryz.prog 92 #[.int .i64 P,.int .i64 N,v,.int .i64 t] w fun e w'=>∃v',e=.returned v'∧Old w w'∧Own w' w.heap.size v' (trnS P N t xs N):=by
 obtain ⟨i0,hi,hz0,hz1,hz2⟩:=info_parts Tryz.infoInt
 obtain ⟨b1,o1,cap1,rfl,hb1,hc1⟩:=hv.atZ (by omega)
 rw [la] at hc1 ⊢
 have HC1:Hid (∀j,j<N→w.cell? ⟨b1,o1+j,none⟩=some (.int .i64 ((xs.getD j 0:Nat):Int))):=hc1
 have HA:Hid (∀k,xs.getD k 0<P):=fun k=>getD_lt ha (by omega) k
 have HLO:Hid (∀k e,k*t%(2*N)=e→e<N→trnS P N t xs (k+1)=(trnS P N t xs k).set e ((xs.getD k 0:Nat):Int)):=fun k e he h=>trnS_lo P N t xs k e he h
 have HHI:Hid (∀k e,k*t%(2*N)=e→¬e<N→trnS P N t xs (k+1)=(trnS P N t xs k).set (e - N) ((-((xs.getD k 0:Nat):Int))%(P:Int))):=fun k e he h=>trnS_hi P N t xs k e he h
 have HL:Hid (∀k,(trnS P N t xs k).length=N):=fun k=>trnS_len P N t xs k
 have H0:Hid (trnS P N t xs 0=List.replicate N 0):=rfl
 generalize trnS P N t xs=F at *
 clear hc1 hv la ha
 have hpn:¬(2*(N:Int))=0:=by omega
 have hpn2:¬N=0:=by omega
 go_enter Tryz.func92,Tryz.ntmps92
 go_wp2_with (at_make;refine wpList_make_full _ rfl _ _ 22 rfl (w.heap.size) 3 i0 (.int .i64 0) 1 Tryz.underlying22 hi hz0 hz1 .i64 .i64 _ _ N rfl rfl rfl rfl (by rw [hz2];omega) (by unfold maxLen;omega) (by simp) ?_;intro w1 hown hgrow;skip)
 have HO:Hid (OwnI w1 (w.heap.size) (w.heap.size) N (F 0)):=by
  rw [made_ints] at hown
  show OwnI _ _ _ _ _
  rw [H0.out]
  exact hown
 have HG:Hid (Old w w1):=Old.by_ (Old.refl _) hgrow (fun b hb=>by cases hb)
 clear hown hgrow
 go_loopw [10,11,12,17] (fun x y z i W=>∃k:Nat,k≤N∧i=.int .i64 k∧Hid (OwnI W (w.heap.size) (w.heap.size) N (F k))∧Hid (Old w W)) (fun _ _ _ i _=>N - (intOf i).toNat)
 case atStart=>exact ⟨0,by omega,rfl,HO,HG⟩
 case round=>
  obtain ⟨k,hk,rfl,HO1,HG2⟩:=hrel
  clear HO HG
  have HG1:Hid (Old w wr):=HG2.out
  by_cases hlt:k<N
  ·have d1:decide ((k:Int)<(N:Int))=true:=by simp;omega
   have i1:(k:Int)<(N:Int):=by omega
   have c1:wr.cell? ⟨b1,o1+k,none⟩=some (.int .i64 ((xs.getD k 0:Nat):Int)):=(HG1.out.cell (p:=⟨b1,o1+k,none⟩) hb1).trans (HC1.out k hlt)
   have hx:=HA.out k
   have hkt:=kt_bd k t N hlt hN.2 ht
   have e1:(k:Int)*(t:Int)=((k*t:Nat):Int):=by simp
   have he:k*t%(2*N)<2*N:=Nat.mod_lt _ (by omega)
   have e2:((k*t:Nat):Int)%(2*(N:Int))=((k*t%(2*N):Nat):Int):=by simp
   have HLO1:=fun h=>HLO.out k _ rfl h
   have HHI1:=fun h=>HHI.out k _ rfl h
   have hlen:=HL.out k
   generalize xs.getD k 0=x at *
   generalize k*t=m at *
   generalize m%(2*N)=e at *
   by_cases hlo:e<N
   ·have d2:decide ((e:Int)<(N:Int))=true:=by simp;omega
    have i2:(e:Int)<(N:Int):=by omega
    have HS:Hid (F (k+1)=(F k).set e (x:Int)):=HLO1 hlo
    clear HLO1 HHI1
    have c3:=HO1.out.get hlen e hlo
    have c4:=HO1.out.free e
    generalize (F k).getD e 0=oldv at *
    have HP:Hid (OwnI (wr.setCell ⟨w.heap.size,e,none⟩ (.int .i64 (x:Int))) (w.heap.size) (w.heap.size) N (F (k+1))):=by
     show OwnI _ _ _ _ _
     rw [HS.out]
     exact HO1.out.put e _
    have HN2:Hid (Old w (wr.setCell ⟨w.heap.size,e,none⟩ (.int .i64 (x:Int)))):=HG2.out.own (by simp) _
    clear HS
    go_wp2_with fail
    exact ⟨⟨k+1,by omega,by go_num,HP,HN2⟩,by simp [intOf];omega⟩
   ·have d2:decide ((e:Int)<(N:Int))=false:=by simp;omega
    have i2:(e:Int) - (N:Int)<(N:Int):=by omega
    obtain ⟨f,hf⟩:∃f,f=e - N:=⟨_,rfl⟩
    have ef:(e:Int) - (N:Int)=(f:Int):=by omega
    have hfl:f<N:=by omega
    have i3:(f:Int)<(N:Int):=by omega
    have HS:Hid (F (k+1)=(F k).set f ((-(x:Int))%(P:Int))):=by rw [hf];exact HHI1 hlo
    clear HLO1 HHI1 hf
    have c3:=HO1.out.get hlen f hfl
    have c4:=HO1.out.free f
    have cr:=fun W=>spec_mod (-(x:Int)) (P:Int) W ⟨by omega,by omega⟩ ⟨by omega,by omega⟩
    have ew1:IntKind.i64.wrap (f:Int)=(f:Int):=by rw [IntKind.wrap_i64];omega
    have ew2:IntKind.i64.wrap (-(x:Int)) = -(x:Int):=by rw [IntKind.wrap_i64];omega
    have ew3:IntKind.i64.wrap ((e:Int) - (N:Int))=(f:Int):=by rw [IntKind.wrap_i64];omega
    generalize (F k).getD f 0=oldv at *
    generalize (-(x:Int))%(P:Int)=y at *
    have HP:Hid (OwnI (wr.setCell ⟨w.heap.size,f,none⟩ (.int .i64 y)) (w.heap.size) (w.heap.size) N (F (k+1))):=by
     show OwnI _ _ _ _ _
     rw [HS.out]
     exact HO1.out.put f _
    have HN2:Hid (Old w (wr.setCell ⟨w.heap.size,f,none⟩ (.int .i64 y))):=HG2.out.own (by simp) _
    clear HS
    go_wp2_with fail
    refine (cr _).mono ?_
    rintro en w5 ⟨rfl,rfl⟩
    go_wp2_with fail
    exact ⟨⟨k+1,by omega,by go_num,HP,HN2⟩,by simp [intOf];omega⟩
  ·have d1:decide ((k:Int)<(N:Int))=false:=by simp;omega
   obtain rfl:k=N:=by omega
   have HF:Hid (Own wr (w.heap.size) (.slice (some ⟨w.heap.size,0,none⟩) k k) (F k)):=HO1.out.own (HL.out k)
   go_wp2_with fail
   go_ret
   exact ⟨_,rfl,HG1.out,HF.out.low (by omega)⟩
end Go.Proofs.YtanijpekdnkicaaGreatDoor
