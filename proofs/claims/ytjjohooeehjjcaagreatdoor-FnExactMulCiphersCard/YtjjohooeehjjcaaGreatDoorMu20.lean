/- Proved: what its theorems say. -/
import Derived.Test.YtjjohooeehjjcaaGreatDoorMu19
import Derived.Test.YtjjohooeehjjcaaGreatDoorMu34
import Derived.Test.YtjjohooeehjjcaaGreatDoorLenW
set_option linter.unusedVariables false
set_option linter.unusedSimpArgs false
set_option maxHeartbeats 2000000
set_option maxRecDepth 100000
namespace Go.Proofs.YtjjohooeehjjcaaGreatDoor
open Go.ChangeShapes Go.WideShapes Go.ChangeAt Go.RowKit
open M2
structure Bas (ps:List Nat):Prop where
 len1:1<=ps.length
 len6:ps.length<=6
 lo:∀p∈ps,2<=p
 hi:∀p∈ps,p<=268435456
theorem Qoi {xs:List Int} (h:Qgc xs=true):∃ps:List Nat,xs=toZ ps/\Bas ps:=by
 simp only [Qgc,Bool.and_eq_true,decide_eq_true_eq] at h;obtain ⟨⟨h1,h2⟩,h3⟩:=h
 have h4:∀x∈xs,2<=x/\x<=268435456:=fun x hx=>by
  obtain ⟨j,hj,e⟩:=List.getElem_of_mem hx;have h5:=of_decide_eq_true h3 j hj (Nat.zero_le _);simp only [Qws,Bool.and_eq_true,pmB] at h5;have h6:=Qcm h5.1.1;have e2:xs.getD j 0=x:=by simp [List.getD,hj,e]
  rw [e2] at h6;exact h6
 refine ⟨xs.map Int.toNat,?_,by simpa using h1,by simpa using h2,fun p hp=>?_,fun p hp=>?_⟩
 ·rw [toZ,List.map_map];refine (List.map_id xs).symm.trans (List.map_congr_left fun x hx=>?_);have:=h4 x hx;simp;omega
 ·obtain ⟨x,hx,rfl⟩:=List.mem_map.1 hp;have:=h4 x hx;omega
 ·obtain ⟨x,hx,rfl⟩:=List.mem_map.1 hp;have:=h4 x hx;omega
theorem Qrs (w:World) (t:TypeId):Row (w.alloc (.cells #[.int .i64 1] t)) (.slice (some ⟨w.heap.size,0,none⟩) 1 1) (toI (dig 1)):=by
 have e:dig 1=[1]:=by decide +kernel
 rw [e]
 exact Or.inr ⟨w.heap.size,0,1,rfl,by simp,by simp [toI],fun j hj=>by
  have:j=0:=by simp [toI] at hj;omega
  subst this;rw [Qaj _ _ _ _ _ (by simp)];rfl⟩
theorem Qec (ps:List Nat) (v:Value) (w:World) (hv:Row w v (toZ ps)) (hl:ps.length≤6) (hb:∀p∈ps,p≤268435456) :
  Calls Tryz.prog 40 #[v] w fun e w'=>∃v',e=.returned v'/\Old w w'/\Row w' v' (toI (dig (Qae ps))):=by
 have HC:Hid (∀k,k<=ps.length->cnt (Qae (ps.take k))<=7):=fun k h=>Nat.le_trans (Qfo ps hb k h) (by omega)
 have HB:=Qaa hb;have HV:=Qaa hv;obtain ⟨va,vc,rfl⟩:∃a c,v=.slice a ps.length c:=by have:=hv.slice;rwa [Qa7] at this
 clear hb hv;go_enter Tryz.func40,Tryz.ntmps40;go_wp2_with fail
 go_loopw [3,9] (fun x i W=>∃(k:Nat) (a:Option Addr) (n c:Nat),k<=ps.length/\i=.int .i64 k/\x=.slice a n c/\Hid (Row W (.slice a n c) (toI (dig (Qae (ps.take k)))))/\Hid (Old w W)) (fun _ i _=>ps.length - (intOf i).toNat)
 case atStart=>exact ⟨0,_,_,_,by omega,rfl,rfl,Qrs w _,(Old.refl w).alloc _⟩
 case round=>
  obtain ⟨k,a,n,c,hk,rfl,rfl,HR,HG⟩:=hrel
  by_cases hlt:k<ps.length
  ·obtain ⟨b,o,rfl,hb,hc⟩:∃b o,va=some ⟨b,o,none⟩∧b<w.heap.size∧∀j,j<ps.length→w.cell? ⟨b,o+j,none⟩=some (.int .i64 ((ps.getD j 0:Nat):Int)):=by
    rcases HV.out with ⟨a',cap',e,e2⟩ | ⟨b,o,cap',e,hb,h0,hc⟩
    ·have:=congrArg List.length e2;rw [Qa7] at this;simp only [List.length_nil] at this;omega
    ·simp only [Value.slice.injEq] at e;rw [Qa7] at hc;exact ⟨b,o,e.1,hb,fun j hj=>by rw [hc j hj,Qf0]⟩
   have c1:=(HG.out.cell (p:=⟨b,o+k,none⟩) hb).trans (hc k hlt);have hpb:ps.getD k 0<=268435456:=HB.out _ (by simp [List.getD,hlt]);have HE:=Qaa (Qeq ps k hlt);have HC1:Hid ((dig (Qae (ps.take k))).length<=1048576):=Nat.le_trans (HC.out k hk) (by omega);have HC2:Hid ((dig (ps.getD k 0)).length<=1048576):=Nat.le_trans (Qcr (by omega)) (by omega);have HF:Hid (∀W u,Row W u (toI (dig (Qae (ps.take k)*ps.getD k 0)))->Row W u (toI (dig (Qae (ps.take (k+1)))))):=fun W u h=>by rw [HE.out];exact h
   clear hc HE;generalize Qae (ps.take k)=q at *;generalize ps.getD k 0=p at *;go_wp2_with fail;refine (Qkw p _ (by omega)).mono ?_
   rintro e w2 ⟨v2,rfl,g2,o2⟩;have HG2:=Qaa (Old.trans HG.out g2);have HR2:=Qaa (HR.out.old g2);have HP2:=Qaa (Own.row o2);obtain ⟨a2,cap2,rfl⟩:=(Own.row o2).slice;clear g2 o2;go_wp2_with fail;refine (Qfw (dig q) (dig p) _ _ _ HR2.out HP2.out (Qar q) (Qar p) HC1.out HC2.out).mono ?_
   rw [Qah,Qah];rintro e w3 ⟨v3,rfl,g3,o3⟩;have HG3:=Qaa (Old.trans HG2.out g3);have HP3:=Qaa (Own.row o3);obtain ⟨a3,cap3,rfl⟩:=(Own.row o3).slice;clear g3 o3;go_wp2_with fail;exact ⟨⟨k+1,_,_,_,by omega,by go_num,rfl,HF.out _ _ HP3.out,HG3⟩,by simp [intOf];omega⟩
  ·have d1:decide ((k:Int)<(ps.length:Int))=false:=by simp;omega
   obtain rfl:k=ps.length:=by omega
   have HF:Hid (Row wr (.slice a n c) (toI (dig (Qae ps)))):=by
    have:=HR.out;rw [List.take_length] at this;exact this
   clear HR;go_wp2_with fail;go_ret;exact ⟨_,rfl,HG.out,HF.out⟩
theorem Qy4:(Tryz.prog.info? 60).map (·.size)=some 2:=by kernel_rfl
theorem Qrt (w:World) (base:Nat):Own w base (.slice none 0 0) (toI []):=⟨rfl,Or.inl ⟨rfl,rfl⟩⟩
theorem Qhi (ps:List Nat) (h:∀p∈ps,2<=p):∀k,k<=ps.length->0<Qae (ps.take k)
 | 0,_=>by simp [Qae]
 | k+1,hk=>by
   rw [Qeq ps k (by omega)];have h1:=Qhi ps h k (by omega);have h2:2<=ps.getD k 0:=h _ (by simp [List.getD,show k<ps.length by omega]);exact Nat.mul_pos h1 (by omega)
theorem Bas.pos {ps:List Nat} (h:Bas ps):Qae ps≠0:=by
 have:=Qhi ps h.lo ps.length (Nat.le_refl _);rw [List.take_length] at this;omega
theorem Bas.cnt {ps:List Nat} (h:Bas ps):M2.cnt (Qae ps)<=7:=by
 have:=Qfo ps h.hi ps.length (Nat.le_refl _);rw [List.take_length] at this;have:=h.len6;omega
theorem Qif (x:Nat) (w:World) (h1:x<268435456) :
  Calls Tryz.prog 143 #[.int .u64 (x:Int)] w fun e w'=>e=.returned (.int .i64 (Lib.bitLen x))/\w'=w:=by
 have c:=Qgn (x:Int) w (by omega) (by omega);rw [Int.toNat_natCast] at c;have HC:Hid (Calls Tryz.prog 151 #[.int .u64 (x:Int)] w fun e w'=>e=.returned (.int .i64 (Lib.bitLen x))/\w'=w):=c;clear c;go_enter Tryz.func143,Tryz.ntmps143;go_wp2_with (go_at_call 151;refine HC.out.mono ?_;rintro e w' ⟨rfl,rfl⟩);go_ret;exact ⟨rfl,rfl⟩
end Go.Proofs.YtjjohooeehjjcaaGreatDoor
