/- Proved: what its theorems say. -/
import Derived.Test.YthcidnnkakppcaaGreatDoorDe18
import Derived.Test.YthcidnnkakppcaaGreatDoorDe32
set_option linter.unusedVariables false
set_option linter.unusedSimpArgs false
set_option maxHeartbeats 8000000
namespace Go.Proofs.YthcidnnkakppcaaGreatDoor
open Go.ChangeShapes Go.WideShapes Go.ChangeAt Go.RowKit
open M2
theorem Qar (W:World) (p:Addr) (v:Value) (q:Addr) (h:q.block≠p.block):(W.setCell p v).cell? q=W.cell? q:=World.cell?_of_block (heap_setCell_other W p q.block v h)
theorem Qkz (neg:Bool) (n:Nat) (z:Int) (h1:z.natAbs=n) (h2:n≠0->(neg=true↔z<0)):Qfv neg n=told z:=by
 have e1:dg z=dig n:=by unfold dg;rw [h1]
 have e2:(neg&&decide (n≠0))=ng z:=by
  by_cases h0:n=0
  ·have:z=0:=by omega
   subst this;simp [h0,ng]
  ·have:=h2 h0;unfold ng
   by_cases hz:z<0
   ·simp [h0,hz,this.2 hz]
   ·have hn:neg=false:=by
     cases hneg:neg with
     | false=>rfl
     | true=>exact absurd (this.1 hneg) hz
    simp [hn,hz]
 unfold Qfv told;rw [e1,e2];rfl
theorem Qw6 (n m:Bool) (xs ys:List Nat):Qfv (n != m) (val xs*val ys)=told (sv n xs*sv m ys):=by
 refine Qkz _ _ _ ?_ (fun h0=>?_)
 ·rw [Int.natAbs_mul,Qpu,Qpu]
 ·have hp:0<((val xs*val ys:Nat):Int):=by omega
  rw [Int.natCast_mul] at hp
  cases n <;> cases m <;> simp [sv,Int.neg_mul,Int.mul_neg] <;> omega
theorem Qw7 (n m:Bool) (xs ys:List Int) (v u:Value) (w:World) (hv:Row w v xs) (hu:Row w u ys) (la:xs.length≤1048576) (lb:ys.length≤1048576) :
  Calls Tryz.prog 75 #[.agg #[.bool n,v],.agg #[.bool m,u]] w fun e w'=>∃v',e=.returned (.tuple #[.agg #[.bool (Qvn n m xs ys).1,v'],.bool (Qvn n m xs ys).2.2])/\Old w w'/\Own w' w.heap.size v' (toI (Qvn n m xs ys).2.1):=by
 have HV:Hid (Row w v xs):=hv;have HU:Hid (Row w u ys):=hu;obtain ⟨c0,cap0,rfl⟩:=hv.slice;obtain ⟨c1,cap1,rfl⟩:=hu.slice;clear hv hu;have HA:Hid (Old w (((w.alloc (.cells #[.bool n,.slice c0 xs.length cap0] 65)).alloc (.cells #[.bool m,.slice c1 ys.length cap1] 65)).alloc (.cells #[.bool false,.slice none 0 0] 65))):=(((Old.refl w).alloc _).alloc _).alloc _;have SA0:Hid (StW (((w.alloc (.cells #[.bool n,.slice c0 xs.length cap0] 65)).alloc (.cells #[.bool m,.slice c1 ys.length cap1] 65)).alloc (.cells #[.bool false,.slice none 0 0] 65)) w.heap.size (.bool n) (.slice c0 xs.length cap0) 65):=(StW.at1 w _ _ _ _ _ _).old ((Old.refl _).alloc _);have SB0:Hid (StW (((w.alloc (.cells #[.bool n,.slice c0 xs.length cap0] 65)).alloc (.cells #[.bool m,.slice c1 ys.length cap1] 65)).alloc (.cells #[.bool false,.slice none 0 0] 65)) (w.heap.size+1) (.bool m) (.slice c1 ys.length cap1) 65):=(StW.at2 w _ _ _ _ _ _).old ((Old.refl _).alloc _)
 have ST0:Hid (StW (((w.alloc (.cells #[.bool n,.slice c0 xs.length cap0] 65)).alloc (.cells #[.bool m,.slice c1 ys.length cap1] 65)).alloc (.cells #[.bool false,.slice none 0 0] 65)) (w.heap.size+1+1) (.bool false) (.slice none 0 0) 65):=by
  have:=StW.new ((w.alloc (.cells #[.bool n,.slice c0 xs.length cap0] 65)).alloc (.cells #[.bool m,.slice c1 ys.length cap1] 65)) (.bool false) (.slice none 0 0) 65;rw [show ((w.alloc (.cells #[.bool n,.slice c0 xs.length cap0] 65)).alloc (.cells #[.bool m,.slice c1 ys.length cap1] 65)).heap.size=w.heap.size+1+1 by simp] at this;exact this
 by_cases hga:Good n xs
 ·have cga:=fun W (h:Row W (.slice c0 xs.length cap0) xs)=>Qa8 n xs _ W h la
  rw [decide_eq_true hga] at cga
  by_cases hgb:Good m ys
  ·have cgb:=fun W (h:Row W (.slice c1 ys.length cap1) ys)=>Qa8 m ys _ W h lb
   rw [decide_eq_true hgb] at cgb;have hR2:Qvn n m xs ys=told (sv n (nat xs)*sv m (nat ys)):=by unfold Qvn;rw [if_pos ⟨hga,hgb⟩]
   rw [hR2];obtain ⟨ex,gx,lx⟩:=Qd3 hga;obtain ⟨ey,gy,ly⟩:=Qd3 hgb;have HV2:Hid (Row w (.slice c0 xs.length cap0) (toI (nat xs))):=by rw [ex];exact HV.out
   have HU2:Hid (Row w (.slice c1 ys.length cap1) (toI (nat ys))):=by rw [ey];exact HU.out
   have HGX:Hid (Gw n (nat xs)/\(nat xs).length<=40):=⟨gx,lx⟩;have HGY:Hid (Gw m (nat ys)/\(nat ys).length<=40):=⟨gy,ly⟩;have exl:xs.length=(nat xs).length:=(Qcu xs).symm;have eyl:ys.length=(nat ys).length:=(Qcu ys).symm;have HXL:Hid (xs.length=(nat xs).length):=exl;have HYL:Hid (ys.length=(nat ys).length):=eyl;clear hga hgb ex ey gx gy lx ly hR2 exl eyl;have HE:Hid (Qfv (n != m) (val (nat xs)*val (nat ys))=told (sv n (nat xs)*sv m (nat ys))):=Qw6 n m (nat xs) (nat ys)
   have HCX:Hid (cnt (val (nat xs))+cnt (val (nat ys))<=80):=by
    show cnt (val (nat xs))+cnt (val (nat ys))<=80
    rw [Qc2 HGX.out.1.1,Qc2 HGY.out.1.1];have h1:=HGX.out.2;have h2:=HGY.out.2;omega
   generalize told (sv n (nat xs)*sv m (nat ys))=R at *;go_enter Tryz.func75,Tryz.ntmps75;go_wp2_with fail;refine (cga _ (HV.out.old HA.out)).mono ?_
   rintro e w1 ⟨rfl,g1⟩;have SA1:Hid (StW w1 w.heap.size (.bool n) (.slice c0 xs.length cap0) 65):=SA0.out.old g1;have SB1:Hid (StW w1 (w.heap.size+1) (.bool m) (.slice c1 ys.length cap1) 65):=SB0.out.old g1;have ST1:Hid (StW w1 (w.heap.size+1+1) (.bool false) (.slice none 0 0) 65):=ST0.out.old g1;have HG1:Hid (Old w w1):=Old.trans HA.out g1;have b0:=SB1.out.c0;have b1:=SB1.out.c1;clear g1 HA;go_wp2_with fail;refine (cgb _ (HU.out.old HG1.out)).mono ?_
   rintro e w2 ⟨rfl,g2⟩;clear b0 b1;have SA2:Hid (StW w2 w.heap.size (.bool n) (.slice c0 xs.length cap0) 65):=SA1.out.old g2;have SB2:Hid (StW w2 (w.heap.size+1) (.bool m) (.slice c1 ys.length cap1) 65):=SB1.out.old g2;have ST2:Hid (StW w2 (w.heap.size+1+1) (.bool false) (.slice none 0 0) 65):=ST1.out.old g2;have HG2:Hid (Old w w2):=Old.trans HG1.out g2;clear g2 SA1 SB1 ST1 HG1 cga cgb;have a0:=SA2.out.c0;have a1:=SA2.out.c1;have b0:=SB2.out.c0;have b1:=SB2.out.c1;have HAS:Hid (∀W',Old w2 W'->(W'.cell? ⟨w.heap.size,0,none⟩=some (.bool n)/\W'.cell? ⟨w.heap.size,1,none⟩=some (.slice c0 xs.length cap0)/\W'.cell? ⟨w.heap.size+1,0,none⟩=some (.bool m)/\W'.cell? ⟨w.heap.size+1,1,none⟩=some (.slice c1 ys.length cap1))):=fun W' g=>⟨(SA2.out.old g).c0,(SA2.out.old g).c1,(SB2.out.old g).c0,(SB2.out.old g).c1⟩
   have HKS:Hid (∀(W':World) (v0 v1:Value),(W'.cell? ⟨w.heap.size,0,none⟩=some (.bool n)/\W'.cell? ⟨w.heap.size,1,none⟩=some (.slice c0 xs.length cap0)/\W'.cell? ⟨w.heap.size+1,0,none⟩=some (.bool m)/\W'.cell? ⟨w.heap.size+1,1,none⟩=some (.slice c1 ys.length cap1))->((fun W':World=>W'.cell? ⟨w.heap.size,0,none⟩=some (.bool n)/\W'.cell? ⟨w.heap.size,1,none⟩=some (.slice c0 xs.length cap0)/\W'.cell? ⟨w.heap.size+1,0,none⟩=some (.bool m)/\W'.cell? ⟨w.heap.size+1,1,none⟩=some (.slice c1 ys.length cap1)) ((W'.setCell ⟨w.heap.size+1+1,0,none⟩ v0).setCell ⟨w.heap.size+1+1,1,none⟩ v1))):=fun W' v0 v1 h=>by
    exact ⟨(Qar _ _ _ _ (by first | (simp;done) | (simp;omega))).trans ((Qar _ _ _ _ (by first | (simp;done) | (simp;omega))).trans h.1),(Qar _ _ _ _ (by first | (simp;done) | (simp;omega))).trans ((Qar _ _ _ _ (by first | (simp;done) | (simp;omega))).trans h.2.1),(Qar _ _ _ _ (by first | (simp;done) | (simp;omega))).trans ((Qar _ _ _ _ (by first | (simp;done) | (simp;omega))).trans h.2.2.1),(Qar _ _ _ _ (by first | (simp;done) | (simp;omega))).trans ((Qar _ _ _ _ (by first | (simp;done) | (simp;omega))).trans h.2.2.2)⟩
   have tok:True:=trivial;go_wp2_with fail
   go_region_held3 (fun W'=>W'.cell? ⟨w.heap.size,0,none⟩=some (.bool n)/\W'.cell? ⟨w.heap.size,1,none⟩=some (.slice c0 xs.length cap0)/\W'.cell? ⟨w.heap.size+1,0,none⟩=some (.bool m)/\W'.cell? ⟨w.heap.size+1,1,none⟩=some (.slice c1 ys.length cap1)) (first | exact HKS.out _ _ _ (HAS.out _ G6.out) | exact HAS.out _ G6.out | exact HAS.out _ G5.out | exact HAS.out _ G4.out | exact HAS.out _ G3.out | exact HAS.out _ (Below.drew (Old.refl w2)) | exact HAS.out _ (Old.refl w2)) (first
    | (go_at_call 74;have _t:=tok;refine (Qb7 n (nat xs) _ _ (HV2.out.old (HG2.out.drewN 1)) HGX.out.1.1 (by have:=HGX.out.2;omega)).mono ?_;rintro e w3 ⟨rfl,g3⟩;have G3:Hid (Old w2 w3):=Old.trans ((Old.refl _).drewN 1) g3;clear tok g3)
    | (go_at_call 74;refine (Qb7 m (nat ys) _ _ (HU2.out.old (Old.trans HG2.out G3.out)) HGY.out.1.1 (by have:=HGY.out.2;omega)).mono ?_;rintro e w4 ⟨rfl,g4⟩;have G4:Hid (Old w2 w4):=Old.trans G3.out g4;clear g4)
    | (go_at_call 107;refine (Q2r (val (nat xs)) (val (nat ys)) _ HCX.out).mono ?_;rintro e w5 ⟨rfl,g5⟩;have G5:Hid (Old w2 w5):=Old.trans G4.out g5;clear g5)
    | (go_at_call 106;refine (Qev (n != m) (val (nat xs)*val (nat ys)) _ (Nat.le_trans (Qtx _ _) HCX.out)).mono ?_;rw [HE.out];rintro e w6 ⟨v6,rfl,g6,o6⟩;obtain ⟨a6,cap6,rfl⟩:=(Own.row o6).sliceN;have G6:Hid (Old w2 w6):=Old.trans G5.out g6;have S6:Hid (StW w6 (w.heap.size+1+1) (.bool false) (.slice none 0 0) 65):=ST2.out.old G6.out;have HO6:Hid (Own w6 (w.heap.size+1+1+1) (.slice a6 R.2.1.length cap6) (toI R.2.1)):=Own.low o6 (by have:=(ST2.out.old G5.out).lt;omega);have s0:=S6.out.c0;have s1:=S6.out.c1;have f0:=S6.out.f0;have f1:=S6.out.f1;clear g6 o6))
   all_goals
    go_wp2_with fail;refine bodyPost_ret (v:=.tuple #[.agg #[.bool R.1,.slice a6 R.2.1.length cap6],.bool R.2.2]) (by simp [results,Tryz.results75,go_sem,s0,s1]) rfl ⟨_,rfl,?_,?_⟩
    ·exact ((Old.trans HG2.out G6.out).own (p:=⟨w.heap.size+1+1,0,none⟩) (by simp;omega) _).own (p:=⟨w.heap.size+1+1,1,none⟩) (by simp;omega) _
    ·refine Own.low (base:=w.heap.size+1+1+1) (ownsRow_setCell_other (ownsRow_setCell_other HO6.out (fun e=>?_) _) (fun e=>?_) _) (by omega)
     ·have:=(HO6.out.lt (w.heap.size+1+1) e).1;omega
     ·have:=(HO6.out.lt (w.heap.size+1+1) e).1;omega
  ·have hR2:Qvn n m xs ys=nought:=by unfold Qvn;rw [if_neg (fun h=>hgb h.2)]
   rw [hR2];unfold nought;have cgb:=fun W (h:Row W (.slice c1 ys.length cap1) ys)=>Qa8 m ys _ W h lb
   rw [decide_eq_false hgb] at cgb;clear hga hgb hR2;go_enter Tryz.func75,Tryz.ntmps75;go_wp2_with fail;refine (cga _ (HV.out.old (HA.out))).mono ?_
   rintro e w1 ⟨rfl,g1⟩;have SB1:Hid (StW w1 (w.heap.size+1) (.bool m) (.slice c1 ys.length cap1) 65):=SB0.out.old g1;have HG1:Hid (Old w w1):=Old.trans HA.out g1;have b0:=SB1.out.c0;have b1:=SB1.out.c1;have ST1:Hid (StW w1 (w.heap.size+1+1) (.bool false) (.slice none 0 0) 65):=ST0.out.old g1
   skip
   clear g1 HA;go_wp2_with fail;refine (cgb _ (HU.out.old HG1.out)).mono ?_
   rintro e w2 ⟨rfl,g2⟩;have HG2:Hid (Old w w2):=Old.trans HG1.out g2;have ST2:Hid (StW w2 (w.heap.size+1+1) (.bool false) (.slice none 0 0) 65):=ST1.out.old g2;have t0:=ST2.out.c0;have t1:=ST2.out.c1;have tf0:=ST2.out.f0;have tf1:=ST2.out.f1;clear g2;go_wp2_with fail;refine bodyPost_ret (v:=.tuple #[.agg #[.bool false,.slice none 0 0],.bool false]) (by simp [results,Tryz.results75,go_sem,t0,t1]) rfl ⟨_,rfl,?_,rfl,Or.inl ⟨rfl,rfl⟩⟩;exact (HG2.out.own (p:=⟨w.heap.size+1+1,0,none⟩) (by simp;omega) _).own (p:=⟨w.heap.size+1+1,1,none⟩) (by simp;omega) _
 ·have hR2:Qvn n m xs ys=nought:=by unfold Qvn;rw [if_neg (fun h=>hga h.1)]
  rw [hR2];unfold nought;have cga:=fun W (h:Row W (.slice c0 xs.length cap0) xs)=>Qa8 n xs _ W h la
  rw [decide_eq_false hga] at cga;clear hga hR2;go_enter Tryz.func75,Tryz.ntmps75;go_wp2_with fail;refine (cga _ (HV.out.old HA.out)).mono ?_
  rintro e w1 ⟨rfl,g1⟩;have HG1:Hid (Old w w1):=Old.trans HA.out g1;have ST1:Hid (StW w1 (w.heap.size+1+1) (.bool false) (.slice none 0 0) 65):=ST0.out.old g1;have t0:=ST1.out.c0;have t1:=ST1.out.c1;have tf0:=ST1.out.f0;have tf1:=ST1.out.f1;clear g1;go_wp2_with fail;refine bodyPost_ret (v:=.tuple #[.agg #[.bool false,.slice none 0 0],.bool false]) (by simp [results,Tryz.results75,go_sem,t0,t1]) rfl ⟨_,rfl,?_,rfl,Or.inl ⟨rfl,rfl⟩⟩;exact (HG1.out.own (p:=⟨w.heap.size+1+1,0,none⟩) (by simp;omega) _).own (p:=⟨w.heap.size+1+1,1,none⟩) (by simp;omega) _
def Qm1 (p:Int):Bool:=decide (2<=p/\p<=268435456)
theorem Qm2 {p:Int} (h:Qm1 p=true):2<=p/\p<=268435456:=by simpa [Qm1] using h
theorem Qw8 {p:Int} (h:Qm1 p=false):p<2∨(2<=p/\268435456<p):=by simp [Qm1] at h;omega
theorem Qen (p:Int) (w:World) :
  Calls Tryz.prog 72 #[.int .i64 p] w fun e w'=>e=.returned (.bool (Qm1 p))/\w'=w:=by
 cases h:Qm1 p
 ·rcases Qw8 h with h1 | ⟨h1,h2⟩
  all_goals
   clear h
   try (have d:decide (p<=268435456)=false:=by simp;omega)
   go_enter Tryz.func72,Tryz.ntmps72
   go_wp2
   go_ret;exact ⟨rfl,rfl⟩
 ·obtain ⟨h1,h2⟩:=Qm2 h;clear h;go_enter Tryz.func72,Tryz.ntmps72
  go_wp2
  go_ret;exact ⟨rfl,rfl⟩
theorem Qur (a p:Int) (h0:a<0) (hp:1<=p) : -p<a.tmod p/\a.tmod p<=0/\(a.tmod p<0->a.tmod p+p=a%p)/\(0<=a.tmod p->a.tmod p=a%p):=by
 have e:Int.tmod a p = - ((-a)%p):=by
  rw [<- Int.tmod_eq_emod_of_nonneg (by omega),Int.neg_tmod,Int.neg_neg]
 have r0:=Int.emod_nonneg (-a) (show p≠0 by omega);have r1:=Int.emod_lt_of_pos (-a) (b:=p) (by omega)
 have k:(-a)%p=if p ∣ a then 0 else p - a%p:=by
  rw [Int.neg_emod];have:(p.natAbs:Int)=p:=by omega
  rw [this]
 by_cases hd:p ∣ a
 ·rw [if_pos hd] at k;omega
 ·rw [if_neg hd] at k;have s1:=Int.emod_lt_of_pos a (b:=p) (by omega);omega
theorem Qid (a p:Int) (w:World) (ha : -9223372036854775808≤a∧a≤9223372036854775807) (hp:1≤p∧p≤4294967296) :
  Calls Tryz.prog 70 #[.int .i64 a,.int .i64 p] w fun e w'=>e=.returned (.int .i64 (a%p))/\w'=w:=by
 obtain ⟨h1,h2⟩:=hp;obtain ⟨h3,h4⟩:=ha
 by_cases h0:0<=a
 ·have r0:=Int.emod_nonneg a (show p≠0 by omega);go_enter Tryz.func70,Tryz.ntmps70
  go_wp2
  go_ret;exact ⟨rfl,rfl⟩
 ·obtain ⟨t1,t2,t3,t4⟩:=Qur a p (by omega) h1;have T3:=Qaa t3;have T4:=Qaa t4;clear t3 t4
  by_cases hs:a.tmod p<0
  ·go_enter Tryz.func70,Tryz.ntmps70
   go_wp2
   go_ret;exact ⟨by rw [<- T3.out hs];rfl,rfl⟩
  ·go_enter Tryz.func70,Tryz.ntmps70
   go_wp2
   go_ret;exact ⟨by rw [<- T4.out (by omega)];rfl,rfl⟩
theorem Qw9 (a d:Nat) (hd:0<d):(-((a%d:Nat):Int))%(d:Int)=(-(a:Int))%(d:Int):=by
 have h:(-(a:Int)) = -((a%d:Nat):Int)+(d:Int)*(-((a/d:Nat):Int)):=by
  have h1:=Nat.div_add_mod a d;rw [Int.mul_neg];omega
 rw [h,Int.add_mul_emod_self_left]
theorem Qxa (n:Bool) (xs:List Int) (k:Int) (v:Value) (w:World) (hv:Row w v xs) (la:xs.length≤1048576) :
  Calls Tryz.prog 37 #[.agg #[.bool n,v],.int .i64 k] w fun e w'=>e=.returned (.int .i64 (Qyq n xs k))/\Old w w':=by
 have HV:=Qaa hv;obtain ⟨a0,cap0,rfl⟩:=hv.slice;clear hv;have HA:Hid (Old w (w.alloc (.cells #[.bool n,.slice a0 xs.length cap0] 65))):=(Old.refl w).alloc _;have SA0:Hid (StW (w.alloc (.cells #[.bool n,.slice a0 xs.length cap0] 65)) w.heap.size (.bool n) (.slice a0 xs.length cap0) 65):=StW.new w _ _ _
 by_cases hga:Good n xs
 ·have cga:=fun W (h:Row W (.slice a0 xs.length cap0) xs)=>Qa8 n xs _ W h la
  rw [decide_eq_true hga] at cga
  cases hm:Qm1 k with
  | true=>
    obtain ⟨hk1,hk2⟩:=Qm2 hm;have cm:=fun W=>Qen k W
    rw [hm] at cm;obtain ⟨d,rfl⟩:∃d:Nat,k=(d:Int):=⟨k.toNat,by omega⟩
    have hR:Qyq n xs (d:Int)=sv n (nat xs)%(d:Int):=by unfold Qyq;rw [if_pos ⟨hga,hk1,hk2⟩]
    rw [hR];obtain ⟨ex,gx,lx⟩:=Qd3 hga;have HV2:Hid (Row w (.slice a0 xs.length cap0) (toI (nat xs))):=by rw [ex];exact HV.out
    have HGX:Hid (Gw n (nat xs)/\(nat xs).length<=40):=⟨gx,lx⟩;have HC:Hid (cnt (val (nat xs))<=80):=by show cnt (val (nat xs))<=80;rw [Qc2 gx.1];omega
    have HPQ:Hid ((pad (val (nat xs)/d)).length=80):=Qab (Nat.le_trans (cnt_mono (Nat.div_le_self _ _)) HC.out) (by omega);have hd0:0<d:=by omega
    clear hga ex gx lx hR hm hk1;have hrl:val (nat xs)%d<d:=Nat.mod_lt _ hd0
    cases n with
    | true=>
      have HE:Hid ((-((val (nat xs)%d:Nat):Int))%(d:Int)=sv true (nat xs)%(d:Int)):=Qw9 _ d hd0;go_enter Tryz.func37,Tryz.ntmps37;go_wp2_with fail;refine (cga _ (HV.out.old HA.out)).mono ?_
      rintro e w1 ⟨rfl,g1⟩;have HG1:=Qaa (Old.trans HA.out g1);have S1:=Qaa (SA0.out.old g1);have s0:=S1.out.c0;have s1:=S1.out.c1;clear g1;go_wp2_with (go_at_call 72;refine (cm _).mono ?_;rintro e w' ⟨rfl,rfl⟩);refine (Qb7 true (nat xs) _ _ (HV2.out.old HG1.out) HGX.out.1.1 (by have:=HGX.out.2;omega)).mono ?_
      rintro e w2 ⟨rfl,g2⟩;have S2:=Qaa (S1.out.old g2);have HG2:=Qaa (Old.trans HG1.out g2);clear g2 s0 s1 S1 HG1;go_wp2_with fail;refine (Qkf (val (nat xs)) d _ HC.out hd0 (by omega)).mono ?_
      rintro e w3 ⟨rfl,g3⟩;have S3:=Qaa (S2.out.old g3);have HG3:=Qaa (Old.trans HG2.out g3);clear g3 S2 HG2;have HZ4:=Qaa (Sz.zero w3 _ rfl);have HB4:=Qaa S3.out.lt
      have S5:Hid (StW ((w3.alloc (.cells Tryz.zeroCells103 103)).setRow w3.heap.size (szA (pad (val (nat xs)/d)) (cnt (val (nat xs)/d)))) w.heap.size (.bool true) (.slice a0 xs.length cap0) 65):=by
       have h1:=S3.out.old ((Old.refl w3).alloc (.cells Tryz.zeroCells103 103))
       show ((w3.alloc (.cells Tryz.zeroCells103 103)).setRow w3.heap.size (szA (pad (val (nat xs)/d)) (cnt (val (nat xs)/d)))).heap[w.heap.size]? = _
       rw [setRow_other _ _ _ _ (by have:=HB4.out;omega)];exact h1
      have HG5:Hid (Old w ((w3.alloc (.cells Tryz.zeroCells103 103)).setRow w3.heap.size (szA (pad (val (nat xs)/d)) (cnt (val (nat xs)/d))))):=(HG3.out.alloc _).row (by have:=HB4.out;omega) _;have s0:=S5.out.c0;generalize val (nat xs)%d=r at *;have cr:=fun W=>Qid (-(r:Int)) (d:Int) W (by omega) (by omega)
      go_wp2_with (first | ((with_reducible refine Qap HZ4.out (pad (val (nat xs)/d)) (cnt (val (nat xs)/d)) HPQ.out ?_ ?_ ?_);exact rfl;exact rfl;simp only [Act.put]) | (go_at_call 70;refine (cr _).mono ?_;rintro e w' ⟨rfl,rfl⟩));go_ret;exact ⟨congrArg (fun z=>Ending.returned (.int .i64 z)) HE.out,HG5.out⟩
    | false=>
      have HE:Hid (((val (nat xs)%d:Nat):Int)=sv false (nat xs)%(d:Int)):=by
       show ((val (nat xs)%d:Nat):Int)=sv false (nat xs)%(d:Int)
       simp [sv]
      go_enter Tryz.func37,Tryz.ntmps37;go_wp2_with fail;refine (cga _ (HV.out.old HA.out)).mono ?_
      rintro e w1 ⟨rfl,g1⟩;have HG1:=Qaa (Old.trans HA.out g1);have S1:=Qaa (SA0.out.old g1);have s0:=S1.out.c0;have s1:=S1.out.c1;clear g1;go_wp2_with (go_at_call 72;refine (cm _).mono ?_;rintro e w' ⟨rfl,rfl⟩);refine (Qb7 false (nat xs) _ _ (HV2.out.old HG1.out) HGX.out.1.1 (by have:=HGX.out.2;omega)).mono ?_
      rintro e w2 ⟨rfl,g2⟩;have S2:=Qaa (S1.out.old g2);have HG2:=Qaa (Old.trans HG1.out g2);clear g2 s0 s1 S1 HG1;go_wp2_with fail;refine (Qkf (val (nat xs)) d _ HC.out hd0 (by omega)).mono ?_
      rintro e w3 ⟨rfl,g3⟩;have S3:=Qaa (S2.out.old g3);have HG3:=Qaa (Old.trans HG2.out g3);clear g3 S2 HG2;have HZ4:=Qaa (Sz.zero w3 _ rfl);have HB4:=Qaa S3.out.lt
      have S5:Hid (StW ((w3.alloc (.cells Tryz.zeroCells103 103)).setRow w3.heap.size (szA (pad (val (nat xs)/d)) (cnt (val (nat xs)/d)))) w.heap.size (.bool false) (.slice a0 xs.length cap0) 65):=by
       have h1:=S3.out.old ((Old.refl w3).alloc (.cells Tryz.zeroCells103 103))
       show ((w3.alloc (.cells Tryz.zeroCells103 103)).setRow w3.heap.size (szA (pad (val (nat xs)/d)) (cnt (val (nat xs)/d)))).heap[w.heap.size]? = _
       rw [setRow_other _ _ _ _ (by have:=HB4.out;omega)];exact h1
      have HG5:Hid (Old w ((w3.alloc (.cells Tryz.zeroCells103 103)).setRow w3.heap.size (szA (pad (val (nat xs)/d)) (cnt (val (nat xs)/d))))):=(HG3.out.alloc _).row (by have:=HB4.out;omega) _;have s0:=S5.out.c0;go_wp2_with ((with_reducible refine Qap HZ4.out (pad (val (nat xs)/d)) (cnt (val (nat xs)/d)) HPQ.out ?_ ?_ ?_);exact rfl;exact rfl;simp only [Act.put]);go_ret;exact ⟨congrArg (fun z=>Ending.returned (.int .i64 z)) HE.out,HG5.out⟩
  | false=>
    have cm:=fun W=>Qen k W
    rw [hm] at cm
    have hR:Qyq n xs k=0:=by
     unfold Qyq;rw [if_neg (fun h=>by have h2:Qm1 k=true:=decide_eq_true h.2;rw [hm] at h2;cases h2)]
    rw [hR];clear hga hR hm;go_enter Tryz.func37,Tryz.ntmps37;go_wp2_with fail;refine (cga _ (HV.out.old HA.out)).mono ?_
    rintro e w1 ⟨rfl,g1⟩;have HG1:=Qaa (Old.trans HA.out g1);clear g1;go_wp2_with (go_at_call 72;refine (cm _).mono ?_;rintro e w' ⟨rfl,rfl⟩);go_ret;exact ⟨rfl,HG1.out⟩
 ·have cga:=fun W (h:Row W (.slice a0 xs.length cap0) xs)=>Qa8 n xs _ W h la
  rw [decide_eq_false hga] at cga;have hR:Qyq n xs k=0:=by unfold Qyq;rw [if_neg (fun h=>hga h.1)]
  rw [hR];clear hga hR;go_enter Tryz.func37,Tryz.ntmps37;go_wp2_with fail;refine (cga _ (HV.out.old HA.out)).mono ?_
  rintro e w1 ⟨rfl,g1⟩;have HG1:=Qaa (Old.trans HA.out g1);clear g1;go_wp2_with fail;go_ret;exact ⟨rfl,HG1.out⟩
end Go.Proofs.YthcidnnkakppcaaGreatDoor
