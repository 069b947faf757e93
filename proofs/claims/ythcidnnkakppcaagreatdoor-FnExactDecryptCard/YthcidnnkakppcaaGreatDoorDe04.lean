/- Proved: what its theorems say. -/
import Derived.Test.YthcidnnkakppcaaGreatDoorRows
import Derived.WalkKit
import Derived.ProofKit
import Derived.OpenShut
import Derived.Deep.Draws
import Derived.Test.YthcidnnkakppcaaGreatDoorDe01
set_option linter.unusedVariables false
set_option linter.unusedSimpArgs false
set_option maxHeartbeats 1000000
namespace Go.Proofs.YthcidnnkakppcaaGreatDoor
open Go.ChangeShapes Go.WideShapes Go.ChangeAt Go.RowKit
def Qi7 (p:Int):Bool:=decide (2<=p/\p<=268435456)
theorem Qb0 {p:Int} (h:Qi7 p=true):2<=p/\p<=268435456:=by simpa [Qi7] using h
theorem Qsw {p:Int} (h:Qi7 p=false):p<2∨(2<=p/\268435456<p):=by simp [Qi7] at h;omega
theorem Qcl (p:Int) (w:World) :
  Calls Tryz.prog 72 #[.int .i64 p] w fun e w'=>e=.returned (.bool (Qi7 p))/\w'=w:=by
 cases h:Qi7 p
 ·rcases Qsw h with h1 | ⟨h1,h2⟩
  all_goals
   clear h
   try (have d:decide (p<=268435456)=false:=by simp;omega)
   go_enter Tryz.func72,Tryz.ntmps72
   go_wp2
   go_ret;exact ⟨rfl,rfl⟩
 ·obtain ⟨h1,h2⟩:=Qb0 h;clear h;go_enter Tryz.func72,Tryz.ntmps72
  go_wp2
  go_ret;exact ⟨rfl,rfl⟩
theorem Qlz (p:Int) (w:World) :
  Calls Tryz.prog 127 #[.int .i64 p] w fun e w'=>e=.returned (.bool (Qi7 p))/\w'=w:=by
 cases h:Qi7 p
 ·rcases Qsw h with h1 | ⟨h1,h2⟩
  all_goals
   clear h
   try (have d:decide (p<=268435456)=false:=by simp;omega)
   go_enter Tryz.func127,Tryz.ntmps127
   go_wp2
   go_ret;exact ⟨rfl,rfl⟩
 ·obtain ⟨h1,h2⟩:=Qb0 h;clear h;go_enter Tryz.func127,Tryz.ntmps127
  go_wp2
  go_ret;exact ⟨rfl,rfl⟩
theorem Qpv (a p:Int) (h0:a<0) (hp:1<=p) : -p<a.tmod p/\a.tmod p<=0/\(a.tmod p<0->a.tmod p+p=a%p)/\(0<=a.tmod p->a.tmod p=a%p):=by
 have e:Int.tmod a p = - ((-a)%p):=by
  rw [<- Int.tmod_eq_emod_of_nonneg (by omega),Int.neg_tmod,Int.neg_neg]
 have r0:=Int.emod_nonneg (-a) (show p≠0 by omega);have r1:=Int.emod_lt_of_pos (-a) (b:=p) (by omega)
 have k:(-a)%p=if p ∣ a then 0 else p - a%p:=by
  rw [Int.neg_emod];have:(p.natAbs:Int)=p:=by omega
  rw [this]
 by_cases hd:p ∣ a
 ·rw [if_pos hd] at k;omega
 ·rw [if_neg hd] at k;have s1:=Int.emod_lt_of_pos a (b:=p) (by omega);omega
theorem Qcm (a p:Int) (w:World) (ha : -9223372036854775808≤a∧a≤9223372036854775807) (hp:1≤p∧p≤4294967296) :
  Calls Tryz.prog 70 #[.int .i64 a,.int .i64 p] w fun e w'=>e=.returned (.int .i64 (a%p))/\w'=w:=by
 obtain ⟨h1,h2⟩:=hp;obtain ⟨h3,h4⟩:=ha
 by_cases h0:0<=a
 ·have r0:=Int.emod_nonneg a (show p≠0 by omega);go_enter Tryz.func70,Tryz.ntmps70
  go_wp2
  go_ret;exact ⟨rfl,rfl⟩
 ·obtain ⟨t1,t2,t3,t4⟩:=Qpv a p (by omega) h1;have T3:Hid (a.tmod p<0→a.tmod p+p=a%p):=t3;have T4:Hid (0≤a.tmod p→a.tmod p=a%p):=t4;clear t3 t4
  by_cases hs:a.tmod p<0
  ·go_enter Tryz.func70,Tryz.ntmps70
   go_wp2
   go_ret;exact ⟨by rw [<- T3.out hs];rfl,rfl⟩
  ·go_enter Tryz.func70,Tryz.ntmps70
   go_wp2
   go_ret;exact ⟨by rw [<- T4.out (by omega)];rfl,rfl⟩
theorem Qj4 (a p:Int) (w:World) (ha : -9223372036854775808≤a∧a≤9223372036854775807) (hp:1≤p∧p≤4294967296) :
  Calls Tryz.prog 88 #[.int .i64 a,.int .i64 p] w fun e w'=>e=.returned (.int .i64 (a%p))/\w'=w:=by
 obtain ⟨h1,h2⟩:=hp;obtain ⟨h3,h4⟩:=ha
 by_cases h0:0<=a
 ·have r0:=Int.emod_nonneg a (show p≠0 by omega);go_enter Tryz.func88,Tryz.ntmps88
  go_wp2
  go_ret;exact ⟨rfl,rfl⟩
 ·obtain ⟨t1,t2,t3,t4⟩:=Qpv a p (by omega) h1;have T3:Hid (a.tmod p<0→a.tmod p+p=a%p):=t3;have T4:Hid (0≤a.tmod p→a.tmod p=a%p):=t4;clear t3 t4
  by_cases hs:a.tmod p<0
  ·go_enter Tryz.func88,Tryz.ntmps88
   go_wp2
   go_ret;exact ⟨by rw [<- T3.out hs];rfl,rfl⟩
  ·go_enter Tryz.func88,Tryz.ntmps88
   go_wp2
   go_ret;exact ⟨by rw [<- T4.out (by omega)];rfl,rfl⟩
end Go.Proofs.YthcidnnkakppcaaGreatDoor
namespace Go.Proofs.YthcidnnkakppcaaGreatDoor
open Go.ChangeShapes Go.WideShapes Go.ChangeAt Go.RowKit
open M1
theorem Qsx {k:IntKind} {a b:Int} (h:a=b):Ending.returned (.int k a)=.returned (.int k b):=by rw [h]
theorem Qv1 (a m:Int) (w:World) (ha : -9223372036854775808≤a∧a≤9223372036854775807) (hm:2≤m∧m≤268435456) :
  Calls Tryz.prog 113 #[.int .i64 a,.int .i64 m] w fun e w'=>e=.returned (.int .i64 (invM (a%m).toNat m.toNat))/\w'=w:=by
 obtain ⟨h1,h2⟩:=hm;obtain ⟨h3,h4⟩:=ha;have r0:=Int.emod_nonneg a (show m≠0 by omega);have r1:=Int.emod_lt_of_pos a (b:=m) (by omega);have S:=Eu.start (a%m) m r0 r1;generalize hA:a%m=A at *;have HA:Hid (a%m=A):=hA;clear hA;go_enter Tryz.func113,Tryz.ntmps113;go_wp2_with (first | (go_at_call 88;refine (Qj4 _ _ _ ⟨h3,h4⟩ ⟨by omega,by omega⟩).mono ?_;rintro e w' ⟨rfl,rfl⟩;rw [HA.out]))
 go_loop [5,6,7,8] (fun x y u v=>∃x' y' u' v':Int,Eu A m x' y' u' v'/\x=.int .i64 x'/\y=.int .i64 y'/\u=.int .i64 u'/\v=.int .i64 v') (fun x _ _ _=>(intOf x).toNat)
 case atStart=>exact ⟨_,_,_,_,S,rfl,rfl,rfl,rfl⟩
 case round=>
  obtain ⟨x,y,u,v,E,rfl,rfl,rfl,rfl⟩:=hrel;clear S;obtain ⟨e1,e2,e3⟩:0<=x/\x<y/\y<=m:=⟨E.x0,E.xy,E.ym⟩;obtain ⟨b1,b2⟩:=E.bu;obtain ⟨b3,b4⟩:=E.bv;have HE:Hid (Eu A m x y u v):=E;clear E
  by_cases hx:x=0
  ·subst hx
   by_cases hy:y=1
   ·subst hy;have HD:Hid (v%m=(invM A.toNat m.toNat:Int)):=HE.out.done1 h1 r0;go_wp2_with fail;refine (Qj4 _ _ _ ⟨by omega,by omega⟩ ⟨by omega,by omega⟩).mono ?_
    rintro e w2 ⟨rfl,rfl⟩;rw [HD.out];go_wp2_with fail;go_ret;exact ⟨rfl,rfl⟩
   ·have HD:Hid ((0:Int)=(invM A.toNat m.toNat:Int)):=HE.out.done0 h1 r0 hy;have hy':(y != 1)=true:=by simp [hy]
    go_wp2_with fail;go_ret;exact ⟨Qsx HD.out,rfl⟩
  ·obtain ⟨E',⟨q1,q2⟩,⟨q3,q4⟩,⟨q5,q6⟩⟩:=HE.out.step hx;have HE':Hid (Eu A m (y - y/x*x) x (v - y/x*u) u):=E';have n1:0≤y - y/x*x:=E'.x0;have n2:y - y/x*x<x:=E'.xy;obtain ⟨n3,n4⟩:=E'.bu;clear E' HE;have hx':(x != 0)=true:=by simp [hx]
   go_wp2_with fail
   go_round
   case rel=>exact ⟨_,_,_,_,HE'.out,rfl,rfl,rfl,rfl⟩
   case measure=>simp [intOf];omega
theorem Qec (a m:Int) (w:World) (ha : -9223372036854775808≤a∧a≤9223372036854775807) (hm:Qi7 m=true) :
  Calls Tryz.prog 153 #[.int .i64 a,.int .i64 m] w fun e w'=>e=.returned (.int .i64 (invM (a%m).toNat m.toNat))/\w'=w:=by
 obtain ⟨h1,h2⟩:=Qb0 hm;obtain ⟨h3,h4⟩:=ha;have r0:=Int.emod_nonneg a (show m≠0 by omega);have r1:=Int.emod_lt_of_pos a (b:=m) (by omega);have S:=Eu.start (a%m) m r0 r1;generalize hA:a%m=A at *;have HA:Hid (a%m=A):=hA;clear hA;go_enter Tryz.func153,Tryz.ntmps153;go_wp2_with (first | (go_at_call 72;refine (Qcl _ _).mono ?_;rintro e w' ⟨rfl,rfl⟩) | (go_at_call 70;refine (Qcm _ _ _ ⟨h3,h4⟩ ⟨by omega,by omega⟩).mono ?_;rintro e w' ⟨rfl,rfl⟩;rw [HA.out]))
 go_loop [5,6,7,8] (fun y x v u=>∃x' y' u' v':Int,Eu A m x' y' u' v'/\x=.int .i64 x'/\y=.int .i64 y'/\u=.int .i64 u'/\v=.int .i64 v') (fun _ x _ _=>(intOf x).toNat)
 case atStart=>exact ⟨_,_,_,_,S,rfl,rfl,rfl,rfl⟩
 case round=>
  obtain ⟨x,y,u,v,E,rfl,rfl,rfl,rfl⟩:=hrel;clear S;obtain ⟨e1,e2,e3⟩:0<=x/\x<y/\y<=m:=⟨E.x0,E.xy,E.ym⟩;obtain ⟨b1,b2⟩:=E.bu;obtain ⟨b3,b4⟩:=E.bv;have HE:Hid (Eu A m x y u v):=E;clear E
  by_cases hx:x=0
  ·subst hx
   by_cases hy:y=1
   ·subst hy;have HD:Hid (v%m=(invM A.toNat m.toNat:Int)):=HE.out.done1 h1 r0;go_wp2_with fail;refine (Qcm _ _ _ ⟨by omega,by omega⟩ ⟨by omega,by omega⟩).mono ?_
    rintro e w2 ⟨rfl,rfl⟩;rw [HD.out];go_wp2_with fail;go_ret;exact ⟨rfl,rfl⟩
   ·have HD:Hid ((0:Int)=(invM A.toNat m.toNat:Int)):=HE.out.done0 h1 r0 hy;have hy':(y != 1)=true:=by simp [hy]
    go_wp2_with fail;go_ret;exact ⟨Qsx HD.out,rfl⟩
  ·obtain ⟨E',⟨q1,q2⟩,⟨q3,q4⟩,⟨q5,q6⟩⟩:=HE.out.step hx;have HE':Hid (Eu A m (y - y/x*x) x (v - y/x*u) u):=E';have n2:=E'.xy;obtain ⟨n3,n4⟩:=E'.bu;clear E' HE;have hx':(x != 0)=true:=by simp [hx]
   go_wp2_with fail
   go_round
   case rel=>exact ⟨_,_,_,_,HE'.out,rfl,rfl,rfl,rfl⟩
   case measure=>simp [intOf];omega
end Go.Proofs.YthcidnnkakppcaaGreatDoor
