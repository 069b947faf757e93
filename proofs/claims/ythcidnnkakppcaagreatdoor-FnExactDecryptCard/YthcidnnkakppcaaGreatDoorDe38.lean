/- Proved: what its theorems say. -/
import Derived.Test.YthcidnnkakppcaaGreatDoorDe31
import Derived.Lib.BitFns
set_option linter.unusedVariables false
set_option linter.unusedSimpArgs false
namespace Go.Proofs.YthcidnnkakppcaaGreatDoor
open Go.ChangeShapes Go.WideShapes Go.ChangeAt Go.RowKit
open M2
theorem Qms:∀(k x:Nat),x<2^k->k<=64->Lib.bitLen x<=k/\x<2^Lib.bitLen x
 | 0,x,h,_=>by
   have:x=0:=by simpa using h
   subst this;decide
 | k+1,x,h,hk=>by
   by_cases h0:x=0
   ·subst h0;exact ⟨by have:Lib.bitLen 0=0:=by decide
                       omega,by decide⟩
   ·have hp:2^(k+1)<=2^64:=Nat.pow_le_pow_right (by omega) hk;rw [Lib.bitLen_half x h0 (by omega)];rw [Nat.pow_succ] at h;obtain ⟨i1,i2⟩:=Qms k (x/2) (by omega) (by omega);refine ⟨by omega,?_⟩;rw [Nat.pow_add];omega
theorem Qqg (p:Nat) (h:p<268435456):Lib.bitLen p<=28/\p<2^Lib.bitLen p:=Qms 28 p (by omega) (by omega)
end Go.Proofs.YthcidnnkakppcaaGreatDoor
namespace Go.Proofs.YthcidnnkakppcaaGreatDoor.M2
theorem Qmt:∀(k x:Nat),x<2^k->k<=64->x≠0->1<=Lib.bitLen x/\2^(Lib.bitLen x - 1)<=x
 | 0,x,h,_,h0=>by
   have:x=0:=by simpa using h
   exact absurd this h0
 | k+1,x,h,hk,h0=>by
   have hp:2^(k+1)<=2^64:=Nat.pow_le_pow_right (by omega) hk;rw [Lib.bitLen_half x h0 (by omega)]
   by_cases h1:x/2=0
   ·have e:Lib.bitLen (x/2)=0:=by rw [h1];decide
    rw [e];exact ⟨by omega,by simp;omega⟩
   ·rw [Nat.pow_succ] at h;obtain ⟨i1,i2⟩:=Qmt k (x/2) (by omega) (by omega) h1;refine ⟨by omega,?_⟩;obtain ⟨j,hj⟩:∃j,Lib.bitLen (x/2)=j+1:=⟨Lib.bitLen (x/2) - 1,by omega⟩
    rw [hj] at i2 ⊢;simp only [Nat.add_sub_cancel] at i2;rw [show 1+(j+1) - 1=j+1 by omega,Nat.pow_succ];omega
def stretch (x:Nat):Nat:=2^(28 - Lib.bitLen x)
theorem Qki {x:Nat} (hx:x<268435456) (h0:x≠0):0<stretch x/\stretch x<=134217728/\(x+1)*stretch x<=LB/\LB/2<=x*stretch x:=by
 obtain ⟨l1,l2⟩:=Qqg x hx;obtain ⟨g1,g2⟩:=Qmt 28 x (by omega) (by omega) h0;unfold stretch;generalize Lib.bitLen x=l at *;have e28:2^l*2^(28 - l)=268435456:=by rw [<- Nat.pow_add,show l+(28 - l)=28 by omega]
 have e27:2^(l - 1)*2^(28 - l)=134217728:=by rw [<- Nat.pow_add,show l - 1+(28 - l)=27 by omega]
 have hs:0<2^(28 - l):=Nat.pow_pos (by omega);refine ⟨hs,?_,?_,?_⟩
 ·have:2^(28 - l)<=2^27:=Nat.pow_le_pow_right (by omega) (by omega);exact this
 ·have:=Nat.mul_le_mul_right (2^(28 - l)) (show x+1<=2^l by omega);rw [e28] at this;exact this
 ·have:=Nat.mul_le_mul_right (2^(28 - l)) g2;rw [e27] at this;exact this
theorem Qmu {a b m s p0:Nat} (hb:cnt b=m+2) (ha:cnt a=p0+m+2) (hs:s=stretch (b/LB^(m+1))) :
  Long (a*s) (b*s) p0 m/\cnt (b*s)=m+2/\0<s/\s<=134217728:=by
 have hbl:=cnt_lt b;have hb0:b≠0:=fun e=>by rw [e,Qda] at hb;omega
 have hbg:=Qx5 hb0;rw [hb] at hbl hbg;rw [show m+2 - 1=m+1 by omega] at hbg;have hx:b/LB^(m+1)<268435456:=Nat.div_lt_of_lt_mul (show b<LB^(m+1)*LB by rw [<- Nat.pow_succ];exact hbl)
 have hx0:b/LB^(m+1)≠0:=by
  have:=(Nat.le_div_iff_mul_le (pw (m+1))).2 (show 1*LB^(m+1)<=b by rw [Nat.one_mul];exact hbg);omega
 obtain ⟨s0,s1,s2,s3⟩:=Qki hx hx0;rw [<- hs] at s0 s1 s2 s3;have hlo:=Qsh b (m+1);have hhi:=Qpo b (m+1);generalize b/LB^(m+1)=x at *
 have hv1:b*s<LB^(m+2):=by
  have h1:=Nat.mul_lt_mul_of_pos_right hhi s0;have h2:(x+1)*LB^(m+1)*s=(x+1)*s*LB^(m+1):=Nat.mul_right_comm _ _ _;have h3:=Nat.mul_le_mul_right (LB^(m+1)) s2;have h4:LB*LB^(m+1)=LB^(m+2):=by rw [Nat.pow_succ LB (m+1),Nat.mul_comm]
  omega
 have hv2:LB/2<=b*s/LB^(m+1):=by
  refine (Nat.le_div_iff_mul_le (pw _)).2 ?_
  have h1:=Nat.mul_le_mul_right s hlo;have h2:x*LB^(m+1)*s=x*s*LB^(m+1):=Nat.mul_right_comm _ _ _;have h3:=Nat.mul_le_mul_right (LB^(m+1)) s3;omega
 refine ⟨⟨hv1,hv2,?_⟩,?_,s0,s1⟩
 ·have h1:=cnt_lt a;rw [ha] at h1;have h2:=Nat.mul_le_mul_right (LB^(p0+1)) hbg;rw [← Nat.pow_add,show m+1+(p0+1)=p0+m+2 by omega] at h2;have h3:a<b*LB^(p0+1):=by omega
  have h4:=Nat.mul_lt_mul_of_pos_right h3 s0;rw [Nat.mul_right_comm] at h4;exact h4
 ·have h1:=Qb4 hv1
  have h2:LB^(m+1)<=b*s:=by
   have:=(Nat.le_div_iff_mul_le (pw (m+1))).1 (Nat.le_trans (show 1<=LB/2 by decide) hv2);rw [Nat.one_mul] at this;exact this
  have h3:=Qi2 h2;unfold cnt at *;omega
theorem Qop (a b s:Nat) (hs:0<s):a*s/(b*s)=a/b/\a*s%(b*s)/s=a%b:=by
 refine ⟨Nat.mul_div_mul_right _ _ hs,?_⟩;rw [Nat.mul_mod_mul_right,Nat.mul_div_cancel _ hs]
end Go.Proofs.YthcidnnkakppcaaGreatDoor.M2
