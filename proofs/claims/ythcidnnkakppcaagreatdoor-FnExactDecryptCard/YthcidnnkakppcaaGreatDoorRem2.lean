/- Proved: what its theorems say. -/
import Derived.Test.YthcidnnkakppcaaGreatDoorDiv
set_option linter.unusedVariables false
set_option linter.unusedSimpArgs false
namespace Go.Proofs.YthcidnnkakppcaaGreatDoor
open Go.ChangeShapes Go.WideShapes Go.ChangeAt Go.RowKit
open M1
theorem Qs3 (lo s:Nat) (hs:s<=64):lo*2^s/18446744073709551616=lo/2^(64 - s):=by
 have e:(18446744073709551616:Nat)=2^(64 - s)*2^s:=by
  rw [<- Nat.pow_add,show 64 - s+s=64 by omega]
 rw [e];exact Nat.mul_div_mul_right _ _ (Nat.two_pow_pos s)
theorem Qip (hi lo y:Nat) (w:World) (hhi:0<hi) (hy:hi<y) (hyb:y<18446744073709551616) (hlo:lo<18446744073709551616) :
  Calls Tryz.prog 173 #[.int .u64 hi,.int .u64 lo,.int .u64 y] w fun e w'=>∃q:Int,e=.returned (.tuple #[.int .u64 q,.int .u64 (((hi*18446744073709551616+lo)%y:Nat):Int)])/\w'=w:=by
 obtain ⟨b1,b2,b3,b4⟩:=Qhq 64 y (by omega) hyb (by omega);have cz:=fun W=>Qzx y W (by omega) hyb
 generalize Lib.bitLen y=L at *;obtain ⟨s,hs⟩:∃s,s=64 - L:=⟨_,rfl⟩
 rw [<- hs] at cz;have hP:=Nat.two_pow_pos s
 have hYlo:9223372036854775808<=y*2^s:=by
  have h1:2^(L - 1)*2^s<=y*2^s:=Nat.mul_le_mul_right _ b3;rw [<- Nat.pow_add,show L - 1+s=63 by omega] at h1;exact h1
 have hYhi:y*2^s<18446744073709551616:=by
  have h1:=Nat.mul_lt_mul_of_pos_right b4 hP;rw [<- Nat.pow_add,show L+s=64 by omega] at h1;exact h1
 have hl:=Qs3 lo s (by omega)
 have hlt:lo/2^(64 - s)<2^s:=by
  rw [Nat.div_lt_iff_lt_mul (Nat.two_pow_pos _),<- Nat.pow_add,show s+(64 - s)=64 by omega];exact hlo
 have hhy:hi*2^s+2^s<=y*2^s:=by
  have h1:(hi+1)*2^s<=y*2^s:=Nat.mul_le_mul_right _ hy;rw [Nat.add_mul,Nat.one_mul] at h1;exact h1
 have hN:(hi*18446744073709551616+lo)*2^s=(hi*2^s+lo/2^(64 - s))*18446744073709551616+lo*2^s%18446744073709551616:=by
  have h1:=Nat.div_add_mod (lo*2^s) 18446744073709551616;rw [hl] at h1;have h2:(hi*18446744073709551616+lo)*2^s=hi*2^s*18446744073709551616+lo*2^s:=by grind
  rw [h2];omega
 have hNm:((hi*18446744073709551616+lo)*2^s)%(y*2^s)=(hi*18446744073709551616+lo)%y*2^s:=Nat.mul_mod_mul_right _ _ _;have e1:(y:Int)*2^s=((y*2^s:Nat):Int):=by simp
 have e2:(hi:Int)*2^s=((hi*2^s:Nat):Int):=by simp
 have e3:(lo:Int)/2^(64 - s)=((lo/2^(64 - s):Nat):Int):=by simp
 have e4:(lo:Int)*2^s=((lo*2^s:Nat):Int):=by simp
 have hor:hi*2^s ||| lo/2^(64 - s)=hi*2^s+lo/2^(64 - s):=by
  rw [Nat.mul_comm,<- Nat.two_pow_add_eq_or_of_lt hlt]
 have hlowlt:lo*2^s%18446744073709551616<18446744073709551616:=Nat.mod_lt _ (by omega);have m1:=Mul64.maskN (y*2^s) hYhi;have m2:=Mul64.maskN (lo*2^s%18446744073709551616) hlowlt;have w1:=Mul64.wrapN (y*2^s) hYhi;have w2:=Mul64.wrapN (hi*2^s) (by omega);have w3:=Mul64.wrapM (lo*2^s);have o1:=bits_or_u64_nat (hi*2^s) (lo/2^(64 - s)) (by omega) (by omega);rw [hor] at o1;have hsub:s<64:=by omega
 have D1:Int.toNat 0=0:=rfl;rw [hN] at hNm;generalize hu:hi*2^s+lo/2^(64 - s)=u at *;have huY:u<y*2^s:=by omega
 have hYpos:0<y*2^s:=by omega
 have eY:=Nat.div_add_mod (y*2^s) 4294967296;have eL:=Nat.div_add_mod (lo*2^s%18446744073709551616) 4294967296;have kY:y*2^s/4294967296<4294967296/\2147483648<=y*2^s/4294967296/\y*2^s%4294967296<4294967296:=by omega
 have kL:lo*2^s%18446744073709551616/4294967296<4294967296/\lo*2^s%18446744073709551616%4294967296<4294967296:=by omega
 have hg:∀a:Nat,((a*2^s:Nat):Int)/2^s=(a:Int):=by
  intro a;have h1:((a*2^s:Nat):Int)=(a:Int)*2^s:=by simp
  rw [h1]
  exact Int.mul_ediv_cancel _ (by have:((2^s:Nat):Int)=(2:Int)^s:=by simp
                                  omega)
 generalize y*2^s=Y at *;generalize lo*2^s%18446744073709551616=low at *;have eY':Y/4294967296*4294967296+Y%4294967296=Y:=by rw [Nat.mul_comm];exact eY
 have eL':low/4294967296*4294967296+low%4294967296=low:=by rw [Nat.mul_comm];exact eL
 obtain ⟨t,ht⟩:∃t,t=(u*4294967296+low/4294967296)%Y:=⟨_,rfl⟩
 have htY:t<Y:=by rw [ht];exact Nat.mod_lt _ hYpos
 have lo1:=Qlp u (low/4294967296) Y;have lo2:=Qlp t (low%4294967296) Y;have td:=Qq4 u (low/4294967296) (low%4294967296) Y;rw [<- ht,eL',hNm] at td;rw [td] at lo2;rw [<- ht] at lo1
 have rlt:(hi*18446744073709551616+lo)%y*2^s<18446744073709551616:=by
  rw [<- hNm];have:=Nat.mod_lt (u*18446744073709551616+low) hYpos;omega
 have H1:Half u (low/4294967296) (Y/4294967296) (Y%4294967296):=⟨kY.2.1,kY.1,kY.2.2,kL.1,by rw [eY'];exact huY⟩;have H2:Half t (low%4294967296) (Y/4294967296) (Y%4294967296):=⟨kY.2.1,kY.1,kY.2.2,kL.2,by rw [eY'];exact htY⟩;have W2:=Ql2 t (low%4294967296) _ Y _ lo2.2 lo2.1 rlt
 exact Qv8 hi lo y s Y (Y/4294967296) (Y%4294967296) u low (low/4294967296) (low%4294967296) ((u*4294967296+low/4294967296)/Y) t ((t*4294967296+low%4294967296)/Y) _ w hhi hy hyb hlo hsub cz
  (by rw [e1];exact w1) (by omega) m1 (by rw [e2,w2,e3];exact o1) (by rw [e4];exact w3) (by omega) m2 eY'.symm H1 H2 (by omega) (by omega)
  (by show _ = _;rw [eY']) (by show _ = _;rw [eY']) (Ql2 u (low/4294967296) _ Y t lo1.2 lo1.1 (by omega))
  (by show _ = _;rw [W2];exact hg _)
theorem Qrb (hi lo y:Nat) (w:World) (hy:0<y) (hhb:hi<18446744073709551616) (hyb:y<18446744073709551616) (hlo:lo<18446744073709551616) :
  Calls Tryz.prog 169 #[.int .u64 hi,.int .u64 lo,.int .u64 y] w fun e w'=>e=.returned (.int .u64 (((hi*18446744073709551616+lo)%y:Nat):Int))/\∃n,w'=w.drewN n:=by
 have eH:(hi*18446744073709551616+lo)%y=(hi%y*18446744073709551616+lo)%y:=by
  rw [Nat.add_mod,Nat.mul_mod,<- Nat.add_mod];rw [Nat.add_mod (hi%y*18446744073709551616),Nat.mul_mod (hi%y),Nat.mod_mod,<- Nat.add_mod]
 rw [eH];have hm:hi%y<y:=Nat.mod_lt _ hy;have r1:(hi:Int)%(y:Int)=((hi%y:Nat):Int):=by simp
 clear eH;generalize hi%y=h at *;have hyn:¬y=0:=by omega
 by_cases h0:h=0
 ·subst h0;have c:=fun W=>Qed lo y hlo hy hyb W
  rw [Nat.zero_mul,Nat.zero_add];generalize lo%y=R at *;have r1':(hi:Int)%(y:Int)=0:=r1;clear r1;go_enter Tryz.func169,Tryz.ntmps169;go_wp2_with fail;refine (c _).mono ?_
  rintro e w' ⟨rfl,n,rfl⟩;go_wp2_with fail;go_ret;exact ⟨rfl,_,rfl⟩
 ·have c:=fun W=>Qip h lo y W (by omega) hm hyb hlo
  generalize (h*18446744073709551616+lo)%y=R at *;go_enter Tryz.func169,Tryz.ntmps169;go_wp2_with fail;refine (c _).mono ?_
  rintro e w' ⟨q,rfl,rfl⟩;go_wp2_with fail;go_ret;exact ⟨rfl,0,rfl⟩
theorem Q2b (n:Nat) (h0:0<n) (hn:n<18446744073709551616):PR n:=by
 intro x y W hx hy;have c:=bits_Mul64 x y (by omega) (by omega)
 have d:=fun W=>Qrb (x*y/18446744073709551616) (x*y%18446744073709551616) n W h0 (by
  have h1:x*y<18446744073709551616*18446744073709551616:=Nat.mul_lt_mul'' (by omega) (by omega);exact Nat.div_lt_of_lt_mul h1) hn (Nat.mod_lt _ (by omega))
 have e:x*y/18446744073709551616*18446744073709551616+x*y%18446744073709551616=x*y:=by
  omega
 rw [e] at d;clear e;generalize x*y/18446744073709551616=hi at *;generalize x*y%18446744073709551616=lo at *;generalize x*y%n=R at *;go_enter Tryz.func165,Tryz.ntmps165;go_wp2_with fail;refine (c _).mono ?_
 rintro e w' ⟨rfl,rfl⟩;go_wp2_with fail;refine (d _).mono ?_
 rintro e w' ⟨rfl,n,rfl⟩;go_wp2_with fail;go_ret;exact ⟨rfl,_,rfl⟩
end Go.Proofs.YthcidnnkakppcaaGreatDoor
