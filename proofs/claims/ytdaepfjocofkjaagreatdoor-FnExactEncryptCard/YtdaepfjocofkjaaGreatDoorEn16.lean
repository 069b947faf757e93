/- Proved: what its theorems say. -/
import Derived.Test.YtdaepfjocofkjaaGreatDoorEn15
set_option linter.unusedVariables false
set_option linter.unusedSimpArgs false
set_option maxHeartbeats 4000000
set_option maxRecDepth 100000
namespace Go.Proofs.YtdaepfjocofkjaaGreatDoor
open Go.ChangeShapes Go.WideShapes Go.ChangeAt Go.RowKit
def sb (x:Nat):Nat->Nat
 | 0=>0
 | k+1=>sb x k+x/2^k%2
def sbK (x:Nat):Nat:=x%2+x/2%2+x/4%2+x/8%2+x/16%2+x/32%2+x/64%2+x/128%2+x/256%2+x/512%2+x/1024%2+x/2048%2+x/4096%2+x/8192%2+x/16384%2+x/32768%2
theorem Q4e (x:Nat):sb x 16=sbK x:=by
 simp only [sb,sbK,Nat.reducePow,Nat.div_one,Nat.zero_add]
def sw1 (x:Nat):Nat:=Nat.land (x/2) 6148914691236517205+Nat.land x 6148914691236517205
def sw2 (s:Nat):Nat:=Nat.land (s/4) 3689348814741910323+Nat.land s 3689348814741910323
def sw3 (s:Nat):Nat:=Nat.land (s/16+s) 1085102592571150095
def sw4 (s:Nat):Nat:=s+s/256
def sw5 (s:Nat):Nat:=s+s/65536
def sw6 (s:Nat):Nat:=s+s/4294967296
def Q20 (x:Nat):Nat:=Nat.land (sw6 (sw5 (sw4 (sw3 (sw2 (sw1 x)))))) 127
def chk:Nat->Nat->Bool
 | 0,y=>Nat.beq (Q20 y) (sbK y)
 | d+1,y=>(chk d (2*y))&&(chk d (2*y+1))
theorem Q0v:chk 16 0=true:=by decide +kernel
theorem Quo:∀d y,chk d y=true->∀z,z/2^d=y->Q20 z=sbK z
 | 0,y,h,z,hz=>by
   rw [Nat.pow_zero,Nat.div_one] at hz;subst hz;exact Nat.eq_of_beq_eq_true h
 | d+1,y,h,z,hz=>by
   simp only [chk,Bool.and_eq_true] at h;rw [Nat.pow_succ,<- Nat.div_div_eq_div_mul] at hz;rcases Nat.mod_two_eq_zero_or_one (z/2^d) with e | e
   ·exact Quo d _ h.1 z (by omega)
   ·exact Quo d _ h.2 z (by omega)
theorem Q0w (x:Nat) (h:x<65536):Q20 x=sb x 16:=by
 rw [Q4e];exact Quo 16 0 Q0v x (Nat.div_eq_of_lt h)
theorem Qis (a b:Nat):Nat.land a b<=a:=Nat.and_le_left
theorem Qcl (a m:Nat) (ha:a<=18446744073709551615) (hm:m<=18446744073709551615):bits .and .u64 (a:Int) (m:Int)=((Nat.land a m:Nat):Int):=bits_and_u64_nat a m (by omega) (by omega)
theorem Q3t (a b:Nat) (ha:a<=9223372036854775807) (hb:b<=9223372036854775807):bits .and .i64 (a:Int) (b:Int)=((a &&& b:Nat):Int):=by
 have hx:a &&& b<2^63:=Nat.and_lt_two_pow _ (by omega)
 have h1:(BitVec.ofInt 64 (a:Int)).toNat=a:=by
  rw [BitVec.ofInt_natCast,BitVec.toNat_ofNat];exact Nat.mod_eq_of_lt (by omega)
 have h2:(BitVec.ofInt 64 (b:Int)).toNat=b:=by
  rw [BitVec.ofInt_natCast,BitVec.toNat_ofNat];exact Nat.mod_eq_of_lt (by omega)
 show IntKind.i64.wrap ((BitVec.ofInt 64 (a:Int) &&& BitVec.ofInt 64 (b:Int)).toNat:Int)=_
 rw [BitVec.toNat_and,h1,h2,IntKind.wrap_i64];omega
theorem Qo7 (x:Nat) (hx:x<65536) (w:World):Calls Tryz.prog 142 #[.int .u64 x] w fun e w'=>e=.returned (.int .i64 (sb x 16:Nat))/\w'=w:=by
 rw [<- Q0w x hx];have hsw:∀s,sw1 x=s->Q20 x=Nat.land (sw6 (sw5 (sw4 (sw3 (sw2 s))))) 127:=fun s h=>by rw [<- h];rfl
 obtain ⟨a1,ha1⟩:∃a,Nat.land (x/2) 6148914691236517205=a:=⟨_,rfl⟩
 obtain ⟨a2,ha2⟩:∃a,Nat.land x 6148914691236517205=a:=⟨_,rfl⟩
 have l1:a1<=x/2:=by rw [<- ha1];exact Qis _ _
 have l2:a2<=x:=by rw [<- ha2];exact Qis _ _
 have E1:bits .and .u64 ((x:Int)/2) 6148914691236517205=(a1:Int):=by rw [<- ha1];exact Qcl (x/2) 6148914691236517205 (by omega) (by omega)
 have E2:bits .and .u64 (x:Int) 6148914691236517205=(a2:Int):=by rw [<- ha2];exact Qcl x 6148914691236517205 (by omega) (by omega)
 obtain ⟨s1,hs1⟩:∃s,s=a1+a2:=⟨_,rfl⟩
 have E3:(a1:Int)+(a2:Int)=(s1:Int):=by rw [hs1];rfl
 have l3:s1<=131071:=by omega
 have G1:=hsw s1 (by unfold sw1;rw [ha1,ha2,hs1]);obtain ⟨b1,hb1⟩:∃a,Nat.land (s1/4) 3689348814741910323=a:=⟨_,rfl⟩
 obtain ⟨b2,hb2⟩:∃a,Nat.land s1 3689348814741910323=a:=⟨_,rfl⟩
 have l4:b1<=s1/4:=by rw [<- hb1];exact Qis _ _
 have l5:b2<=s1:=by rw [<- hb2];exact Qis _ _
 have E4:bits .and .u64 ((s1:Int)/4) 3689348814741910323=(b1:Int):=by rw [<- hb1];exact Qcl (s1/4) 3689348814741910323 (by omega) (by omega)
 have E5:bits .and .u64 (s1:Int) 3689348814741910323=(b2:Int):=by rw [<- hb2];exact Qcl s1 3689348814741910323 (by omega) (by omega)
 obtain ⟨s2,hs2⟩:∃s,s=b1+b2:=⟨_,rfl⟩
 have E6:(b1:Int)+(b2:Int)=(s2:Int):=by rw [hs2];rfl
 have l6:s2<=262142:=by omega
 rw [show sw2 s1=s2 by unfold sw2;rw [hb1,hb2,hs2]] at G1;obtain ⟨t,ht⟩:∃t,t=s2/16+s2:=⟨_,rfl⟩
 have E7:(s2:Int)/16+(s2:Int)=(t:Int):=by rw [ht];rfl
 have l7:t<=300000:=by omega
 obtain ⟨s3,hs3⟩:∃a,Nat.land t 1085102592571150095=a:=⟨_,rfl⟩
 have l8:s3<=t:=by rw [<- hs3];exact Qis _ _
 have E8:bits .and .u64 (t:Int) 1085102592571150095=(s3:Int):=by rw [<- hs3];exact Qcl t 1085102592571150095 (by omega) (by omega)
 rw [show sw3 s2=s3 by unfold sw3;rw [<- ht,hs3]] at G1;obtain ⟨s4,hs4⟩:∃t,t=s3+s3/256:=⟨_,rfl⟩
 have E9:(s3:Int)+(s3:Int)/256=(s4:Int):=by rw [hs4];rfl
 have l9:s4<=400000:=by omega
 rw [show sw4 s3=s4 by unfold sw4;rw [hs4]] at G1;obtain ⟨s5,hs5⟩:∃t,t=s4+s4/65536:=⟨_,rfl⟩
 have E10:(s4:Int)+(s4:Int)/65536=(s5:Int):=by rw [hs5];rfl
 have l10:s5<=500000:=by omega
 rw [show sw5 s4=s5 by unfold sw5;rw [hs5]] at G1;obtain ⟨s6,hs6⟩:∃t,t=s5+s5/4294967296:=⟨_,rfl⟩
 have E11:(s5:Int)+(s5:Int)/4294967296=(s6:Int):=by rw [hs6];rfl
 have l11:s6<=600000:=by omega
 rw [show sw6 s5=s6 by unfold sw6;rw [hs6]] at G1;have E12:bits .and .i64 (s6:Int) 127=((Nat.land s6 127:Nat):Int):=Q3t s6 127 (by omega) (by omega);rw [G1];generalize Nat.land s6 127=r at *;clear G1 hs6 hs5 hs4 hs3 ht hs2 hb1 hb2 hs1 ha1 ha2 hsw;go_enter Tryz.func142,Tryz.ntmps142;go_wp2_with fail;go_ret;exact ⟨rfl,rfl⟩
theorem Qf7 (x:Nat) (hx:x<65536) (w:World):Calls Tryz.prog 128 #[.int .u64 x] w fun e w'=>e=.returned (.int .i64 (sb x 16:Nat))/\w'=w:=by
 have K1:=fun W=>Qo7 x hx W
 generalize sb x 16=r at *;go_enter Tryz.func128,Tryz.ntmps128;go_wp2_with fail;refine (K1 _).mono ?_
 rintro e w' ⟨rfl,rfl⟩;go_wp2_with fail;go_ret;exact ⟨rfl,rfl⟩
theorem Q0x (x b i:Nat) (h:i<b):x%2^b/2^i%2=x/2^i%2:=by
 have e:=Nat.testBit_mod_two_pow x b i;rw [decide_eq_true h,Bool.true_and,Nat.testBit_eq_decide_div_mod_eq,Nat.testBit_eq_decide_div_mod_eq] at e;have h1:=Nat.mod_two_eq_zero_or_one (x%2^b/2^i);have h2:=Nat.mod_two_eq_zero_or_one (x/2^i)
 by_cases h3:x/2^i%2=1
 ·rw [decide_eq_true h3] at e;rw [of_decide_eq_true e,h3]
 ·rw [decide_eq_false h3] at e;have:=of_decide_eq_false e;omega
theorem Qx6 (x b:Nat):∀k,k<=b->sb (x%2^b) k=sb x k
 | 0,_=>rfl
 | k+1,h=>by
   unfold sb;rw [Qx6 x b k (by omega),Q0x x b k (by omega)]
theorem Qup (y b:Nat) (hy:y<2^b):∀j,sb y (b+j)=sb y b
 | 0=>rfl
 | j+1=>by
   show sb y (b+j)+y/2^(b+j)%2=sb y b
   rw [Qup y b hy j,Nat.div_eq_of_lt (Nat.lt_of_lt_of_le hy (Nat.pow_le_pow_right (by omega) (by omega))),Nat.zero_mod,Nat.add_zero]
theorem Qx7 (x b:Nat) (hb:b<=16):sb (x%2^b) 16=sb x b:=by
 have h:=Qup (x%2^b) b (Nat.mod_lt _ (Nat.two_pow_pos b)) (16 - b);rw [show b+(16 - b)=16 by omega] at h;rw [h,Qx6 x b b (Nat.le_refl _)]
theorem Quq (x:Nat):∀k,sb x k<=k
 | 0=>Nat.le_refl _
 | k+1=>by
   have:=Quq x k;have h2:x/2^k%2<2:=Nat.mod_lt _ (by omega);unfold sb;omega
theorem Q3u {b:Nat} (hb:b<=16):2^b<=65536:=Nat.pow_le_pow_right (by omega) hb
def nz (x b:Nat):Int:=(sb x b:Int) - (sb (x/2^b) b:Int)
def nzK (x b k:Nat):Int:=(sb x k:Int) - (sb (x/2^b) k:Int)
theorem Qwt (x b k:Nat):nzK x b (k+1)=nzK x b k+(((x/2^k%2:Nat):Int) - ((x/2^(b+k)%2:Nat):Int)):=by
 show ((sb x k+x/2^k%2:Nat):Int) - ((sb (x/2^b) k+x/2^b/2^k%2:Nat):Int)=(sb x k:Int) - (sb (x/2^b) k:Int)+_
 rw [Nat.div_div_eq_div_mul,<- Nat.pow_add];omega
theorem Qx8 (x b k:Nat) : -(k:Int)<=nzK x b k/\nzK x b k<=k:=by
 have:=Quq x k;have:=Quq (x/2^b) k;unfold nzK;omega
def NzP (ws:List Int) (w:World) (c k b:Nat) (e:Ending) (w':World):Prop:=
 Chg w w' c (c+2)/\((k<ws.length/\e=.returned (.tuple #[.int .i64 (nz (ws.getD k 0).toNat b),.bool true])/\Pu w' c ws (k+1))∨(k=ws.length/\∃y,e=.returned (.tuple #[.int .i64 y,.bool false])))
theorem Q0y (ws:List Int) (c k b:Nat) (w:World) (hw:wdB ws=true) (hl:ws.length<=4000) (h:Pu w c ws k) (hb:1<=b/\b<=16) :
 Calls Tryz.prog 106 #[.pointer (some ⟨c+1,0,none⟩),.int .i64 b] w fun e w'=>NzP ws w c k b e w':=by
 obtain ⟨b1,b2⟩:=hb;have HP:=Qaa h;have HW:=Qaa hw;clear h hw;obtain ⟨B,hB⟩:∃B,B=2^b:=⟨_,rfl⟩
 have lB:B<=65536:=by rw [hB];exact Q3u b2
 have lB1:1<=B:=by rw [hB];exact Nat.two_pow_pos b
 have E1:IntKind.u64.wrap ((2:Int)^b)=(B:Int):=by
  rw [show ((2:Int)^b)=((2^b:Nat):Int) by simp,<- hB,IntKind.wrap_u64];omega
 obtain ⟨m,hm⟩:∃m,m+1=B:=⟨B - 1,by omega⟩
 have E2:(B:Int) - 1=(m:Int):=by omega
 have HB:=Qaa hB;have HM:=Qaa hm;clear hB hm;go_enter Tryz.func106,Tryz.ntmps106;go_wp2_with fail;refine (Qlh ws c k w HP.out hl).mono ?_
 rintro e w1 ⟨g1,t1⟩;have HG1:=Qaa g1
 obtain ⟨x,y0,rfl,lx,HU⟩:∃(x:Nat) (y0:Bool),e=.returned (.tuple #[.int .i64 x,.bool y0])/\x<4294967296/\Hid ((k<ws.length/\x=(ws.getD k 0).toNat/\y0=true/\Pu w1 c ws (k+1))∨(k=ws.length/\y0=false)):=by
  rcases t1.out with ⟨h1,h2,h3⟩ | ⟨h1,h2,h3⟩
  ·have:=Qlf HW.out k h1;exact ⟨(ws.getD k 0).toNat,true,by rw [h2,Int.toNat_of_nonneg this.1],by omega,Or.inl ⟨h1,rfl,rfl,h3⟩⟩
  ·exact ⟨0,false,h2,by omega,Or.inr ⟨h1,rfl⟩⟩
 clear t1 g1;obtain ⟨h,hh⟩:∃h,h=x/B:=⟨_,rfl⟩
 have E3:(x:Int)/(2:Int)^b=(h:Int):=by rw [hh,HB.out];simp
 have lh:h<=x:=by rw [hh];exact Nat.div_le_self _ _
 have hmod:∀z:Nat,z &&& m=z%B:=fun z=>by
  rw [HB.out,<- Nat.and_two_pow_sub_one_eq_mod,<- HB.out,<- HM.out,Nat.add_sub_cancel]
 have E4:bits .and .u64 (x:Int) (m:Int)=((x%B:Nat):Int):=by rw [<- hmod];exact Qcl x m (by omega) (by omega)
 have E5:bits .and .u64 (h:Int) (m:Int)=((h%B:Nat):Int):=by rw [<- hmod];exact Qcl h m (by omega) (by omega)
 have l1:x%B<65536:=Nat.lt_of_lt_of_le (Nat.mod_lt _ (by omega)) lB;have l2:h%B<65536:=Nat.lt_of_lt_of_le (Nat.mod_lt _ (by omega)) lB
 have K1:Hid (∀W,Calls Tryz.prog 128 #[.int .u64 ((x%B:Nat):Int)] W fun e w'=>e=.returned (.int .i64 (sb x b:Nat))/\w'=W):=fun W=>by
  have:=Qf7 (x%B) l1 W;rw [HB.out,Qx7 x b b2] at this;rw [HB.out];exact this
 have K2:Hid (∀W,Calls Tryz.prog 128 #[.int .u64 ((h%B:Nat):Int)] W fun e w'=>e=.returned (.int .i64 (sb h b:Nat))/\w'=W):=fun W=>by
  have:=Qf7 (h%B) l2 W;rw [HB.out,Qx7 h b b2] at this;rw [HB.out];exact this
 have HN:Hid ((sb x b:Int) - (sb h b:Int)=nz x b):=by show _ = _;unfold nz;rw [hh,HB.out]
 have n1:=Quq x b;have n2:=Quq h b;clear hh hmod;generalize x%B=P at *;generalize h%B=N at *;generalize sb x b=r1 at *;generalize sb h b=r2 at *;go_wp2_with fail;refine (K1.out _).mono ?_
 rintro e w' ⟨rfl,hw⟩;obtain rfl:=hw.symm;go_wp2_with fail;refine (K2.out _).mono ?_
 rintro e w' ⟨rfl,hw⟩;obtain rfl:=hw.symm;go_wp2_with fail
 go_ret2
 unfold NzP;refine ⟨HG1.out,?_⟩;rcases HU.out with ⟨h1,h2,h3,h4⟩ | ⟨h1,h2⟩
 ·refine Or.inl ⟨h1,?_,h4⟩;rw [<- h2,<- HN.out,h3];rfl
 ·refine Or.inr ⟨h1,(r1:Int) - (r2:Int),?_⟩;rw [h2];rfl
def NzM (ws:List Int) (w:World) (q:Nat) (v:Value) (k b:Nat) (e:Ending) (w':World):Prop:=
 Chg w w' q (q+1)/\((k<ws.length/\e=.returned (.int .i64 (nz (ws.getD k 0).toNat b))/\Sp w' q v ws (k+1) true)∨(k=ws.length/\(∃y,e=.returned (.int .i64 y))/\Sp w' q v ws k false))
theorem Q0z (ws:List Int) (q k b:Nat) (v:Value) (w:World) (hw:wdB ws=true) (hl:ws.length<=4000) (h:Sp w q v ws k true) (hb:1<=b/\b<=16) :
 Calls Tryz.prog 54 #[.pointer (some ⟨q,0,none⟩),.int .i64 b] w fun e w'=>NzM ws w q v k b e w':=by
 obtain ⟨b1,b2⟩:=hb;have HP:=Qaa h;have HW:=Qaa hw;clear h hw;go_enter Tryz.func54,Tryz.ntmps54;go_wp2_with fail;refine (Qnd ws q k v true w hl HP.out).mono ?_
 rintro e w1 ⟨g1,t1⟩;have HG1:=Qaa g1
 obtain ⟨x,rfl,lx,HU⟩:∃(x:Nat),e=.returned (.int .i64 x)/\x<4294967296/\Hid ((k<ws.length/\x=(ws.getD k 0).toNat/\Sp w1 q v ws (k+1) true)∨(k=ws.length/\Sp w1 q v ws k false)):=by
  rcases t1 with ⟨h1,h2,h3⟩ | ⟨h1,h2,h3⟩
  ·have:=Qlf HW.out k h1;exact ⟨(ws.getD k 0).toNat,by rw [h2,Int.toNat_of_nonneg this.1],by omega,Or.inl ⟨h1,rfl,h3⟩⟩
  ·exact ⟨0,h2,by omega,Or.inr ⟨h1,h3⟩⟩
 clear t1 g1;go_wp2_with fail
 go_loopw [6,7] (fun n i W=>∃j:Nat,j<=b/\i=.int .i64 j/\n=.int .i64 (nzK x b j)/\W=w1) (fun _ i _=>b - (intOf i).toNat)
 case atStart=>exact ⟨0,by omega,rfl,rfl,rfl⟩
 case round=>
  obtain ⟨j,hj,rfl,rfl,hwr⟩:=hrel;obtain rfl:=hwr.symm
  by_cases hlt:j<b
  ·have hs:=Qwt x b j;have hn:=Qx8 x b j;obtain ⟨n1,n2⟩:=hn;obtain ⟨h1,hh1⟩:∃h,h=x/2^j:=⟨_,rfl⟩
   obtain ⟨h2,hh2⟩:∃h,h=x/2^(b+j):=⟨_,rfl⟩
   have E1:(x:Int)/(2:Int)^j=(h1:Int):=by rw [hh1];simp
   have E2:(x:Int)/(2:Int)^(b+j)=(h2:Int):=by rw [hh2];simp
   have lh1:h1<=x:=by rw [hh1];exact Nat.div_le_self _ _
   have lh2:h2<=x:=by rw [hh2];exact Nat.div_le_self _ _
   have E3:bits .and .i64 (h1:Int) 1=((h1%2:Nat):Int):=by rw [<- Nat.and_one_is_mod];exact Q3t h1 1 (by omega) (by omega)
   have E4:bits .and .i64 (h2:Int) 1=((h2%2:Nat):Int):=by rw [<- Nat.and_one_is_mod];exact Q3t h2 1 (by omega) (by omega)
   have HS:Hid (nzK x b j+(((h1%2:Nat):Int) - ((h2%2:Nat):Int))=nzK x b (j+1)):=by rw [hh1,hh2];exact hs.symm
   have l1:h1%2<2:=Nat.mod_lt _ (by omega);have l2:h2%2<2:=Nat.mod_lt _ (by omega);clear hs hh1 hh2;generalize h1%2=u1 at *;generalize h2%2=u2 at *;obtain ⟨Y,hY⟩:∃Y,nzK x b j=Y:=⟨_,rfl⟩
   rw [hY] at HS n1 n2 ⊢;clear hY;go_wp2_with fail;exact ⟨⟨j+1,by omega,by go_num,by rw [HS.out],by trivial⟩,by simp [intOf];omega⟩
  ·have dl:decide ((j:Int)<(b:Int))=false:=by simp;omega
   obtain rfl:j=b:=by omega
   have HN:Hid (nzK x j j=nz x j):=rfl;obtain ⟨Y,hY⟩:∃Y,nzK x j j=Y:=⟨_,rfl⟩
   rw [hY] at HN ⊢;clear hY;go_wp2_with fail;go_ret;unfold NzM;refine ⟨HG1.out,?_⟩;rcases HU.out with ⟨h1,h2,h4⟩ | ⟨h1,h2⟩
   ·refine Or.inl ⟨h1,?_,h4⟩;rw [<- h2,<- HN.out];rfl
   ·exact Or.inr ⟨h1,⟨_,rfl⟩,h2⟩
def drP (D:Nat->Option (Int×Nat)) (k0:Nat):Nat->Option (List Int×Nat)
 | 0=>some ([],k0)
 | n+1=>match drP D k0 n with
   | none=>none
   | some (l,k)=>match D k with
     | none=>none
     | some (x,k')=>some (l++[x],k')
theorem Qhg {D:Nat->Option (Int×Nat)} {k0 n k k':Nat} {l:List Int} {x:Int} (h:drP D k0 n=some (l,k)) (hd:D k=some (x,k')):drP D k0 (n+1)=some (l++[x],k'):=by
 simp [drP,h,hd]
theorem Qli {D:Nat->Option (Int×Nat)} {k0 n k:Nat} {l:List Int} (h:drP D k0 n=some (l,k)) (hd:D k=none):drP D k0 (n+1)=none:=by
 simp [drP,h,hd]
theorem Qf8 {D:Nat->Option (Int×Nat)} {k0 j:Nat} (h:drP D k0 j=none):∀m,drP D k0 (j+m)=none
 | 0=>h
 | m+1=>by
   show drP D k0 (j+m+1)=none
   simp [drP,Qf8 h m]
theorem Qfd {D:Nat->Option (Int×Nat)} {k0:Nat}:∀n l k,drP D k0 n=some (l,k)->l.length=n
 | 0,l,k,h=>by simp [drP] at h;rw [h.1];rfl
 | n+1,l,k,h=>by
   simp only [drP] at h
   cases e:drP D k0 n with
   | none=>rw [e] at h;simp at h
   | some p=>
     obtain ⟨l',k'⟩:=p;rw [e] at h;simp only at h
     cases e2:D k' with
     | none=>rw [e2] at h;simp at h
     | some p2=>
       rw [e2] at h;simp at h;rw [<- h.1,List.length_append,Qfd n l' k' e];rfl
theorem Q38 (w:World) (x:Value) (t:TypeId):∀j u,[x][j]? = some u->(w.alloc (.cells #[x] t)).cell? ((⟨w.heap.size,0,none⟩:Addr).add j)=some u:=by
 intro j u h
 match j,h with
 | 0,h=>
   have:x=u:=by simpa using h
   subst this;exact Qae w _ _ _ _ rfl
 | j+1,h=>simp at h
theorem Q39 (x:Int):∀u∈[Value.int .i64 x],u.oneCell'=true:=by simp [Value.oneCell']
theorem Own.snocZ {w:World} {base:Nat} {v:Value} {xs:List Int} {y:Int} (h:w.ownsRow base 3 1 v (xs.length+1) (xs.map (Value.int .i64)++[.int .i64 y])):Own w base v (xs++[y]):=by
 unfold Own;rw [List.length_append,List.map_append];exact h
theorem Chg.alloc {a b:World} {lo hi:Nat} (h:Chg a b lo hi) (o:Obj):Chg a (b.alloc o) lo hi:=h.trans (((Old.refl b).alloc o).toChg lo hi)
theorem Chg.refl (a:World) (lo hi:Nat):Chg a a lo hi:=(Old.refl a).toChg lo hi
theorem Chg.grown {a b c:World} {lo hi:Nat} {ob:Option Nat} (h:Chg a b lo hi) (g:b.grownBy c ob) (hk:∀k,ob=some k->a.heap.size<=k):Chg a c lo hi:=
 ⟨g.os.trans h.os,g.tape.trans h.tape,g.output.trans h.output,Nat.le_trans h.size g.size,fun b hb ho=>(g.block b (Nat.lt_of_lt_of_le hb h.size) (fun e=>by have:=hk b e.symm;omega)).trans (h.block b hb ho)⟩
theorem Sp.kept {w w':World} {q k:Nat} {v:Value} {ws:List Int} {ok:Bool} (h:Sp w q v ws k ok) (hs:w.heap.size<=w'.heap.size) (hk:∀b,b<=q->w'.heap[b]? = w.heap[b]?):Sp w' q v ws k ok:=by
 obtain ⟨h1,h2,h3,h4⟩:=h;refine ⟨h1,(hk q (Nat.le_refl _)).trans h2,?_,h4⟩;rcases h3 with h5 | ⟨b,o,cap,e,hb,h0,hc⟩
 ·exact Or.inl h5
 ·have:=h4 b o cap e h0;exact Or.inr ⟨b,o,cap,e,Nat.lt_of_lt_of_le hb hs,h0,fun i hi=>(World.cell?_of_block (hk b (by omega))).trans (hc i hi)⟩
theorem Sp.alloc {w:World} {q k:Nat} {v:Value} {ws:List Int} {ok:Bool} (h:Sp w q v ws k ok) (o:Obj):Sp (w.alloc o) q v ws k ok:=
 h.kept ((Old.refl w).alloc o).size (fun b hb=>((Old.refl w).alloc o).block b (Nat.lt_of_le_of_lt hb h.lt))
theorem Sp.grown {w w':World} {q k:Nat} {v:Value} {ws:List Int} {ok:Bool} {ob:Option Nat} (h:Sp w q v ws k ok) (g:w.grownBy w' ob) (hk:∀j,ob=some j->q<j):Sp w' q v ws k ok:=
 h.kept g.size (fun b hb=>g.block b (Nat.lt_of_le_of_lt hb h.lt) (fun e=>by have:=hk b e.symm;omega))
def DrM (D:Nat->Option (Int×Nat)) (ws:List Int) (w:World) (q:Nat) (v:Value) (k:Nat) (e:Ending) (w':World):Prop:=
 Chg w w' q (q+1)/\((∃x k',D k=some (x,k')/\e=.returned (.int .i64 x)/\Sp w' q v ws k' true)∨(D k=none/\(∃y,e=.returned (.int .i64 y))/\∃k',Sp w' q v ws k' false))
def RwM (R:Option (List Int×Nat)) (ws:List Int) (w:World) (q:Nat) (v:Value) (e:Ending) (w':World):Prop:=
 Chg w w' q (q+1)/\((∃l k v',R=some (l,k)/\e=.returned v'/\Own w' w.heap.size v' l/\Sp w' q v ws k true)∨(R=none/\(∃a m c,e=.returned (.slice a m c))/\∃k,Sp w' q v ws k false))
def LpM (D:Nat->Option (Int×Nat)) (ws:List Int) (w:World) (q:Nat) (v:Value) (k0 n0:Nat) (lv nv:Value) (W:World):Prop:=
 Chg w W q (q+1)/\∃j,j<=n0/\nv=.int .i64 ((n0:Int) - j)/\((∃l k a c,drP D k0 j=some (l,k)/\lv=.slice a j c/\Own W w.heap.size (.slice a j c) l/\Sp W q v ws k true)∨(drP D k0 n0=none/\(∃a m c cs,lv=.slice a m c/\m<=n0+1/\W.ownsRow w.heap.size 3 1 (.slice a m c) m cs)/\∃k,Sp W q v ws k false))
theorem Qnf {w:World} {base n:Nat} {v:Value} {cs:List Value} (h:w.ownsRow base 3 1 v n cs):∃a c,v=.slice a n c:=by
 rcases h.2 with ⟨h1,h2⟩ | ⟨g,cap,cur,h1,_⟩
 ·exact ⟨none,0,by rw [h1,h2]⟩
 ·exact ⟨_,cap,h1⟩
theorem Qf9 {w:World} {base n:Nat} {v:Value} {cs:List Value} (h:w.ownsRow base 3 1 v n cs) (o:Obj):(w.alloc o).ownsRow base 3 1 v n cs:=by
 refine ⟨h.1,?_⟩;rcases h.2 with hn | ⟨p,cap,cur,rfl,hb,hgg,rest⟩
 ·exact .inl hn
 ·refine .inr ⟨p,cap,cur,rfl,hb,?_,rest⟩;rw [((Old.refl w).alloc o).block p (Array.getElem?_eq_some_iff.1 hgg).1];exact hgg
theorem Qo8 (D:Nat->Option (Int×Nat)) (ws:List Int) (q k0 n0:Nat) (v:Value) (w:World) (hn:n0<=64) (h:Sp w q v ws k0 true)
 (hD:∀k W,Sp W q v ws k true->Calls Tryz.prog 53 #[.pointer (some ⟨q,0,none⟩)] W fun e w'=>DrM D ws W q v k e w') :
 Calls Tryz.prog 26 #[.pointer (some ⟨q,0,none⟩),.int .i64 n0] w fun e w'=>RwM (drP D k0 n0) ws w q v e w':=by
 obtain ⟨i0,hi,hz0,hz1,hz2⟩:=info_parts Tryz.infoInt;have HD:=Qaa hD;have HP:=Qaa h;have HQ:=Qaa h.lt;clear h hD;go_enter Tryz.func26,Tryz.ntmps26;go_wp2_with fail
 go_loopw [1,5] (fun nv lv W=>Hid (LpM D ws w q v k0 n0 lv nv W)) (fun nv _ _=>(intOf nv).toNat)
 case atStart=>exact ⟨Chg.refl _ _ _,0,by omega,by simp,Or.inl ⟨[],k0,none,0,rfl,rfl,⟨rfl,.inl ⟨rfl,rfl⟩⟩,HP.out⟩⟩
 case round=>
  obtain ⟨g,j,hj,rfl,⟨l,k,a,c,hr,rfl,ho,hs⟩ | ⟨hr,⟨a,m,c,cs,rfl,hm,ho⟩,k,hs⟩⟩:=hrel.out
  ·have HG:=Qaa g;have HR:=Qaa hr;have hl:=Qfd j l k hr;have HO:Hid (wr.ownsRow w.heap.size 3 1 (.slice a j c) j (l.map (Value.int .i64))):=by have:=ho;unfold Own at this;rw [hl] at this;exact this
   have HS:=Qaa hs;have c2:=hs.c2;have HL:=Qaa hl;clear hrel g hr ho hs hl
   by_cases hlt:j<n0
   ·obtain ⟨d,hd⟩:∃d,n0=j+1+d:=⟨n0 - j - 1,by omega⟩
    have HDD:=Qaa hd;have en:(n0:Int) - (j:Int)=((d+1:Nat):Int):=by omega
    have ld:d<=64:=by omega
    have lj:j<=64:=by omega
    rw [en];have dl:decide ((0:Int)<((d+1:Nat):Int))=true:=decide_eq_true (by omega);have es:((d+1:Nat):Int) - 1=(d:Int):=by omega
    clear en hd hlt hj;generalize d+1=d1 at *;go_wp2_with fail;refine (HD.out k wr HS.out).mono ?_
    rintro e w1 ⟨g1,t1⟩
    have HO1:Hid (w1.ownsRow w.heap.size 3 1 (.slice a j c) j (l.map (Value.int .i64))):=by
     have hx:Own wr w.heap.size (.slice a j c) l:=by unfold Own;rw [HL.out];exact HO.out
     have:=hx.chg g1 (fun p hp=>Or.inr (by have:=(hx.lt p hp).1;have:=HQ.out;omega));unfold Own at this;rw [HL.out] at this;exact this
    have HG1:=Qaa (HG.out.trans g1)
    obtain ⟨x,rfl,HX⟩:∃x,e=.returned (.int .i64 x)/\Hid ((∃k',D k=some (x,k')/\Sp w1 q v ws k' true)∨(D k=none/\∃k',Sp w1 q v ws k' false)):=by
     rcases t1 with ⟨x,k',h1,h2,h3⟩ | ⟨h1,⟨y,h2⟩,h3⟩
     ·exact ⟨x,h2,Or.inl ⟨k',h1,h3⟩⟩
     ·exact ⟨y,h2,Or.inr ⟨h1,h3⟩⟩
    have hz:=HG1.out.size;clear t1 g1 HS HO HG c2
    go_wp2_with (at_builtin;refine wpList_append_own _ rfl _ _ 22 rfl w.heap.size 3 i0 (.int .i64 0) 1 8 Tryz.underlying22 hi hz0 hz1 hz2 rfl (by decide) _ _ _ rfl (Qf9 HO1.out (.cells #[.int .i64 x] 3)) ⟨w1.heap.size,0,none⟩ 1 1 [.int .i64 x] rfl rfl (Q38 _ _ _) (Q39 _) (by unfold maxLen;omega) (by omega) (by simp;omega) ?_;intro v5 w5 o5 g5 x5;obtain ⟨a5,c5,rfl⟩:=Qnf o5;have HO5:=Qaa o5;have HG5:=Qaa ((HG1.out.alloc _).grown g5 (fun p hp=>(HO1.out.lt p hp).1));have HX5:Hid ((∃k',D k=some (x,k')/\Sp w5 q v ws k' true)∨(D k=none/\∃k',Sp w5 q v ws k' false)):=(by
     have hq:∀p,(Value.slice a j c).ownBlock=some p->q<p:=fun p hp=>by have:=(HO1.out.lt p hp).1;have:=HQ.out;omega
     rcases HX.out with ⟨k',h1,h2⟩ | ⟨h1,k',h2⟩
     ·exact Or.inl ⟨k',h1,(h2.alloc _).grown g5 hq⟩
     ·exact Or.inr ⟨h1,k',(h2.alloc _).grown g5 hq⟩);clear o5 g5 x5)
    refine ⟨⟨HG5.out,j+1,by have:=HDD.out;omega,by have:=HDD.out;congr 1;omega,?_⟩,by simp [intOf];omega⟩;rcases HX5.out with ⟨k',h1,h2⟩ | ⟨h1,k',h2⟩
    ·refine Or.inl ⟨l++[x],k',a5,c5,Qhg HR.out h1,rfl,?_,h2⟩;have:=HO5.out;rw [<- HL.out] at this;have h7:=Own.snocZ this;rw [HL.out] at h7;exact h7
    ·refine Or.inr ⟨?_,⟨a5,j+1,c5,_,rfl,by have:=HDD.out;omega,HO5.out⟩,k',h2⟩;rw [HDD.out];exact Qf8 (Qli HR.out h1) d
   ·obtain rfl:j=n0:=by omega
    have en:(j:Int) - (j:Int)=0:=by omega
    rw [en];go_wp2_with fail;go_ret;unfold RwM;exact ⟨HG.out,Or.inl ⟨l,k,_,HR.out,rfl,by unfold Own;rw [HL.out];exact HO.out,HS.out⟩⟩
  ·have HG:=Qaa g;have HR:=Qaa hr;have HS:=Qaa hs;have c2:=hs.c2;obtain ⟨d,hd⟩:∃d,(n0:Int) - (j:Int)=(d:Int):=⟨n0 - j,by omega⟩
   rw [hd];clear hrel g hr hs hd ho
   by_cases hlt:0<d
   ·go_wp2_with fail;go_ret;unfold RwM;exact ⟨HG.out,Or.inr ⟨HR.out,⟨_,_,_,rfl⟩,k,HS.out⟩⟩
   ·go_wp2_with fail;go_ret;unfold RwM;exact ⟨HG.out,Or.inr ⟨HR.out,⟨_,_,_,rfl⟩,k,HS.out⟩⟩
theorem Qwu (D:Nat->Option (Int×Nat)) (ws:List Int) (q k0 n0:Nat) (b:Nat) (v:Value) (w:World) (hn:n0<=64) (h:Sp w q v ws k0 true)
 (hD:∀k W,Sp W q v ws k true->Calls Tryz.prog 54 #[.pointer (some ⟨q,0,none⟩),.int .i64 b] W fun e w'=>DrM D ws W q v k e w') :
 Calls Tryz.prog 27 #[.pointer (some ⟨q,0,none⟩),.int .i64 b,.int .i64 n0] w fun e w'=>RwM (drP D k0 n0) ws w q v e w':=by
 obtain ⟨i0,hi,hz0,hz1,hz2⟩:=info_parts Tryz.infoInt;have HD:=Qaa hD;have HP:=Qaa h;have HQ:=Qaa h.lt;clear h hD;go_enter Tryz.func27,Tryz.ntmps27;go_wp2_with fail
 go_loopw [2,7] (fun nv lv W=>Hid (LpM D ws w q v k0 n0 lv nv W)) (fun nv _ _=>(intOf nv).toNat)
 case atStart=>exact ⟨Chg.refl _ _ _,0,by omega,by simp,Or.inl ⟨[],k0,none,0,rfl,rfl,⟨rfl,.inl ⟨rfl,rfl⟩⟩,HP.out⟩⟩
 case round=>
  obtain ⟨g,j,hj,rfl,⟨l,k,a,c,hr,rfl,ho,hs⟩ | ⟨hr,⟨a,m,c,cs,rfl,hm,ho⟩,k,hs⟩⟩:=hrel.out
  ·have HG:=Qaa g;have HR:=Qaa hr;have hl:=Qfd j l k hr;have HO:Hid (wr.ownsRow w.heap.size 3 1 (.slice a j c) j (l.map (Value.int .i64))):=by have:=ho;unfold Own at this;rw [hl] at this;exact this
   have HS:=Qaa hs;have c2:=hs.c2;have HL:=Qaa hl;clear hrel g hr ho hs hl
   by_cases hlt:j<n0
   ·obtain ⟨d,hd⟩:∃d,n0=j+1+d:=⟨n0 - j - 1,by omega⟩
    have HDD:=Qaa hd;have en:(n0:Int) - (j:Int)=((d+1:Nat):Int):=by omega
    have ld:d<=64:=by omega
    have lj:j<=64:=by omega
    rw [en];have dl:decide ((0:Int)<((d+1:Nat):Int))=true:=decide_eq_true (by omega);have es:((d+1:Nat):Int) - 1=(d:Int):=by omega
    clear en hd hlt hj;generalize d+1=d1 at *;go_wp2_with fail;refine (HD.out k wr HS.out).mono ?_
    rintro e w1 ⟨g1,t1⟩
    have HO1:Hid (w1.ownsRow w.heap.size 3 1 (.slice a j c) j (l.map (Value.int .i64))):=by
     have hx:Own wr w.heap.size (.slice a j c) l:=by unfold Own;rw [HL.out];exact HO.out
     have:=hx.chg g1 (fun p hp=>Or.inr (by have:=(hx.lt p hp).1;have:=HQ.out;omega));unfold Own at this;rw [HL.out] at this;exact this
    have HG1:=Qaa (HG.out.trans g1)
    obtain ⟨x,rfl,HX⟩:∃x,e=.returned (.int .i64 x)/\Hid ((∃k',D k=some (x,k')/\Sp w1 q v ws k' true)∨(D k=none/\∃k',Sp w1 q v ws k' false)):=by
     rcases t1 with ⟨x,k',h1,h2,h3⟩ | ⟨h1,⟨y,h2⟩,h3⟩
     ·exact ⟨x,h2,Or.inl ⟨k',h1,h3⟩⟩
     ·exact ⟨y,h2,Or.inr ⟨h1,h3⟩⟩
    have hz:=HG1.out.size;clear t1 g1 HS HO HG c2
    go_wp2_with (at_builtin;refine wpList_append_own _ rfl _ _ 22 rfl w.heap.size 3 i0 (.int .i64 0) 1 8 Tryz.underlying22 hi hz0 hz1 hz2 rfl (by decide) _ _ _ rfl (Qf9 HO1.out (.cells #[.int .i64 x] 3)) ⟨w1.heap.size,0,none⟩ 1 1 [.int .i64 x] rfl rfl (Q38 _ _ _) (Q39 _) (by unfold maxLen;omega) (by omega) (by simp;omega) ?_;intro v5 w5 o5 g5 x5;obtain ⟨a5,c5,rfl⟩:=Qnf o5;have HO5:=Qaa o5;have HG5:=Qaa ((HG1.out.alloc _).grown g5 (fun p hp=>(HO1.out.lt p hp).1));have HX5:Hid ((∃k',D k=some (x,k')/\Sp w5 q v ws k' true)∨(D k=none/\∃k',Sp w5 q v ws k' false)):=(by
     have hq:∀p,(Value.slice a j c).ownBlock=some p->q<p:=fun p hp=>by have:=(HO1.out.lt p hp).1;have:=HQ.out;omega
     rcases HX.out with ⟨k',h1,h2⟩ | ⟨h1,k',h2⟩
     ·exact Or.inl ⟨k',h1,(h2.alloc _).grown g5 hq⟩
     ·exact Or.inr ⟨h1,k',(h2.alloc _).grown g5 hq⟩);clear o5 g5 x5)
    refine ⟨⟨HG5.out,j+1,by have:=HDD.out;omega,by have:=HDD.out;congr 1;omega,?_⟩,by simp [intOf];omega⟩;rcases HX5.out with ⟨k',h1,h2⟩ | ⟨h1,k',h2⟩
    ·refine Or.inl ⟨l++[x],k',a5,c5,Qhg HR.out h1,rfl,?_,h2⟩;have:=HO5.out;rw [<- HL.out] at this;have h7:=Own.snocZ this;rw [HL.out] at h7;exact h7
    ·refine Or.inr ⟨?_,⟨a5,j+1,c5,_,rfl,by have:=HDD.out;omega,HO5.out⟩,k',h2⟩;rw [HDD.out];exact Qf8 (Qli HR.out h1) d
   ·obtain rfl:j=n0:=by omega
    have en:(j:Int) - (j:Int)=0:=by omega
    rw [en];go_wp2_with fail;go_ret;unfold RwM;exact ⟨HG.out,Or.inl ⟨l,k,_,HR.out,rfl,by unfold Own;rw [HL.out];exact HO.out,HS.out⟩⟩
  ·have HG:=Qaa g;have HR:=Qaa hr;have HS:=Qaa hs;have c2:=hs.c2;obtain ⟨d,hd⟩:∃d,(n0:Int) - (j:Int)=(d:Int):=⟨n0 - j,by omega⟩
   rw [hd];clear hrel g hr hs hd ho
   by_cases hlt:0<d
   ·go_wp2_with fail;go_ret;unfold RwM;exact ⟨HG.out,Or.inr ⟨HR.out,⟨_,_,_,rfl⟩,k,HS.out⟩⟩
   ·go_wp2_with fail;go_ret;unfold RwM;exact ⟨HG.out,Or.inr ⟨HR.out,⟨_,_,_,rfl⟩,k,HS.out⟩⟩
def DrP (D:Nat->Option (Int×Nat)) (ws:List Int) (w:World) (c k:Nat) (e:Ending) (w':World):Prop:=
 Chg w w' c (c+2)/\((∃x k',D k=some (x,k')/\e=.returned (.tuple #[.int .i64 x,.bool true])/\Pu w' c ws k')∨(D k=none/\∃y,e=.returned (.tuple #[.int .i64 y,.bool false])))
def RwP (R:Option (List Int×Nat)) (w:World) (c:Nat) (e:Ending) (w':World):Prop:=
 Chg w w' c (c+2)/\((∃l k v',R=some (l,k)/\e=.returned (.tuple #[v',.int .i64 (k:Nat),.bool true])/\Own w' w.heap.size v' l)∨(R=none/\e=.returned (.tuple #[.slice none 0 0,.int .i64 0,.bool false])))
def Qc6 (l:List Int) (n:Nat):List Int:=l++List.replicate (n - l.length) 0
theorem Qng (l:List Int) (n:Nat) (h:l.length<=n):(Qc6 l n).length=n:=by simp [Qc6];omega
theorem Qnh (l:List Int) (n:Nat) (x:Int) (h:l.length<n):(Qc6 l n).set l.length x=Qc6 (l++[x]) n:=by
 unfold Qc6;rw [show n - l.length=(n - (l++[x]).length)+1 by simp;omega,List.replicate_succ,List.set_append_right _ _ (Nat.le_refl _),Nat.sub_self,List.set_cons_zero,List.append_assoc];rfl
theorem Qni (l:List Int) (n:Nat) (h:l.length=n):Qc6 l n=l:=by simp [Qc6,h]
theorem Qit (D:Nat->Option (Int×Nat)) (ws:List Int) (c k0 n0 b:Nat) (w:World) (hn:n0<=64) (h:Pu w c ws k0)
 (hD:∀k W,Pu W c ws k->Calls Tryz.prog 125 #[.pointer (some ⟨c+1,0,none⟩),.int .i64 b] W fun e w'=>DrP D ws W c k e w') :
 Calls Tryz.prog 104 #[.pointer (some ⟨c+1,0,none⟩),.func (.func 125) #[] #[],.int .i64 b,.int .i64 n0] w fun e w'=>RwP (drP D k0 n0) w c e w':=by
 obtain ⟨i0,hi,hz0,hz1,hz2⟩:=info_parts Tryz.infoInt;have HD:=Qaa hD;have HP:=Qaa h;have HQ:=Qaa h.lt;clear h hD;go_enter Tryz.func104,Tryz.ntmps104;go_wp2_with (at_make;refine wpList_make_full _ rfl _ _ 22 rfl w.heap.size 3 i0 (.int .i64 0) 1 Tryz.underlying22 hi hz0 hz1 .i64 .i64 _ _ n0 rfl rfl rfl rfl (by rw [hz2];omega) (by unfold maxLen;omega) (Nat.le_refl _) ?_;intro w1 hown hgrow);rw [Qbk,show List.replicate n0 (0:Int)=Qc6 [] n0 by simp [Qc6]] at hown;have HO:=Qaa hown;have HG0:Hid (Old w w1):=Below.grown (Below.refl _ _) hgrow (Nat.le_refl _) (fun _ h=>by cases h);clear hown hgrow
 go_loopw [19] (fun i W=>∃j:Nat,j<=n0/\i=.int .i64 j/\Hid (Chg w W c (c+2))/\∃l k,Hid (drP D k0 j=some (l,k))/\Hid (W.ownsRow w.heap.size 3 1 (.slice (some ⟨w.heap.size,0,none⟩) n0 n0) n0 ((Qc6 l n0).map (Value.int .i64)))/\Hid (Pu W c ws k)) (fun i _=>n0 - (intOf i).toNat)
 case atStart=>exact ⟨0,by omega,rfl,HG0.out.toChg _ _,[],k0,rfl,HO,HP.out.old HG0.out⟩
 case round=>
  obtain ⟨j,hj,rfl,HG,l,k,HR,HO1,HP1⟩:=hrel;clear HO HG0 HP;have HL:=Qaa (Qfd j l k HR.out)
  by_cases hlt:j<n0
  ·go_wp2_with fail;refine (HD.out k wr HP1.out).mono ?_
   rintro e w1 ⟨g1,⟨x,k',h1,rfl,h3⟩ | ⟨h1,y,rfl⟩⟩
   ·have HR1:=Qaa (Qhg HR.out h1);have HG1:=Qaa (HG.out.trans g1);have zl:=Qng l n0 (by rw [HL.out];omega)
    have HO2:Hid (w1.ownsRow w.heap.size 3 1 (.slice (some ⟨w.heap.size,0,none⟩) n0 n0) n0 ((Qc6 l n0).map (Value.int .i64))):=by
     have hx:Own wr w.heap.size (.slice (some ⟨w.heap.size,0,none⟩) n0 n0) (Qc6 l n0):=by unfold Own;rw [zl];exact HO1.out
     have:=hx.chg g1 (fun p hp=>Or.inr (by have:=(hx.lt p hp).1;have:=HQ.out;omega));unfold Own at this;rw [zl] at this;exact this
    have HP2:=Qaa h3
    have c2:w1.cell? ⟨w.heap.size,j,none⟩=some (.int .i64 ((Qc6 l n0).getD j 0)):=by
     rw [World.ownsRow.cellAt HO2.out j (by omega)];simp [List.getD,zl,hlt]
    have c3:=World.ownsRow.frozenAt HO2.out j
    have HS:Hid ((w1.setCell ⟨w.heap.size,j,none⟩ (.int .i64 x)).ownsRow w.heap.size 3 1 (.slice (some ⟨w.heap.size,0,none⟩) n0 n0) n0 ((Qc6 (l++[x]) n0).map (Value.int .i64))):=by
     have:=(World.ownsRow.stored HO2.out j (.int .i64 x)).1;rw [<- List.map_set,<- HL.out,Qnh l n0 x (by rw [HL.out];exact hlt)] at this;rw [HL.out] at this;exact this
    have HC2:Hid (Chg w (w1.setCell ⟨w.heap.size,j,none⟩ (.int .i64 x)) c (c+2)):=
     ⟨HG1.out.os,HG1.out.tape,HG1.out.output,by rw [World.size_setCell];exact HG1.out.size,fun p hp ho=>(heap_setCell_other w1 ⟨w.heap.size,j,none⟩ p _ (by show p≠w.heap.size;omega)).trans (HG1.out.block p hp ho)⟩
    have HP3:Hid (Pu (w1.setCell ⟨w.heap.size,j,none⟩ (.int .i64 x)) c ws k'):=HP2.out.chg (Qc5 _ _ _ _) (Or.inl (by have:=HQ.out;omega));generalize (Qc6 l n0).getD j 0=y at c2;clear g1 h3 HO1 HO2 HG HP1 HP2 zl h1 HG1 HR;go_wp2_with fail;exact ⟨⟨j+1,by omega,by go_num,HC2,l++[x],k',HR1,HS,HP3⟩,by simp [intOf];omega⟩
   ·have HR1:Hid (drP D k0 n0=none):=by
     have:=Qf8 (Qli HR.out h1) (n0 - (j+1));rw [show j+1+(n0 - (j+1))=n0 by omega] at this;exact this
    have HG1:=Qaa (HG.out.trans g1);clear g1 HO1 HG HP1 h1 HR;go_wp2_with fail
    go_ret3
    unfold RwP;exact ⟨HG1.out,Or.inr ⟨HR1.out,rfl⟩⟩
  ·have dl:decide ((j:Int)<(n0:Int))=false:=by simp;omega
   obtain rfl:j=n0:=by omega
   have HF:Hid (Own wr w.heap.size (.slice (some ⟨w.heap.size,0,none⟩) j j) l):=by
    have:=HO1.out;rw [Qni l j HL.out] at this;unfold Own;rw [HL.out];exact this
   have c1:wr.cell? ⟨c+1,1,none⟩=some (.int .i64 (k:Int)):=by rw [cell_of_row _ _ _ _ _ _ HP1.out.cells];rfl
   clear HO1 HP1;go_wp2_with fail
   go_quiet (fail)
   go_wp2_with fail
   go_ret3
   unfold RwP;exact ⟨HG.out.trans (Qf6 _ _ _ _),Or.inl ⟨l,k,_,HR.out,rfl,HF.out.old ((Old.refl _).drewN _)⟩⟩
theorem Qlj (D:Nat->Option (Int×Nat)) (ws:List Int) (c k0 n0 b:Nat) (w:World) (hn:n0<=64) (h:Pu w c ws k0)
 (hD:∀k W,Pu W c ws k->Calls Tryz.prog 106 #[.pointer (some ⟨c+1,0,none⟩),.int .i64 b] W fun e w'=>DrP D ws W c k e w') :
 Calls Tryz.prog 104 #[.pointer (some ⟨c+1,0,none⟩),.func (.func 106) #[] #[],.int .i64 b,.int .i64 n0] w fun e w'=>RwP (drP D k0 n0) w c e w':=by
 obtain ⟨i0,hi,hz0,hz1,hz2⟩:=info_parts Tryz.infoInt;have HD:=Qaa hD;have HP:=Qaa h;have HQ:=Qaa h.lt;clear h hD;go_enter Tryz.func104,Tryz.ntmps104;go_wp2_with (at_make;refine wpList_make_full _ rfl _ _ 22 rfl w.heap.size 3 i0 (.int .i64 0) 1 Tryz.underlying22 hi hz0 hz1 .i64 .i64 _ _ n0 rfl rfl rfl rfl (by rw [hz2];omega) (by unfold maxLen;omega) (Nat.le_refl _) ?_;intro w1 hown hgrow);rw [Qbk,show List.replicate n0 (0:Int)=Qc6 [] n0 by simp [Qc6]] at hown;have HO:=Qaa hown;have HG0:Hid (Old w w1):=Below.grown (Below.refl _ _) hgrow (Nat.le_refl _) (fun _ h=>by cases h);clear hown hgrow
 go_loopw [19] (fun i W=>∃j:Nat,j<=n0/\i=.int .i64 j/\Hid (Chg w W c (c+2))/\∃l k,Hid (drP D k0 j=some (l,k))/\Hid (W.ownsRow w.heap.size 3 1 (.slice (some ⟨w.heap.size,0,none⟩) n0 n0) n0 ((Qc6 l n0).map (Value.int .i64)))/\Hid (Pu W c ws k)) (fun i _=>n0 - (intOf i).toNat)
 case atStart=>exact ⟨0,by omega,rfl,HG0.out.toChg _ _,[],k0,rfl,HO,HP.out.old HG0.out⟩
 case round=>
  obtain ⟨j,hj,rfl,HG,l,k,HR,HO1,HP1⟩:=hrel;clear HO HG0 HP;have HL:=Qaa (Qfd j l k HR.out)
  by_cases hlt:j<n0
  ·go_wp2_with fail;refine (HD.out k wr HP1.out).mono ?_
   rintro e w1 ⟨g1,⟨x,k',h1,rfl,h3⟩ | ⟨h1,y,rfl⟩⟩
   ·have HR1:=Qaa (Qhg HR.out h1);have HG1:=Qaa (HG.out.trans g1);have zl:=Qng l n0 (by rw [HL.out];omega)
    have HO2:Hid (w1.ownsRow w.heap.size 3 1 (.slice (some ⟨w.heap.size,0,none⟩) n0 n0) n0 ((Qc6 l n0).map (Value.int .i64))):=by
     have hx:Own wr w.heap.size (.slice (some ⟨w.heap.size,0,none⟩) n0 n0) (Qc6 l n0):=by unfold Own;rw [zl];exact HO1.out
     have:=hx.chg g1 (fun p hp=>Or.inr (by have:=(hx.lt p hp).1;have:=HQ.out;omega));unfold Own at this;rw [zl] at this;exact this
    have HP2:=Qaa h3
    have c2:w1.cell? ⟨w.heap.size,j,none⟩=some (.int .i64 ((Qc6 l n0).getD j 0)):=by
     rw [World.ownsRow.cellAt HO2.out j (by omega)];simp [List.getD,zl,hlt]
    have c3:=World.ownsRow.frozenAt HO2.out j
    have HS:Hid ((w1.setCell ⟨w.heap.size,j,none⟩ (.int .i64 x)).ownsRow w.heap.size 3 1 (.slice (some ⟨w.heap.size,0,none⟩) n0 n0) n0 ((Qc6 (l++[x]) n0).map (Value.int .i64))):=by
     have:=(World.ownsRow.stored HO2.out j (.int .i64 x)).1;rw [<- List.map_set,<- HL.out,Qnh l n0 x (by rw [HL.out];exact hlt)] at this;rw [HL.out] at this;exact this
    have HC2:Hid (Chg w (w1.setCell ⟨w.heap.size,j,none⟩ (.int .i64 x)) c (c+2)):=
     ⟨HG1.out.os,HG1.out.tape,HG1.out.output,by rw [World.size_setCell];exact HG1.out.size,fun p hp ho=>(heap_setCell_other w1 ⟨w.heap.size,j,none⟩ p _ (by show p≠w.heap.size;omega)).trans (HG1.out.block p hp ho)⟩
    have HP3:Hid (Pu (w1.setCell ⟨w.heap.size,j,none⟩ (.int .i64 x)) c ws k'):=HP2.out.chg (Qc5 _ _ _ _) (Or.inl (by have:=HQ.out;omega));generalize (Qc6 l n0).getD j 0=y at c2;clear g1 h3 HO1 HO2 HG HP1 HP2 zl h1 HG1 HR;go_wp2_with fail;exact ⟨⟨j+1,by omega,by go_num,HC2,l++[x],k',HR1,HS,HP3⟩,by simp [intOf];omega⟩
   ·have HR1:Hid (drP D k0 n0=none):=by
     have:=Qf8 (Qli HR.out h1) (n0 - (j+1));rw [show j+1+(n0 - (j+1))=n0 by omega] at this;exact this
    have HG1:=Qaa (HG.out.trans g1);clear g1 HO1 HG HP1 h1 HR;go_wp2_with fail
    go_ret3
    unfold RwP;exact ⟨HG1.out,Or.inr ⟨HR1.out,rfl⟩⟩
  ·have dl:decide ((j:Int)<(n0:Int))=false:=by simp;omega
   obtain rfl:j=n0:=by omega
   have HF:Hid (Own wr w.heap.size (.slice (some ⟨w.heap.size,0,none⟩) j j) l):=by
    have:=HO1.out;rw [Qni l j HL.out] at this;unfold Own;rw [HL.out];exact this
   have c1:wr.cell? ⟨c+1,1,none⟩=some (.int .i64 (k:Int)):=by rw [cell_of_row _ _ _ _ _ _ HP1.out.cells];rfl
   clear HO1 HP1;go_wp2_with fail
   go_quiet (fail)
   go_wp2_with fail
   go_ret3
   unfold RwP;exact ⟨HG.out.trans (Qf6 _ _ _ _),Or.inl ⟨l,k,_,HR.out,rfl,HF.out.old ((Old.refl _).drewN _)⟩⟩
def nx (ws:List Int) (M:Nat):Nat->Nat->Nat
 | 0,k=>k
 | f+1,k=>if ws.getD k 0<(M:Int) then k else nx ws M f (k+1)
theorem Qur (ws:List Int) (M:Nat):∀f k,k+f=ws.length->Stp ws M k (nx ws M f k)
 | 0,k,h=>⟨Nat.le_refl _,by show k<=_;omega,fun i hi hj=>by have:i<k:=hj;omega,fun hk=>by have:k<ws.length:=hk;omega⟩
 | f+1,k,h=>by
   by_cases hx:ws.getD k 0<(M:Int)
   ·rw [nx,if_pos hx];exact ⟨Nat.le_refl _,by omega,fun i hi hj=>by omega,fun _=>hx⟩
   ·rw [nx,if_neg hx];obtain ⟨h1,h2,h3,h4⟩:=Qur ws M f (k+1) (by omega);refine ⟨by omega,h2,fun i hi hj=>?_,h4⟩;rcases Nat.eq_or_lt_of_le hi with e | e
    ·subst e;omega
    ·exact h3 i e hj
def uD (ws:List Int) (p k:Nat):Option (Int×Nat):=
 if nx ws (Qlu p) (ws.length - k) k<ws.length then some (ws.getD (nx ws (Qlu p) (ws.length - k) k) 0%(p:Int),nx ws (Qlu p) (ws.length - k) k+1) else none
def nD (ws:List Int) (b k:Nat):Option (Int×Nat):=if k<ws.length then some (nz (ws.getD k 0).toNat b,k+1) else none
theorem Qro (ws:List Int) (c p:Nat) (hw:wdB ws=true) (hl:ws.length<=4000) (hp:2<=p/\p<=268435456) (k:Nat) (W:World) (h:Pu W c ws k) :
 Calls Tryz.prog 125 #[.pointer (some ⟨c+1,0,none⟩),.int .i64 p] W fun e w'=>DrP (uD ws p) ws W c k e w':=by
 have hs:=Qur ws (Qlu p) (ws.length - k) k (by have:=h.le;omega);refine (Quj ws c k p _ W hw hl h hp hs).mono ?_
 rintro e w' ⟨g,⟨h1,h2,h3⟩ | ⟨h1,h2⟩⟩
 ·exact ⟨g,Or.inl ⟨_,_,by unfold uD;rw [if_pos h1],h2,h3⟩⟩
 ·exact ⟨g,Or.inr ⟨by unfold uD;rw [if_neg (by omega)],_,h2⟩⟩
theorem Qwv (ws:List Int) (c b:Nat) (hw:wdB ws=true) (hl:ws.length<=4000) (hb:1<=b/\b<=16) (k:Nat) (W:World) (h:Pu W c ws k) :
 Calls Tryz.prog 106 #[.pointer (some ⟨c+1,0,none⟩),.int .i64 b] W fun e w'=>DrP (nD ws b) ws W c k e w':=by
 refine (Q0y ws c k b W hw hl h hb).mono ?_
 rintro e w' ⟨g,⟨h1,h2,h3⟩ | ⟨h1,y,h2⟩⟩
 ·exact ⟨g,Or.inl ⟨_,_,by unfold nD;rw [if_pos h1],h2,h3⟩⟩
 ·exact ⟨g,Or.inr ⟨by unfold nD;rw [if_neg (by omega)],_,h2⟩⟩
theorem Qrp (ws:List Int) (q p:Nat) (v:Value) (hw:wdB ws=true) (hl:ws.length<=4000) (hp:2<=p/\p<=268435456) (k:Nat) (W:World) (h:Sp W q v ws k true) :
 Calls Tryz.prog 84 #[.pointer (some ⟨q,0,none⟩),.int .i64 p] W fun e w'=>DrM (uD ws p) ws W q v k e w':=by
 have hs:=Qur ws (Qlu p) (ws.length - k) k (by have:=h.le;omega);refine (Qun ws q k p _ v W hw hl h hp hs).mono ?_
 rintro e w' ⟨g,⟨h1,h2,h3⟩ | ⟨h1,h2,h3⟩⟩
 ·exact ⟨g,Or.inl ⟨_,_,by unfold uD;rw [if_pos h1],h2,h3⟩⟩
 ·exact ⟨g,Or.inr ⟨by unfold uD;rw [if_neg (by omega)],⟨_,h2⟩,_,h3⟩⟩
theorem Qww (ws:List Int) (q b:Nat) (v:Value) (hw:wdB ws=true) (hl:ws.length<=4000) (hb:1<=b/\b<=16) (k:Nat) (W:World) (h:Sp W q v ws k true) :
 Calls Tryz.prog 54 #[.pointer (some ⟨q,0,none⟩),.int .i64 b] W fun e w'=>DrM (nD ws b) ws W q v k e w':=by
 refine (Q0z ws q k b v W hw hl h hb).mono ?_
 rintro e w' ⟨g,⟨h1,h2,h3⟩ | ⟨h1,h2,h3⟩⟩
 ·exact ⟨g,Or.inl ⟨_,_,by unfold nD;rw [if_pos h1],h2,h3⟩⟩
 ·exact ⟨g,Or.inr ⟨by unfold nD;rw [if_neg (by omega)],h2,_,h3⟩⟩
def aL:Option (List Int×Nat)->List Int
 | some (l,_)=>l
 | none=>[]
def aK:Option (List Int×Nat)->Int
 | some (_,k)=>k
 | none=>0
def Qga (A:Option (List Int×Nat)) (W:World) (e:Ending) (w':World):Prop:=
 ∃v',e=.returned (.tuple #[v',.int .i64 (aK A),.bool A.isSome])/\Old W w'/\Own w' W.heap.size v' (aL A)
theorem Qeo (W:World):Qga none W (.returned (.tuple #[.slice none 0 0,.int .i64 0,.bool false])) W:=⟨_,rfl,Old.refl W,rfl,.inl ⟨rfl,rfl⟩⟩
def Qo9 (ws:List Int) (at_ n:Int):Bool:=wsB ws&&inQ at_ 0 ws.length&&inQ n 0 64
theorem Qlk {ws:List Int} {at_ n:Int} (h:Qo9 ws at_ n=true):wdB ws=true/\ws.length<=4000/\(0<=at_/\at_<=ws.length)/\(0<=n/\n<=64):=by
 simp only [Qo9,wsB,inQ,Bool.and_eq_true,decide_eq_true_eq] at h;exact ⟨h.1.1.2,h.1.1.1,h.1.2,h.2⟩
def Qrq (ws:List Int) (at_ p n:Int):Option (List Int×Nat):=if Qo9 ws at_ n&&Qhq p then drP (uD ws p.toNat) at_.toNat n.toNat else none
def Qwx (ws:List Int) (at_ b n:Int):Option (List Int×Nat):=if Qo9 ws at_ n&&inQ b 1 16 then drP (nD ws b.toNat) at_.toNat n.toNat else none
theorem Qiu {R:Option (List Int×Nat)} {W w1 w2:World} {e:Ending} (g:Old W w1) (h:RwP R w1 W.heap.size e w2):Qga R W e w2:=by
 obtain ⟨c,⟨l,k,v',rfl,rfl,ho⟩ | ⟨rfl,rfl⟩⟩:=h
 ·exact ⟨v',rfl,g.chg c (Nat.le_refl _),ho.low g.size⟩
 ·exact ⟨_,rfl,g.chg c (Nat.le_refl _),rfl,.inl ⟨rfl,rfl⟩⟩
theorem Qiv (ws:List Int) (v:Value) (at_ p n:Int) (w:World) (h:Row w v ws) (hf:Q0u v) (hl:ws.length<=9223372036854775807) :
 Calls Tryz.prog 101 #[v,.int .i64 at_,.int .i64 p,.int .i64 n] w fun e w'=>Qga (Qrq ws at_ p n) w e w':=by
 have K1:=fun W (e:W=w)=>(by subst e;exact Qir ws v at_ n _ h hl:Calls Tryz.prog 103 #[v,.int .i64 at_,.int .i64 n] W fun e w'=>e=.returned (.bool (Qo9 ws at_ n))/\w'=W)
 have K2:=fun W=>Qb3 p W
 obtain ⟨a,cap,rfl⟩:=h.slice;unfold Qrq
 cases hm:Qo9 ws at_ n
 ·rw [hm] at K1;clear h hf K2 hm;go_enter Tryz.func101,Tryz.ntmps101;go_wp2_with fail;refine (K1 _ rfl).mono ?_
  rintro e w' ⟨rfl,hw⟩;obtain rfl:=hw.symm;go_wp2_with fail
  go_ret3
  exact Qeo _
 ·rw [hm] at K1
  cases hp:Qhq p
  ·rw [hp] at K2;clear h hf hm hp;go_enter Tryz.func101,Tryz.ntmps101;go_wp2_with fail;refine (K1 _ rfl).mono ?_
   rintro e w' ⟨rfl,hw⟩;obtain rfl:=hw.symm;go_wp2_with fail;refine (K2 _).mono ?_
   rintro e w' ⟨rfl,hw⟩;obtain rfl:=hw.symm;go_wp2_with fail
   go_ret3
   exact Qeo _
  ·rw [hp] at K2;obtain ⟨h1,h2,⟨h3,h4⟩,h5,h6⟩:=Qlk hm;obtain ⟨h7,h8⟩:=Qbq hp;obtain ⟨A,rfl⟩:=Int.eq_ofNat_of_zero_le h3;obtain ⟨P,rfl⟩:=Int.eq_ofNat_of_zero_le (show 0≤p by omega);obtain ⟨N,rfl⟩:=Int.eq_ofNat_of_zero_le h5;have K3:Hid (∀W,W=w→Calls Tryz.prog 105 #[.slice a ws.length cap,.int .i64 A] W fun e w'=>e=.returned (.pointer (some ⟨W.heap.size+1,0,none⟩))∧Old W w'∧Pu w' W.heap.size ws A):=fun W e=>by subst e;exact Qiq ws _ A _ h hf h2 (by omega)
   have K4:=
    Qaa (fun c W hP=>Qit (uD ws P) ws c A N P W (by omega) hP (Qro ws c P h1 h2 (by omega)))
   clear h hf hm hp h1 h2 h3 h4 h5 h6 h7 h8 hl;go_enter Tryz.func101,Tryz.ntmps101;go_wp2_with fail;refine (K1 _ rfl).mono ?_
   rintro e w' ⟨rfl,hw⟩;obtain rfl:=hw.symm;go_wp2_with fail;refine (K2 _).mono ?_
   rintro e w' ⟨rfl,hw⟩;obtain rfl:=hw.symm;go_wp2_with fail;refine (K3.out _ rfl).mono ?_
   rintro e w1 ⟨rfl,g1,p1⟩;have HG:=Qaa g1;have HP:=Qaa p1;clear g1 p1;go_wp2_with fail;refine (K4.out _ _ HP.out).mono ?_
   intro e w2 hr;have hA:=Qiu HG.out hr
   obtain ⟨v',rfl,HA⟩:∃v',e=.returned (.tuple #[v',.int .i64 (aK (drP (uD ws P) A N)),.bool (drP (uD ws P) A N).isSome])/\Hid (Old w w2/\Own w2 w.heap.size v' (aL (drP (uD ws P) A N))):=by
    obtain ⟨v',h1,h2⟩:=hA;exact ⟨v',h1,h2⟩
   clear hr hA;go_wp2_with fail
   go_ret3
   exact ⟨v',rfl,HA.out.1,HA.out.2⟩
theorem Qwy (b:Int) (w:World):Calls Tryz.prog 92 #[.int .i64 b] w fun e w'=>e=.returned (.bool (inQ b 1 16))/\w'=w:=by
 unfold inQ
 cases h:decide (1<=b)
 ·go_enter Tryz.func92,Tryz.ntmps92;go_wp2_with fail;go_ret;exact ⟨by simp,rfl⟩
 ·go_enter Tryz.func92,Tryz.ntmps92;go_wp2_with fail;go_ret;exact ⟨by simp,rfl⟩
theorem Qgb (ws:List Int) (v:Value) (at_ p n:Int) (w:World) (h:Row w v ws) (hf:Q0u v) (hl:ws.length<=9223372036854775807) :
 Calls Tryz.prog 66 #[v,.int .i64 at_,.int .i64 p,.int .i64 n] w fun e w'=>Qga (Qwx ws at_ p n) w e w':=by
 have K1:=fun W (e:W=w)=>(by subst e;exact Qir ws v at_ n _ h hl:Calls Tryz.prog 103 #[v,.int .i64 at_,.int .i64 n] W fun e w'=>e=.returned (.bool (Qo9 ws at_ n))/\w'=W)
 have K2:=fun W=>Qwy p W
 obtain ⟨a,cap,rfl⟩:=h.slice;unfold Qwx
 cases hm:Qo9 ws at_ n
 ·rw [hm] at K1;clear h hf K2 hm;go_enter Tryz.func66,Tryz.ntmps66;go_wp2_with fail;refine (K1 _ rfl).mono ?_
  rintro e w' ⟨rfl,hw⟩;obtain rfl:=hw.symm;go_wp2_with fail
  go_ret3
  exact Qeo _
 ·rw [hm] at K1
  cases hp:inQ p 1 16
  ·rw [hp] at K2;clear h hf hm hp;go_enter Tryz.func66,Tryz.ntmps66;go_wp2_with fail;refine (K1 _ rfl).mono ?_
   rintro e w' ⟨rfl,hw⟩;obtain rfl:=hw.symm;go_wp2_with fail;refine (K2 _).mono ?_
   rintro e w' ⟨rfl,hw⟩;obtain rfl:=hw.symm;go_wp2_with fail
   go_ret3
   exact Qeo _
  ·rw [hp] at K2;obtain ⟨h1,h2,⟨h3,h4⟩,h5,h6⟩:=Qlk hm;have h78:1≤p∧p≤16:=by simpa [inQ] using hp
   obtain ⟨h7,h8⟩:=h78;obtain ⟨A,rfl⟩:=Int.eq_ofNat_of_zero_le h3;obtain ⟨P,rfl⟩:=Int.eq_ofNat_of_zero_le (show 0<=p by omega);obtain ⟨N,rfl⟩:=Int.eq_ofNat_of_zero_le h5;have K3:Hid (∀W,W=w->Calls Tryz.prog 105 #[.slice a ws.length cap,.int .i64 A] W fun e w'=>e=.returned (.pointer (some ⟨W.heap.size+1,0,none⟩))/\Old W w'/\Pu w' W.heap.size ws A):=fun W e=>by subst e;exact Qiq ws _ A _ h hf h2 (by omega)
   have K4:=
    Qaa (fun c W hP=>Qlj (nD ws P) ws c A N P W (by omega) hP (Qwv ws c P h1 h2 (by omega)))
   clear h hf hm hp h1 h2 h3 h4 h5 h6 h7 h8 hl;go_enter Tryz.func66,Tryz.ntmps66;go_wp2_with fail;refine (K1 _ rfl).mono ?_
   rintro e w' ⟨rfl,hw⟩;obtain rfl:=hw.symm;go_wp2_with fail;refine (K2 _).mono ?_
   rintro e w' ⟨rfl,hw⟩;obtain rfl:=hw.symm;go_wp2_with fail;refine (K3.out _ rfl).mono ?_
   rintro e w1 ⟨rfl,g1,p1⟩;have HG:=Qaa g1;have HP:=Qaa p1;clear g1 p1;go_wp2_with fail;refine (K4.out _ _ HP.out).mono ?_
   intro e w2 hr;have hA:=Qiu HG.out hr
   obtain ⟨v',rfl,HA⟩:∃v',e=.returned (.tuple #[v',.int .i64 (aK (drP (nD ws P) A N)),.bool (drP (nD ws P) A N).isSome])/\Hid (Old w w2/\Own w2 w.heap.size v' (aL (drP (nD ws P) A N))):=by
    obtain ⟨v',h1,h2⟩:=hA;exact ⟨v',h1,h2⟩
   clear hr hA;go_wp2_with fail
   go_ret3
   exact ⟨v',rfl,HA.out.1,HA.out.2⟩
def Qkb (x:Int):Int:=if x=2 then -1 else x
def tD (ws:List Int) (k:Nat):Option (Int×Nat):=match uD ws 3 k with
 | none=>none
 | some (x,k')=>some (Qkb x,k')
theorem Qus (ws:List Int) (k0:Nat):∀n,drP (tD ws) k0 n=match drP (uD ws 3) k0 n with
  | none=>none
  | some (l,k)=>some (l.map Qkb,k)
 | 0=>rfl
 | n+1=>by
   simp only [drP];rw [Qus ws k0 n]
   cases h:drP (uD ws 3) k0 n with
   | none=>rfl
   | some p=>
     obtain ⟨l,k⟩:=p;simp only [tD]
     cases h2:uD ws 3 k with
     | none=>rfl
     | some p2=>
       obtain ⟨x,k'⟩:=p2;simp
theorem Qx9 {ws:List Int} {k0 p:Nat} (hp:0<p):∀n l k,drP (uD ws p) k0 n=some (l,k)->∀x∈l,0<=x/\x<p
 | 0,l,k,h,x,hx=>by simp [drP] at h;rw [h.1] at hx;simp at hx
 | n+1,l,k,h,x,hx=>by
   simp only [drP] at h
   cases e:drP (uD ws p) k0 n with
   | none=>rw [e] at h;simp at h
   | some q=>
     obtain ⟨l',k'⟩:=q;rw [e] at h;simp only at h
     cases e2:uD ws p k' with
     | none=>rw [e2] at h;simp at h
     | some q2=>
       obtain ⟨y,k2⟩:=q2;rw [e2] at h;simp only [Option.some.injEq,Prod.mk.injEq] at h;rw [<- h.1] at hx;rcases List.mem_append.1 hx with h3 | h3
       ·exact Qx9 hp n l' k' e x h3
       ·rw [List.mem_singleton] at h3;subst h3;unfold uD at e2;split at e2
        ·simp only [Option.some.injEq,Prod.mk.injEq] at e2;rw [<- e2.1];exact ⟨Int.emod_nonneg _ (by omega),Int.emod_lt_of_pos _ (by omega)⟩
        ·cases e2
def Qnt (ws:List Int) (at_ n:Int):Option (List Int×Nat):=if Qo9 ws at_ n then drP (tD ws) at_.toNat n.toNat else none
theorem Q2q (ws:List Int) (at_ n:Int):Qrq ws at_ 3 n=if Qo9 ws at_ n then drP (uD ws 3) at_.toNat n.toNat else none:=by
 unfold Qrq;rw [show Qhq 3=true by rfl,Bool.and_true];rfl
theorem Q00 (ws:List Int) (at_ n:Int):aK (Qnt ws at_ n)=aK (Qrq ws at_ 3 n)/\(Qnt ws at_ n).isSome=(Qrq ws at_ 3 n).isSome/\aL (Qnt ws at_ n)=(aL (Qrq ws at_ 3 n)).map Qkb:=by
 rw [Q2q];unfold Qnt
 cases Qo9 ws at_ n
 ·exact ⟨rfl,rfl,rfl⟩
 ·simp only [if_true];rw [Qus]
  cases drP (uD ws 3) at_.toNat n.toNat with
  | none=>exact ⟨rfl,rfl,rfl⟩
  | some p=>exact ⟨rfl,rfl,rfl⟩
theorem Qwz (ws:List Int) (at_ n:Int):(∀x∈aL (Qrq ws at_ 3 n),0<=x/\x<3)/\(aL (Qrq ws at_ 3 n)).length<=64:=by
 rw [Q2q]
 cases hm:Qo9 ws at_ n
 ·exact ⟨fun x hx=>by simp [aL] at hx,by simp [aL]⟩
 ·simp only [if_true];obtain ⟨_,_,_,h5,h6⟩:=Qlk hm
  cases h:drP (uD ws 3) at_.toNat n.toNat with
  | none=>exact ⟨fun x hx=>by simp [aL] at hx,by simp [aL]⟩
  | some p=>
    obtain ⟨l,k⟩:=p;refine ⟨Qx9 (p:=3) (by omega) _ l k h,?_⟩
    show l.length<=64
    rw [Qfd _ l k h];omega
theorem Qw0 (x:Int) (h:0<=x/\x<3) (w:World):Calls Tryz.prog 102 #[.int .i64 x,.int .i64 3] w fun e w'=>e=.returned (.int .i64 (Qkb x))/\w'=w:=by
 obtain ⟨h1,h2⟩:=h;obtain rfl | rfl | rfl:x=0∨x=1∨x=2:=by omega
 all_goals
  go_enter Tryz.func102,Tryz.ntmps102;go_wp2_with fail;go_ret;exact ⟨rfl,rfl⟩
def Qrx (zs:List Int) (j:Nat):List Int:=(zs.take j).map Qkb++zs.drop j
theorem Qw1 (zs:List Int) (j:Nat):(Qrx zs j).length=zs.length:=by simp [Qrx];omega
theorem Qw2 (zs:List Int) (j:Nat) (h:j<zs.length):(Qrx zs j).set j (Qkb (zs.getD j 0))=Qrx zs (j+1):=by
 unfold Qrx;have hl:((zs.take j).map Qkb).length=j:=by simp;omega
 rw [List.set_append_right _ _ (by rw [hl];exact Nat.le_refl _),hl,Nat.sub_self,List.drop_eq_getElem_cons h,List.set_cons_zero,Qdj zs j h,List.map_append,List.append_assoc];rfl
theorem Qw3 (zs:List Int) (j:Nat) (h:j<zs.length):(Qrx zs j).getD j 0=zs.getD j 0:=by
 unfold Qrx;have hl:((zs.take j).map Qkb).length=j:=by simp;omega
 rw [List.getD_eq_getElem?_getD,List.getElem?_append_right (by rw [hl];exact Nat.le_refl _),hl,Nat.sub_self];simp [List.getD,h]
theorem Qw4 (zs:List Int):Qrx zs zs.length=zs.map Qkb:=by simp [Qrx]
theorem Qiw (ws:List Int) (v:Value) (at_ n:Int) (w:World) (h:Row w v ws) (hf:Q0u v) (hl:ws.length<=9223372036854775807) :
 Calls Tryz.prog 65 #[v,.int .i64 at_,.int .i64 n] w fun e w'=>Qga (Qnt ws at_ n) w e w':=by
 have K1:Hid (∀W,W=w->Calls Tryz.prog 101 #[v,.int .i64 at_,.int .i64 3,.int .i64 n] W fun e w'=>Qga (Qrq ws at_ 3 n) W e w'):=fun W e=>by subst e;exact Qiv ws v at_ 3 n _ h hf hl
 obtain ⟨a,cap,rfl⟩:=h.slice;obtain ⟨t1,t2,t3⟩:=Q00 ws at_ n
 obtain ⟨t4,t5⟩:=Qwz ws at_ n
 obtain ⟨K,hK⟩:∃K,K=aK (Qrq ws at_ 3 n):=⟨_,rfl⟩
 obtain ⟨B,hB⟩:∃B,B=(Qrq ws at_ 3 n).isSome:=⟨_,rfl⟩
 obtain ⟨zs,hzs⟩:∃zs,zs=aL (Qrq ws at_ 3 n):=⟨_,rfl⟩
 rw [<- hK] at t1;rw [<- hB] at t2;rw [<- hzs] at t3 t4 t5;have HT:Hid (aK (Qnt ws at_ n)=K/\(Qnt ws at_ n).isSome=B/\aL (Qnt ws at_ n)=zs.map Qkb):=⟨t1,t2,t3⟩;have HZ:=Qaa t4;have K1':Hid (∀W,W=w->Calls Tryz.prog 101 #[.slice a ws.length cap,.int .i64 at_,.int .i64 3,.int .i64 n] W fun e w'=>∃v',e=.returned (.tuple #[v',.int .i64 K,.bool B])/\Hid (Old W w'/\Own w' W.heap.size v' zs)):=fun W e=>(K1.out W e).mono fun e w' ⟨v',h1,h2⟩=>⟨v',by rw [h1,hK,hB],by rw [hzs];exact h2⟩
 clear t1 t2 t3 t4 hK hB hzs K1 h hf;go_enter Tryz.func65,Tryz.ntmps65;go_wp2_with fail;refine (K1'.out _ rfl).mono ?_
 rintro e w1 ⟨v',rfl,HX⟩
 by_cases h0:zs.length=0
 ·obtain rfl:=List.length_eq_zero_iff.1 h0;obtain ⟨a0,cap0,rfl⟩:=(Own.row HX.out.2).slice;go_wp2_with fail;refine wp_loop_rounds 1 ?_
  rw [rounds_succ];go_wp2_with fail
  go_ret3
  unfold Qga;rw [HT.out.1,HT.out.2.1,HT.out.2.2];exact ⟨_,rfl,HX.out.1,HX.out.2⟩
 ·obtain ⟨g,cp,rfl⟩:∃g cap,v'=.slice (some ⟨g,0,none⟩) zs.length cap:=by
   rcases HX.out.2.2 with ⟨_,h1⟩ | ⟨g,cap,cur,e,_⟩
   ·exact absurd h1 h0
   ·exact ⟨g,cap,e⟩
  have HO:Hid (w1.ownsRow w.heap.size 3 1 (.slice (some ⟨g,0,none⟩) zs.length cp) zs.length ((Qrx zs 0).map (Value.int .i64))):=HX.out.2;have HG:=Qaa HX.out.1;clear HX h0;go_wp2_with fail
  go_loopw [24] (fun i W=>∃j:Nat,j<=zs.length/\i=.int .i64 j/\Hid (W.ownsRow w.heap.size 3 1 (.slice (some ⟨g,0,none⟩) zs.length cp) zs.length ((Qrx zs j).map (Value.int .i64)))/\Hid (Old w W)) (fun i _=>zs.length - (intOf i).toNat)
  case atStart=>exact ⟨0,by omega,rfl,HO,HG⟩
  case round=>
   obtain ⟨j,hj,rfl,HO1,HG1⟩:=hrel;clear HO HG
   by_cases hlt:j<zs.length
   ·have c2:wr.cell? ⟨g,j,none⟩=some (.int .i64 (zs.getD j 0)):=by
     rw [World.ownsRow.cellAt HO1.out j (by omega),<- Qw3 zs j hlt];have:=Qw1 zs j;simp [List.getD,this,hlt]
    have c3:=World.ownsRow.frozenAt HO1.out j;have K2:=fun W=>Qw0 (zs.getD j 0) (HZ.out _ (by simp [List.getD,hlt])) W
    have st:=World.ownsRow.stored HO1.out j (.int .i64 (Qkb (zs.getD j 0)))
    have HS:Hid ((wr.setCell ⟨g,j,none⟩ (.int .i64 (Qkb (zs.getD j 0)))).ownsRow w.heap.size 3 1 (.slice (some ⟨g,0,none⟩) zs.length cp) zs.length ((Qrx zs (j+1)).map (Value.int .i64))):=by
     have:=st.1;rw [<- List.map_set,Qw2 zs j hlt] at this;exact this
    have HG2:Hid (Old w (wr.setCell ⟨g,j,none⟩ (.int .i64 (Qkb (zs.getD j 0))))):=Below.grown HG1.out st.2 HG1.out.size (fun b hb=>(HO1.out.lt b hb).1);clear st HO1;generalize zs.getD j 0=x at *;generalize Qkb x=y at *;go_wp2_with fail;refine (K2 _).mono ?_
    rintro e w' ⟨rfl,hw⟩;obtain rfl:=hw.symm;go_wp2_with fail;exact ⟨⟨j+1,by omega,by go_num,HS,HG2⟩,by simp [intOf];omega⟩
   ·have dl:decide ((j:Int)<(zs.length:Int))=false:=by simp;omega
    obtain rfl:j=zs.length:=by omega
    have HF:Hid (Own wr w.heap.size (.slice (some ⟨g,0,none⟩) zs.length cp) (zs.map Qkb)):=by
     have:=HO1.out;rw [Qw4] at this;unfold Own;rw [List.length_map];exact this
    clear HO1;go_wp2_with fail
    go_ret3
    unfold Qga;rw [HT.out.1,HT.out.2.1,HT.out.2.2];exact ⟨_,rfl,HG1.out,HF.out⟩
def atB (ws:List Int) (at_ : Int):Bool:=wsB ws&&inQ at_ 0 ws.length
theorem Qrr (ws:List Int) (q:Nat) (v:Value) (hw:wdB ws=true) (hl:ws.length<=4000) (k:Nat) (W:World) (h:Sp W q v ws k true) :
 Calls Tryz.prog 53 #[.pointer (some ⟨q,0,none⟩)] W fun e w'=>DrM (tD ws) ws W q v k e w':=by
 have K1:Hid (Calls Tryz.prog 84 #[.pointer (some ⟨q,0,none⟩),.int .i64 3] W fun e w'=>DrM (uD ws 3) ws W q v k e w'):=Qrp ws q 3 v hw hl (by omega) k W h;clear h hw;go_enter Tryz.func53,Tryz.ntmps53;go_wp2_with fail;refine K1.out.mono ?_
 rintro e w1 ⟨g,⟨x,k',h1,rfl,h3⟩ | ⟨h1,⟨y,rfl⟩,k',h3⟩⟩
 ·have HF:Hid (DrM (tD ws) ws W q v k (.returned (.int .i64 (Qkb x))) w1):=⟨g,Or.inl ⟨Qkb x,k',by unfold tD;rw [h1],rfl,h3⟩⟩;clear g h1 h3
  by_cases hx:x=2
  ·subst hx;go_wp2_with fail;go_ret;exact HF.out
  ·have d1:(x==2)=false:=by simp [hx]
   have e1:Qkb x=x:=by simp [Qkb,hx]
   rw [e1] at HF;go_wp2_with fail;go_ret;exact HF.out
 ·have HF:Hid (∀z,DrM (tD ws) ws W q v k (.returned (.int .i64 z)) w1):=fun z=>⟨g,Or.inr ⟨by unfold tD;rw [h1],⟨z,rfl⟩,k',h3⟩⟩
  clear g h1 h3
  by_cases hx:y=2
  ·subst hx;go_wp2_with fail;go_ret;exact HF.out _
  ·have d1:(y==2)=false:=by simp [hx]
   go_wp2_with fail;go_ret;exact HF.out _
theorem Sp.new {w:World} {v:Value} {ws:List Int} {k:Nat} (h:Row w v ws) (hk:k<=ws.length):Sp (w.alloc (.cells #[v,.int .i64 (k:Int),.bool true] 58)) w.heap.size v ws k true:=by
 refine ⟨hk,heap_alloc_new _ _,h.old ((Old.refl w).alloc _),fun b o cap e h0=>?_⟩;rcases h with ⟨a,c,e1,e2⟩ | ⟨b',o',c,e1,hb,_⟩
 ·rw [e2] at h0;simp at h0
 ·rw [e] at e1
  injection e1 with e3
  injection e3 with e4
  injection e4 with e5
  rw [e5];exact hb
theorem Qut {ws:List Int} {at_ : Int} (h:atB ws at_ = true):wdB ws=true/\ws.length<=4000/\(0<=at_/\at_<=ws.length):=by
 simp only [atB,wsB,inQ,Bool.and_eq_true,decide_eq_true_eq] at h;exact ⟨h.1.2,h.1.1,h.2⟩
theorem Qrs (ws:List Int) (v:Value) (at_ : Int) (w:World) (h:Row w v ws) (hl:ws.length<=9223372036854775807) :
 Calls Tryz.prog 24 #[v,.int .i64 at_] w fun e w'=>e=.returned (.bool (atB ws at_))/\w'=w:=Qo6 ws v at_ w h hl
theorem Quu (ws:List Int) (at_ n:Int):Qo9 ws at_ n=(atB ws at_ && inQ n 0 64):=rfl
end Go.Proofs.YtdaepfjocofkjaaGreatDoor
