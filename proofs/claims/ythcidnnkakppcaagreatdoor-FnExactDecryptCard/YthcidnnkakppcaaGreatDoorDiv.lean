/- Proved: what its theorems say. -/
import Derived.BigQuiet
import Derived.Deep.DeepCutAuto
import Derived.Test.YthcidnnkakppcaaGreatDoorLen
import Derived.Test.YthcidnnkakppcaaGreatDoorDe07
set_option linter.unusedVariables false
set_option linter.unusedSimpArgs false
set_option maxHeartbeats 4000000
namespace Go.Proofs.YthcidnnkakppcaaGreatDoor
open Go.ChangeShapes Go.WideShapes Go.ChangeAt Go.RowKit
open M1
theorem Qhq:∀(k x:Nat),0<x->x<2^k->k<=64->1<=Lib.bitLen x/\Lib.bitLen x<=k/\2^(Lib.bitLen x - 1)<=x/\x<2^Lib.bitLen x
 | 0,x,h0,h,_=>by skip
                  omega
 | k+1,x,h0,h,hk=>by
   have hp:2^(k+1)<=2^64:=Nat.pow_le_pow_right (by omega) hk;rw [Lib.bitLen_half x (by omega) (by omega)];rw [Nat.pow_succ] at h
   by_cases h1:x/2=0
   ·rw [h1];have e:Lib.bitLen 0=0:=by decide
    rw [e];refine ⟨by omega,by omega,?_,by omega⟩
    show 2^0<=x
    omega
   ·obtain ⟨i1,i2,i3,i4⟩:=Qhq k (x/2) (by omega) (by omega) (by omega);refine ⟨by omega,by omega,?_,?_⟩
    ·rw [show 1+Lib.bitLen (x/2) - 1=(Lib.bitLen (x/2) - 1)+1 by omega,Nat.pow_succ];omega
    ·rw [Nat.add_comm,Nat.pow_succ];omega
theorem Qzx (y:Nat) (w:World) (h0:0<y) (hy:y<18446744073709551616) :
  Calls Tryz.prog 174 #[.int .u64 y] w fun e w'=>e=.returned (.int .i64 ((64 - Lib.bitLen y:Nat):Int))/\w'=w:=by
 have b:=Qhq 64 y h0 hy (by omega);have c:=fun W=>bits_Len64 (y:Int) W (by omega) (by omega)
 rw [Int.toNat_natCast] at c;have e:((64 - Lib.bitLen y:Nat):Int)=64 - (Lib.bitLen y:Int):=by omega
 rw [e];obtain ⟨b1,b2,_,_⟩:=b;clear e;generalize Lib.bitLen y=L at *;go_enter Tryz.func174,Tryz.ntmps174;go_wp2_with (go_at_call 156;refine (c _).mono ?_;rintro e w' ⟨rfl,rfl⟩);go_ret;exact ⟨rfl,rfl⟩
theorem Qv7 (q y0:Nat) (hq:q<4294967296) (hy:y0<4294967296):q*y0<=18446744065119617025:=by
 have:=Nat.mul_le_mul (show q<=4294967295 by omega) (show y0<=4294967295 by omega);omega
theorem Ql2 (u v Q Y t:Nat) (h:Q*Y≤u*4294967296+v) (ht:u*4294967296+v - Q*Y=t) (htl:t<18446744073709551616) :
  IntKind.u64.wrap (IntKind.u64.wrap (IntKind.u64.wrap ((u:Int)*4294967296)+(v:Int)) - IntKind.u64.wrap ((Q:Int)*(Y:Int)))=(t:Int):=by
 have e:(Q:Int)*(Y:Int)=((Q*Y:Nat):Int):=by simp
 rw [e];simp only [IntKind.wrap_u64];generalize Q*Y=z at *;omega
theorem Qv8 (hi lo y s Y y1 y0 u low v1 v0 Q1 t Q0 R:Nat) (w:World) (hhi:0<hi) (hy:hi<y) (hyb:y<18446744073709551616) (hlo:lo<18446744073709551616) (hs:s<64)
  (cz:∀W,Calls Tryz.prog 174 #[.int .u64 y] W fun e w'=>e=.returned (.int .i64 s)/\w'=W)
  (r1:IntKind.u64.wrap ((y:Int)*2^s)=(Y:Int)) (r2:(Y:Int)/4294967296=(y1:Int)) (r3:bits BinOp.and IntKind.u64 (Y:Int) 4294967295=(y0:Int))
  (r4:bits BinOp.or IntKind.u64 (IntKind.u64.wrap ((hi:Int)*2^s)) ((lo:Int)/2^(64 - s))=(u:Int)) (r5:IntKind.u64.wrap ((lo:Int)*2^s)=(low:Int))
  (r6:(low:Int)/4294967296=(v1:Int)) (r7:bits BinOp.and IntKind.u64 (low:Int) 4294967295=(v0:Int))
  (HY:Hid (Y=y1*4294967296+y0)) (A1:Hid (Half u v1 y1 y0)) (A2:Hid (Half t v0 y1 y0)) (hub:u<18446744073709551616) (htb:t<18446744073709551616)
  (E1:Hid (Q1=(u*4294967296+v1)/(y1*4294967296+y0))) (E2:Hid (Q0=(t*4294967296+v0)/(y1*4294967296+y0)))
  (W1:Hid (IntKind.u64.wrap (IntKind.u64.wrap (IntKind.u64.wrap ((u:Int)*4294967296)+(v1:Int)) - IntKind.u64.wrap ((Q1:Int)*(Y:Int)))=(t:Int)))
  (W2:Hid (IntKind.u64.wrap (IntKind.u64.wrap (IntKind.u64.wrap ((t:Int)*4294967296)+(v0:Int)) - IntKind.u64.wrap ((Q0:Int)*(Y:Int)))/2^s=(R:Int))) :
  Calls Tryz.prog 173 #[.int .u64 hi,.int .u64 lo,.int .u64 y] w fun e w'=>∃q:Int,e=.returned (.tuple #[.int .u64 q,.int .u64 R])/\w'=w:=by
 have d1:((y:Int)==0)=false:=by simp;omega
 have d2:((hi:Int)==0)=false:=by simp;omega
 have hy1a:=A1.out.y1lo;have hy1b:=A1.out.y1hi;have hy0b:=A1.out.y0hi;have hv1b:=A1.out.vhi;have hv0b:=A2.out.vhi;have hy1n:¬y1=0:=by omega
 obtain ⟨D0,da1,da2,da3⟩:=Dig.start A1.out;have HD0:Hid (Dig u v1 y1 y0 (u/y1) (u - u/y1*y1)):=D0;clear D0;have r8:(u:Int)/(y1:Int)=((u/y1:Nat):Int):=by simp
 generalize hq0:u/y1=q0 at *;have r9:(q0:Int)*(y1:Int)=((q0*y1:Nat):Int):=by simp
 generalize hp0:q0*y1=p0 at *;clear hq0 hp0;go_enter Tryz.func173,Tryz.ntmps173;go_wp2_with (go_at_call 174;refine (cz _).mono ?_;rintro e w' ⟨rfl,rfl⟩);clear r1 r2 r3 r4 r5 r6 r7 r8 r9 cz d1 d2;obtain ⟨D1,db1,db2,db3⟩:=Dig.start A2.out;have HE0:Hid (Dig t v0 y1 y0 (t/y1) (t - t/y1*y1)):=D1;clear D1;have r10:(t:Int)/(y1:Int)=((t/y1:Nat):Int):=by simp
 generalize hq2:t/y1=q2 at *;have r11:(q2:Int)*(y1:Int)=((q2*y1:Nat):Int):=by simp
 generalize hp2:q2*y1=p2 at *;clear hq2 hp2
 go_loop [15,16] (fun a b=>∃q r:Nat,q<=4294967297/\r<4294967296/\Hid (Dig u v1 y1 y0 q r)/\a=.int .u64 q/\b=.int .u64 r) (fun a _=>(intOf a).toNat)
 case atStart=>exact ⟨q0,u - p0,da3,da2,HD0,rfl,Qa5 (by omega)⟩
 case round=>
  obtain ⟨q,r,hq,hr,HDa,rfl,rfl⟩:=hrel;clear HD0 da1 da2 da3;have w1:=W1.out
  by_cases hbig:4294967296<=q
  ·have k1:decide ((4294967296:Int)≤(q:Int))=true:=by simp;omega
   obtain ⟨hq1,hm⟩:=Dig.more A1.out HDa.out (Or.inl hbig);have HM:Hid (Dig u v1 y1 y0 (q - 1) (r+y1)):=hm;clear hm HDa
   by_cases hbr:4294967296<=r+y1
   ·have k2:decide ((4294967296:Int)≤(r:Int)+(y1:Int))=true:=by simp;omega
    have HQ:q - 1=Q1:=by rw [E1.out];exact Dig.broke A1.out HM.out (by omega) hbr
    have kq:(q:Int) - 1=(Q1:Int):=by omega
    clear HM HQ;go_wp2_with fail
    try clear kq
    clear w1 r10 r11
    go_loop [16,18] (fun b a=>∃q r:Nat,q<=4294967297/\r<4294967296/\Hid (Dig t v0 y1 y0 q r)/\a=.int .u64 q/\b=.int .u64 r) (fun _ a=>(intOf a).toNat)
    case atStart=>exact ⟨q2,t - p2,db3,db2,HE0,rfl,Qa5 (by omega)⟩
    case round=>
     obtain ⟨q',r',hq',hr',HD2,rfl,rfl⟩:=hrel;clear HE0 db1 db2 db3;have w2:=W2.out
     by_cases hbig2:4294967296<=q'
     ·have k4:decide ((4294967296:Int)≤(q':Int))=true:=by simp;omega
      obtain ⟨hq3,hm⟩:=Dig.more A2.out HD2.out (Or.inl hbig2);have HM:Hid (Dig t v0 y1 y0 (q' - 1) (r'+y1)):=hm;clear hm HD2
      by_cases hbr2:4294967296<=r'+y1
      ·have k5:decide ((4294967296:Int)≤(r':Int)+(y1:Int))=true:=by simp;omega
       have HQ2:q' - 1=Q0:=by rw [E2.out];exact Dig.broke A2.out HM.out (by omega) hbr2
       have kp:(q':Int) - 1=(Q0:Int):=by omega
       clear HM HQ2;go_wp2_with fail
       go_ret2
       exact ⟨⟨_,Qdl rfl rfl⟩,rfl⟩
      ·have k5:decide ((4294967296:Int)≤(r':Int)+(y1:Int))=false:=by simp;omega
       clear w2;go_wp2_with fail
       go_round
       case rel=>exact ⟨q' - 1,r'+y1,by omega,by omega,HM,Qa5 (by omega),Qa5 (by omega)⟩
       case measure=>simp [intOf];omega
     ·have k4:decide ((4294967296:Int)≤(q':Int))=false:=by simp;omega
      have hpb2:=Qv7 q' y0 (by omega) hy0b;have e6:(q':Int)*(y0:Int)=((q'*y0:Nat):Int):=by simp
      by_cases hgt2:4294967296*r'+v0<q'*y0
      ·have hor:4294967296≤q'∨4294967296*r'+v0<q'*y0:=Or.inr hgt2;obtain ⟨hq3,hm⟩:=Dig.more A2.out HD2.out (hor);have HM:Hid (Dig t v0 y1 y0 (q' - 1) (r'+y1)):=hm;clear hm hor HD2;generalize q'*y0=pp2 at *;have k6:decide ((4294967296:Int)*(r':Int)+(v0:Int)<(pp2:Int))=true:=by simp;omega
       by_cases hbr2:4294967296<=r'+y1
       ·have k5:decide ((4294967296:Int)≤(r':Int)+(y1:Int))=true:=by simp;omega
        have HQ2:q' - 1=Q0:=by rw [E2.out];exact Dig.broke A2.out HM.out (by omega) hbr2
        have kp:(q':Int) - 1=(Q0:Int):=by omega
        clear HM HQ2;go_wp2_with fail
        go_ret2
        exact ⟨⟨_,Qdl rfl rfl⟩,rfl⟩
       ·have k5:decide ((4294967296:Int)≤(r':Int)+(y1:Int))=false:=by simp;omega
        clear w2;go_wp2_with fail
        go_round
        case rel=>exact ⟨q' - 1,r'+y1,by omega,by omega,HM,Qa5 (by omega),Qa5 (by omega)⟩
        case measure=>simp [intOf];omega
      ·have HQ2:q'=Q0:=by rw [E2.out];exact Dig.done A2.out HD2.out (by omega)
       clear HD2;generalize q'*y0=pp2 at *;have k6:decide ((4294967296:Int)*(r':Int)+(v0:Int)<(pp2:Int))=false:=by simp;omega
       subst HQ2;go_wp2_with fail
       go_ret2
       exact ⟨⟨_,Qdl rfl rfl⟩,rfl⟩
   ·have k2:decide ((4294967296:Int)≤(r:Int)+(y1:Int))=false:=by simp;omega
    clear w1 r10 r11;go_wp2_with fail
    go_round
    case rel=>exact ⟨q - 1,r+y1,by omega,by omega,HM,Qa5 (by omega),Qa5 (by omega)⟩
    case measure=>simp [intOf];omega
  ·have k1:decide ((4294967296:Int)≤(q:Int))=false:=by simp;omega
   have hpb:=Qv7 q y0 (by omega) hy0b;have e5:(q:Int)*(y0:Int)=((q*y0:Nat):Int):=by simp
   by_cases hgt:4294967296*r+v1<q*y0
   ·have hor:4294967296≤q∨4294967296*r+v1<q*y0:=Or.inr hgt;obtain ⟨hq1,hm⟩:=Dig.more A1.out HDa.out (hor);have HM:Hid (Dig u v1 y1 y0 (q - 1) (r+y1)):=hm;clear hm hor HDa;generalize q*y0=pp at *;have k3:decide ((4294967296:Int)*(r:Int)+(v1:Int)<(pp:Int))=true:=by simp;omega
    by_cases hbr:4294967296<=r+y1
    ·have k2:decide ((4294967296:Int)≤(r:Int)+(y1:Int))=true:=by simp;omega
     have HQ:q - 1=Q1:=by rw [E1.out];exact Dig.broke A1.out HM.out (by omega) hbr
     have kq:(q:Int) - 1=(Q1:Int):=by omega
     clear HM HQ;go_wp2_with fail
     try clear kq
     clear w1 r10 r11
     go_loop [16,18] (fun b a=>∃q r:Nat,q<=4294967297/\r<4294967296/\Hid (Dig t v0 y1 y0 q r)/\a=.int .u64 q/\b=.int .u64 r) (fun _ a=>(intOf a).toNat)
     case atStart=>exact ⟨q2,t - p2,db3,db2,HE0,rfl,Qa5 (by omega)⟩
     case round=>
      obtain ⟨q',r',hq',hr',HD2,rfl,rfl⟩:=hrel;clear HE0 db1 db2 db3;have w2:=W2.out
      by_cases hbig2:4294967296<=q'
      ·have k4:decide ((4294967296:Int)≤(q':Int))=true:=by simp;omega
       obtain ⟨hq3,hm⟩:=Dig.more A2.out HD2.out (Or.inl hbig2);have HM:Hid (Dig t v0 y1 y0 (q' - 1) (r'+y1)):=hm;clear hm HD2
       by_cases hbr2:4294967296<=r'+y1
       ·have k5:decide ((4294967296:Int)≤(r':Int)+(y1:Int))=true:=by simp;omega
        have HQ2:q' - 1=Q0:=by rw [E2.out];exact Dig.broke A2.out HM.out (by omega) hbr2
        have kp:(q':Int) - 1=(Q0:Int):=by omega
        clear HM HQ2;go_wp2_with fail
        go_ret2
        exact ⟨⟨_,Qdl rfl rfl⟩,rfl⟩
       ·have k5:decide ((4294967296:Int)≤(r':Int)+(y1:Int))=false:=by simp;omega
        clear w2;go_wp2_with fail
        go_round
        case rel=>exact ⟨q' - 1,r'+y1,by omega,by omega,HM,Qa5 (by omega),Qa5 (by omega)⟩
        case measure=>simp [intOf];omega
      ·have k4:decide ((4294967296:Int)≤(q':Int))=false:=by simp;omega
       have hpb2:=Qv7 q' y0 (by omega) hy0b;have e6:(q':Int)*(y0:Int)=((q'*y0:Nat):Int):=by simp
       by_cases hgt2:4294967296*r'+v0<q'*y0
       ·have hor:4294967296≤q'∨4294967296*r'+v0<q'*y0:=Or.inr hgt2;obtain ⟨hq3,hm⟩:=Dig.more A2.out HD2.out (hor);have HM:Hid (Dig t v0 y1 y0 (q' - 1) (r'+y1)):=hm;clear hm hor HD2;generalize q'*y0=pp2 at *;have k6:decide ((4294967296:Int)*(r':Int)+(v0:Int)<(pp2:Int))=true:=by simp;omega
        by_cases hbr2:4294967296<=r'+y1
        ·have k5:decide ((4294967296:Int)≤(r':Int)+(y1:Int))=true:=by simp;omega
         have HQ2:q' - 1=Q0:=by rw [E2.out];exact Dig.broke A2.out HM.out (by omega) hbr2
         have kp:(q':Int) - 1=(Q0:Int):=by omega
         clear HM HQ2;go_wp2_with fail
         go_ret2
         exact ⟨⟨_,Qdl rfl rfl⟩,rfl⟩
        ·have k5:decide ((4294967296:Int)≤(r':Int)+(y1:Int))=false:=by simp;omega
         clear w2;go_wp2_with fail
         go_round
         case rel=>exact ⟨q' - 1,r'+y1,by omega,by omega,HM,Qa5 (by omega),Qa5 (by omega)⟩
         case measure=>simp [intOf];omega
       ·have HQ2:q'=Q0:=by rw [E2.out];exact Dig.done A2.out HD2.out (by omega)
        clear HD2;generalize q'*y0=pp2 at *;have k6:decide ((4294967296:Int)*(r':Int)+(v0:Int)<(pp2:Int))=false:=by simp;omega
        subst HQ2;go_wp2_with fail
        go_ret2
        exact ⟨⟨_,Qdl rfl rfl⟩,rfl⟩
    ·have k2:decide ((4294967296:Int)≤(r:Int)+(y1:Int))=false:=by simp;omega
     clear w1 r10 r11;go_wp2_with fail
     go_round
     case rel=>exact ⟨q - 1,r+y1,by omega,by omega,HM,Qa5 (by omega),Qa5 (by omega)⟩
     case measure=>simp [intOf];omega
   ·have HQ:q=Q1:=by rw [E1.out];exact Dig.done A1.out HDa.out (by omega)
    clear HDa;generalize q*y0=pp at *;have k3:decide ((4294967296:Int)*(r:Int)+(v1:Int)<(pp:Int))=false:=by simp;omega
    subst HQ;go_wp2_with fail
    try clear kq
    clear w1 r10 r11
    go_loop [16,18] (fun b a=>∃q r:Nat,q<=4294967297/\r<4294967296/\Hid (Dig t v0 y1 y0 q r)/\a=.int .u64 q/\b=.int .u64 r) (fun _ a=>(intOf a).toNat)
    case atStart=>exact ⟨q2,t - p2,db3,db2,HE0,rfl,Qa5 (by omega)⟩
    case round=>
     obtain ⟨q',r',hq',hr',HD2,rfl,rfl⟩:=hrel;clear HE0 db1 db2 db3;have w2:=W2.out
     by_cases hbig2:4294967296<=q'
     ·have k4:decide ((4294967296:Int)≤(q':Int))=true:=by simp;omega
      obtain ⟨hq3,hm⟩:=Dig.more A2.out HD2.out (Or.inl hbig2);have HM:Hid (Dig t v0 y1 y0 (q' - 1) (r'+y1)):=hm;clear hm HD2
      by_cases hbr2:4294967296<=r'+y1
      ·have k5:decide ((4294967296:Int)≤(r':Int)+(y1:Int))=true:=by simp;omega
       have HQ2:q' - 1=Q0:=by rw [E2.out];exact Dig.broke A2.out HM.out (by omega) hbr2
       have kp:(q':Int) - 1=(Q0:Int):=by omega
       clear HM HQ2;go_wp2_with fail
       go_ret2
       exact ⟨⟨_,Qdl rfl rfl⟩,rfl⟩
      ·have k5:decide ((4294967296:Int)≤(r':Int)+(y1:Int))=false:=by simp;omega
       clear w2;go_wp2_with fail
       go_round
       case rel=>exact ⟨q' - 1,r'+y1,by omega,by omega,HM,Qa5 (by omega),Qa5 (by omega)⟩
       case measure=>simp [intOf];omega
     ·have k4:decide ((4294967296:Int)≤(q':Int))=false:=by simp;omega
      have hpb2:=Qv7 q' y0 (by omega) hy0b;have e6:(q':Int)*(y0:Int)=((q'*y0:Nat):Int):=by simp
      by_cases hgt2:4294967296*r'+v0<q'*y0
      ·have hor:4294967296≤q'∨4294967296*r'+v0<q'*y0:=Or.inr hgt2;obtain ⟨hq3,hm⟩:=Dig.more A2.out HD2.out (hor);have HM:Hid (Dig t v0 y1 y0 (q' - 1) (r'+y1)):=hm;clear hm hor HD2;generalize q'*y0=pp2 at *;have k6:decide ((4294967296:Int)*(r':Int)+(v0:Int)<(pp2:Int))=true:=by simp;omega
       by_cases hbr2:4294967296<=r'+y1
       ·have k5:decide ((4294967296:Int)≤(r':Int)+(y1:Int))=true:=by simp;omega
        have HQ2:q' - 1=Q0:=by rw [E2.out];exact Dig.broke A2.out HM.out (by omega) hbr2
        have kp:(q':Int) - 1=(Q0:Int):=by omega
        clear HM HQ2;go_wp2_with fail
        go_ret2
        exact ⟨⟨_,Qdl rfl rfl⟩,rfl⟩
       ·have k5:decide ((4294967296:Int)≤(r':Int)+(y1:Int))=false:=by simp;omega
        clear w2;go_wp2_with fail
        go_round
        case rel=>exact ⟨q' - 1,r'+y1,by omega,by omega,HM,Qa5 (by omega),Qa5 (by omega)⟩
        case measure=>simp [intOf];omega
      ·have HQ2:q'=Q0:=by rw [E2.out];exact Dig.done A2.out HD2.out (by omega)
       clear HD2;generalize q'*y0=pp2 at *;have k6:decide ((4294967296:Int)*(r':Int)+(v0:Int)<(pp2:Int))=false:=by simp;omega
       subst HQ2;go_wp2_with fail
       go_ret2
       exact ⟨⟨_,Qdl rfl rfl⟩,rfl⟩
end Go.Proofs.YthcidnnkakppcaaGreatDoor
