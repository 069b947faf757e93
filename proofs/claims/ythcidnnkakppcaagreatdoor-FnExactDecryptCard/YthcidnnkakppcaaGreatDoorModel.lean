/- Proved: what its theorems say. -/
import Derived.Test.YthcidnnkakppcaaGreatDoorDe00
import Derived.Test.YthcidnnkakppcaaGreatDoorDe07
set_option linter.unusedVariables false
set_option linter.unusedSimpArgs false
set_option maxHeartbeats 4000000
namespace Go.Proofs.YthcidnnkakppcaaGreatDoor
open Go.ChangeShapes Go.WideShapes Go.ChangeAt Go.RowKit
open M1
theorem Q4y:∀k,k<12->Qae.drop k=Qae.getD k 0 :: Qae.drop (k+1)/\Qae.take (k+1)=Qae.take k++[Qae.getD k 0]/\2<=Qae.getD k 0/\Qae.getD k 0<=37:=by decide
def Q1x (b:Nat) (w:World):Prop:=∀j,j<12->w.cell? ⟨b,j,none⟩=some (.int .u64 (Qae.getD j 0))
theorem Qpz (w:World) (t:TypeId):Q1x w.heap.size (w.alloc (.cells #[.int .u64 2,.int .u64 3,.int .u64 5,.int .u64 7,.int .u64 11,.int .u64 13,.int .u64 17,.int .u64 19,.int .u64 23,.int .u64 29,.int .u64 31,.int .u64 37] t)):=by
 intro j hj;rcases twelve j hj with rfl | rfl | rfl | rfl | rfl | rfl | rfl | rfl | rfl | rfl | rfl | rfl <;> simp [Qae]
theorem Qv6 (n p:Nat):((n:Int)==(p:Int))=(n==p):=by rw [Bool.eq_iff_iff];simp;omega
theorem Q35 (d s n:Nat) (h0:0<d) (he:d%2=0) (hn:n - 1<18446744073709551616) (h:d*2^s=n - 1):s+1<64/\d/2*2^(s+1)=n - 1:=by
 have e:d/2*2^(s+1)=d*2^s:=by
  rw [Nat.pow_succ,Nat.mul_comm (2^s) 2,<- Nat.mul_assoc]
  congr 1;omega
 refine ⟨?_,by rw [e,h]⟩
 by_cases hs:s+1<64
 ·exact hs
 ·exfalso;have h1:2^64<=2^(s+1):=Nat.pow_le_pow_right (by omega) (by omega);have h2:1*2^(s+1)<=d/2*2^(s+1):=Nat.mul_le_mul_right _ (by omega);omega
theorem Qi9:∀(a b m k:Nat),2^a*(2*m+1)=2^b*(2*k+1)->a=b
 | 0,0,_,_,_=>rfl
 | 0,b+1,m,k,h=>by
   exfalso;rw [Nat.pow_succ,Nat.pow_zero,Nat.one_mul,Nat.mul_comm (2^b) 2,Nat.mul_assoc] at h;omega
 | a+1,0,m,k,h=>by
   exfalso;rw [Nat.pow_succ,Nat.pow_zero,Nat.one_mul,Nat.mul_comm (2^a) 2,Nat.mul_assoc] at h;omega
 | a+1,b+1,m,k,h=>by
   rw [Nat.pow_succ,Nat.pow_succ,Nat.mul_comm (2^a) 2,Nat.mul_comm (2^b) 2,Nat.mul_assoc,Nat.mul_assoc] at h;rw [Qi9 a b m k (by omega)]
theorem Q2a (d s n:Nat) (h0:2<=n) (hd:d<18446744073709551616) (hs:s<64) (h:d*2^s=n - 1) (ho:d%2=1) (hn:n - 1<18446744073709551616):Lib.ctz 64 (n - 1)=s:=by
 unfold Lib.ctz;rw [if_neg (by omega)];obtain ⟨m,hm,_⟩:=Lib.ctzFrom_spec 64 (n - 1) (by omega) (by omega);refine Qi9 _ _ m (d/2) ?_
 rw [<- hm,<- h,Nat.mul_comm]
 congr 1;omega
theorem Qra (n:Nat) (w:World) (B:Bool) (h2:2≤n) (hn:n<18446744073709551616) (S0:St n 0 B) :
  Calls Tryz.prog 128 #[.int .u64 n] w fun e w'=>e=.returned (.bool B)/\Old w w':=by
 have hd2:decide ((n:Int)<2)=false:=by simp;omega
 have HS:=Qaa S0;clear S0;go_enter Tryz.func128,Tryz.ntmps128;go_wp2_with fail
 go_loopw [16] (fun k W=>∃k':Nat,k'<=12/\Hid (St n k' B)/\k=.int .i64 k'/\Hid (Old w W)/\Hid (Q1x w.heap.size W)) (fun k _=>12 - (intOf k).toNat)
 case atStart=>exact ⟨0,by omega,HS,rfl,Old.alloc (Old.refl _) _,Qpz _ _⟩
 case round=>
  obtain ⟨k,hk,H1,rfl,G1,C1⟩:=hrel;clear HS
  by_cases hlt:k<12
  ·have hdk:decide ((k:Int)<12)=true:=by simp;omega
   obtain ⟨a1,a2,a3,a4⟩:=Q4y k hlt;have hc:=C1.out k hlt;generalize Qae.getD k 0=p at *;have hpn:¬p=0:=by omega
   by_cases hm:n%p=0
   ·have HB:=Qaa ((H1.out.hit (p:=p) a1 hm).symm);have hbm:((n:Int)%(p:Int)==0)=true:=by simp;omega
    clear hm a1 a2;go_wp2_with fail;go_ret;exact ⟨Qas ((Qv6 n p).trans HB.out),G1.out⟩
   ·have H2:=Qaa (H1.out.next (p:=p) a1 a2 hm);have hbm:((n:Int)%(p:Int)==0)=false:=by simp;omega
    clear hm a1 a2;go_wp2_with fail;exact ⟨⟨k+1,by omega,H2,by go_num,G1,C1⟩,by simp [intOf];omega⟩
  ·have hdk:decide ((k:Int)<12)=false:=by simp;omega
   obtain rfl:k=12:=by omega
   obtain ⟨hw0,h41⟩:=H1.out.fin h2;have HN:=Qaa (H1.out.no 2 (by decide));have H3:=Qaa hw0;clear H1 hw0 C1;obtain ⟨w1,rfl⟩:∃w1:World,w1=wr:=⟨_,rfl⟩
   have HD0:Hid ((n - 1)*2^0=n - 1):=by show _ = _;simp
   go_wp2_with fail
   go_loop [5,6] (fun d s=>∃d' s':Nat,0<d'/\d'<18446744073709551616/\s'<64/\Hid (d'*2^s'=n - 1)/\d=.int .u64 d'/\s=.int .i64 s') (fun d _=>(intOf d).toNat)
   case atStart=>exact ⟨n - 1,0,by omega,by omega,by omega,HD0,Qa5 (by omega),rfl⟩
   case round=>
    obtain ⟨d,s,hd0,hd64,hs,HD,rfl,rfl⟩:=hrel;clear HD0;have An:=and_one_u64 (d:Int) (by omega) (by omega)
    by_cases he:d%2=0
    ·have hbit:(bits BinOp.and IntKind.u64 (d:Int) 1==0)=true:=by rw [An];simp;omega
     obtain ⟨hs2,hd2'⟩:=Q35 d s n hd0 he (by omega) HD.out;have HD2:=Qaa hd2';clear An hd2' HD;go_wp2_with fail;exact ⟨⟨d/2,s+1,by omega,by omega,hs2,HD2,by go_num,by go_num⟩,by simp [intOf];omega⟩
    ·have hbit:(bits BinOp.and IntKind.u64 (d:Int) 1==0)=false:=by rw [An];simp;omega
     have hcz:=Q2a d s n h2 hd64 hs HD.out (by omega) (by omega);have hdd:(n - 1)/2^s=d:=by rw [<- HD.out];exact Nat.mul_div_cancel _ (Nat.two_pow_pos s)
     have HP:Hid (∀a,Qbn n a=(Qeb a d n==1||sqs n s (Qeb a d n))):=by
      intro a;unfold Qbn;rw [hcz,hdd]
     have hs1:1<=s:=by
      rcases Nat.eq_zero_or_pos s with h0 | h0
      ·exfalso;have:=HD.out;rw [h0] at this;simp at this;have hodd:=HN.out;omega
      ·exact h0
     clear An HD hcz hdd;go_wp2_with fail
     go_loopw [39] (fun k W=>∃k':Nat,k'<=12/\Hid (wit n (Qae.drop k')=B)/\k=.int .i64 k'/\Hid (Old w W)/\Hid (Q1x w1.heap.size W)) (fun k _=>12 - (intOf k).toNat)
     case atStart=>exact ⟨0,by omega,H3,rfl,Old.alloc G1.out _,Qpz _ _⟩
     case round=>
      obtain ⟨k,hk3,H4,rfl,G2,C2⟩:=hrel;clear H3;obtain ⟨w2,rfl⟩:∃w2:World,w2=wr:=⟨_,rfl⟩
      by_cases hlt:k<12
      ·have hdk3:decide ((k:Int)<12)=true:=by simp;omega
       obtain ⟨a1,_,a3,a4⟩:=Q4y k hlt;have hw:=Qb1 n k _ a1;have hc:=C2.out k hlt;generalize Qae.getD k 0=a at *;have H4':=H4.out;rw [hw] at H4';have H5:=Qaa H4';clear H4' hw H4 a1;have hTp:=HP.out a;have cpw:=fun W=>Qn1 a d n W (by omega) (by omega) hd64 hn
       have hx0:=Qjx a d n (by omega);generalize Qeb a d n=x0 at *;generalize hT:Qbn n a=T at *;have o1:∃o:Bool,((x0==1||x0==n - 1)=o):=⟨_,rfl⟩
       obtain ⟨o,ho⟩:=o1
       have HT0:Hid ((o||sqs n (s - 1) (x0*x0%n))=T):=by
        show _ = _
        rw [hTp,<- ho,show s=(s - 1)+1 by omega,sqs,Bool.or_assoc];simp
       clear hTp hT
       have hcase:(x0=1/\o=true)∨(x0≠1/\x0=n - 1/\o=true)∨(x0≠1/\x0≠n - 1/\o=false):=by
        rw [<- ho]
        by_cases e1:x0=1
        ·left;exact ⟨e1,by simp [e1]⟩
        ·right
         by_cases e2:x0=n - 1
         ·left;exact ⟨e1,e2,by simp [e2]⟩
         ·right;exact ⟨e1,e2,by simp [e1,e2]⟩
       clear ho;rcases hcase with ⟨e1,rfl⟩ | ⟨e1,e2,rfl⟩ | ⟨e1,e2,rfl⟩
       ·have hb1:((x0:Int)==1)=true:=by simp;omega
        clear e1;go_wp2_with fail;refine (cpw _).mono ?_
        rintro e w3 ⟨rfl,rfl⟩;go_wp2_with fail
        go_loopw [9,10,11] (fun x o k W=>∃(x':Nat) (o':Bool) (k':Nat),x'<n/\1<=k'/\k'<=s/\Hid ((o'||sqs n (s - k') (x'*x'%n))=T)/\x=.int .u64 x'/\o=.bool o'/\k=.int .i64 k'/\Hid (Old w W)/\Hid (Q1x w1.heap.size W)) (fun _ _ k _=>s - (intOf k).toNat)
        case atStart=>exact ⟨x0,_,1,hx0,by omega,by omega,HT0,rfl,rfl,rfl,G2,C2⟩
        case round=>
         obtain ⟨x,o,kk,hx,hkk1,hkk,H6,rfl,rfl,rfl,G3,C3⟩:=hrel;clear HT0 cpw
         cases o
         ·by_cases hin:kk<s
          ·have csq:=fun W=>Qc5 x x n W hx (by omega) hn
           have H6':=H6.out;have mx:x*x%n<n:=Nat.mod_lt _ (by omega);generalize x*x%n=xx at *;rw [Bool.false_or,show s - kk=(s - (kk+1))+1 by omega,sqs] at H6';have H7:=Qaa H6';clear H6' H6;have hbq:((xx:Int)==(n:Int) - 1)=(xx==n - 1):=by rw [Bool.eq_iff_iff];simp;omega
           generalize (xx==n - 1)=oo at *;go_wp2_with fail;refine (csq _).mono ?_
           rintro e w4 ⟨rfl,rfl⟩;go_wp2_with fail
           go_roundw
           case rel=>exact ⟨xx,oo,kk+1,mx,by omega,by omega,H7,rfl,rfl,by go_num,G3,C3⟩
           case measure=>simp [intOf];omega
          ·have hdi:decide ((kk:Int)<(s:Int))=false:=by simp;omega
           obtain rfl:kk=s:=by omega
           have HB:Hid (false=B):=by
            show _ = _
            rw [<- H5.out,<- H6.out,Nat.sub_self,sqs];rfl
           clear H6 H5;go_wp2_with fail;go_ret;exact ⟨Qas HB.out,G3.out⟩
         ·have HB:Hid (wit n (Qae.drop (k+1))=B):=by
           show _ = _
           rw [<- H5.out,<- H6.out];rfl
          clear H6 H5
          by_cases hin:kk<s
          ·go_wp2_with fail
           go_roundw
           case rel=>exact ⟨k+1,by omega,HB,by go_num,G3,C3⟩
           case measure=>simp [intOf];omega
          ·go_wp2_with fail
           go_roundw
           case rel=>exact ⟨k+1,by omega,HB,by go_num,G3,C3⟩
           case measure=>simp [intOf];omega
       ·have hb1:((x0:Int)==1)=false:=by simp;omega
        have hb2:((x0:Int)==(n:Int) - 1)=true:=by simp;omega
        clear e1 e2;go_wp2_with fail;refine (cpw _).mono ?_
        rintro e w3 ⟨rfl,rfl⟩;go_wp2_with fail
        go_loopw [9,10,11] (fun x o k W=>∃(x':Nat) (o':Bool) (k':Nat),x'<n/\1<=k'/\k'<=s/\Hid ((o'||sqs n (s - k') (x'*x'%n))=T)/\x=.int .u64 x'/\o=.bool o'/\k=.int .i64 k'/\Hid (Old w W)/\Hid (Q1x w1.heap.size W)) (fun _ _ k _=>s - (intOf k).toNat)
        case atStart=>exact ⟨x0,_,1,hx0,by omega,by omega,HT0,rfl,rfl,rfl,G2,C2⟩
        case round=>
         obtain ⟨x,o,kk,hx,hkk1,hkk,H6,rfl,rfl,rfl,G3,C3⟩:=hrel;clear HT0 cpw
         cases o
         ·by_cases hin:kk<s
          ·have csq:=fun W=>Qc5 x x n W hx (by omega) hn
           have H6':=H6.out;have mx:x*x%n<n:=Nat.mod_lt _ (by omega);generalize x*x%n=xx at *;rw [Bool.false_or,show s - kk=(s - (kk+1))+1 by omega,sqs] at H6';have H7:=Qaa H6';clear H6' H6;have hbq:((xx:Int)==(n:Int) - 1)=(xx==n - 1):=by rw [Bool.eq_iff_iff];simp;omega
           generalize (xx==n - 1)=oo at *;go_wp2_with fail;refine (csq _).mono ?_
           rintro e w4 ⟨rfl,rfl⟩;go_wp2_with fail
           go_roundw
           case rel=>exact ⟨xx,oo,kk+1,mx,by omega,by omega,H7,rfl,rfl,by go_num,G3,C3⟩
           case measure=>simp [intOf];omega
          ·have hdi:decide ((kk:Int)<(s:Int))=false:=by simp;omega
           obtain rfl:kk=s:=by omega
           have HB:Hid (false=B):=by
            show _ = _
            rw [<- H5.out,<- H6.out,Nat.sub_self,sqs];rfl
           clear H6 H5;go_wp2_with fail;go_ret;exact ⟨Qas HB.out,G3.out⟩
         ·have HB:Hid (wit n (Qae.drop (k+1))=B):=by
           show _ = _
           rw [<- H5.out,<- H6.out];rfl
          clear H6 H5
          by_cases hin:kk<s
          ·go_wp2_with fail
           go_roundw
           case rel=>exact ⟨k+1,by omega,HB,by go_num,G3,C3⟩
           case measure=>simp [intOf];omega
          ·go_wp2_with fail
           go_roundw
           case rel=>exact ⟨k+1,by omega,HB,by go_num,G3,C3⟩
           case measure=>simp [intOf];omega
       ·have hb1:((x0:Int)==1)=false:=by simp;omega
        have hb2:((x0:Int)==(n:Int) - 1)=false:=by simp;omega
        clear e1 e2;go_wp2_with fail;refine (cpw _).mono ?_
        rintro e w3 ⟨rfl,rfl⟩;go_wp2_with fail
        go_loopw [9,10,11] (fun x o k W=>∃(x':Nat) (o':Bool) (k':Nat),x'<n/\1<=k'/\k'<=s/\Hid ((o'||sqs n (s - k') (x'*x'%n))=T)/\x=.int .u64 x'/\o=.bool o'/\k=.int .i64 k'/\Hid (Old w W)/\Hid (Q1x w1.heap.size W)) (fun _ _ k _=>s - (intOf k).toNat)
        case atStart=>exact ⟨x0,_,1,hx0,by omega,by omega,HT0,rfl,rfl,rfl,G2,C2⟩
        case round=>
         obtain ⟨x,o,kk,hx,hkk1,hkk,H6,rfl,rfl,rfl,G3,C3⟩:=hrel;clear HT0 cpw
         cases o
         ·by_cases hin:kk<s
          ·have csq:=fun W=>Qc5 x x n W hx (by omega) hn
           have H6':=H6.out;have mx:x*x%n<n:=Nat.mod_lt _ (by omega);generalize x*x%n=xx at *;rw [Bool.false_or,show s - kk=(s - (kk+1))+1 by omega,sqs] at H6';have H7:=Qaa H6';clear H6' H6;have hbq:((xx:Int)==(n:Int) - 1)=(xx==n - 1):=by rw [Bool.eq_iff_iff];simp;omega
           generalize (xx==n - 1)=oo at *;go_wp2_with fail;refine (csq _).mono ?_
           rintro e w4 ⟨rfl,rfl⟩;go_wp2_with fail
           go_roundw
           case rel=>exact ⟨xx,oo,kk+1,mx,by omega,by omega,H7,rfl,rfl,by go_num,G3,C3⟩
           case measure=>simp [intOf];omega
          ·have hdi:decide ((kk:Int)<(s:Int))=false:=by simp;omega
           obtain rfl:kk=s:=by omega
           have HB:Hid (false=B):=by
            show _ = _
            rw [<- H5.out,<- H6.out,Nat.sub_self,sqs];rfl
           clear H6 H5;go_wp2_with fail;go_ret;exact ⟨Qas HB.out,G3.out⟩
         ·have HB:Hid (wit n (Qae.drop (k+1))=B):=by
           show _ = _
           rw [<- H5.out,<- H6.out];rfl
          clear H6 H5
          by_cases hin:kk<s
          ·go_wp2_with fail
           go_roundw
           case rel=>exact ⟨k+1,by omega,HB,by go_num,G3,C3⟩
           case measure=>simp [intOf];omega
          ·go_wp2_with fail
           go_roundw
           case rel=>exact ⟨k+1,by omega,HB,by go_num,G3,C3⟩
           case measure=>simp [intOf];omega
      ·have hdk3:decide ((k:Int)<12)=false:=by simp;omega
       obtain rfl:k=12:=by omega
       have HB:Hid (true=B):=H4.out;clear H4;go_wp2_with fail;go_ret;exact ⟨Qas HB.out,G2.out⟩
end Go.Proofs.YthcidnnkakppcaaGreatDoor
