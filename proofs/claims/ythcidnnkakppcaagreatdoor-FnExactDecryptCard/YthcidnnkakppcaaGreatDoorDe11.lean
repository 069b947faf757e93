/- Proved: what its theorems say. -/
import Derived.Test.YthcidnnkakppcaaGreatDoorRows
import Derived.Handy
set_option linter.unusedVariables false
set_option linter.unusedSimpArgs false
namespace Go.Proofs.YthcidnnkakppcaaGreatDoor
open Go.ChangeShapes Go.WideShapes Go.ChangeAt Go.RowKit
theorem vEq {a b:Int} (h:a=b):Value.int .i64 a=Value.int .i64 b:=by rw [h]
def Qai:Nat->Nat->Nat->Nat
 | 0,_,o=>o
 | s+1,k,o=>Qai s (k/2) (2*o+k%2)
theorem Qj6 {i:Nat} (h:i<=10):2^i<=1024:=Nat.pow_le_pow_right (n:=2) (by omega) h
def Qij (x p:Int):Bool:=decide (0<=x)&&decide (x<p)
theorem Qho (x p:Int) (w:World):Calls Tryz.prog 117 #[.int .i64 x,.int .i64 p] w fun e w'=>e=.returned (.bool (Qij x p))/\w'=w:=by
 by_cases h:0<=x
 ·have hd2:decide (0≤x)=true:=by simp;omega
  go_enter Tryz.func117,Tryz.ntmps117;go_wp2_with fail;go_ret;exact ⟨by simp [Qij,hd2],rfl⟩
 ·have hd2:decide (0≤x)=false:=by simp;omega
  go_enter Tryz.func117,Tryz.ntmps117;go_wp2_with fail;go_ret;exact ⟨by simp [Qij,hd2],rfl⟩
theorem Qpy (b:Nat) (hb:b<=10):wrap64 (2^b)=((2^b:Nat):Int):=by
 have h:=Qj6 hb;have e:(2:Int)^b=((2^b:Nat):Int):=by simp
 rw [e];generalize 2^b=M at *;simp only [wrap64];omega
theorem Qj7 (k b:Nat) (w:World) (hb:b≤10) (hk:k<2^b) :
  Calls Tryz.prog 152 #[.int .i64 k,.int .i64 b] w fun e w'=>e=.returned (.int .i64 (Qai b k 0))/\w'=w:=by
 obtain ⟨R,hR⟩:∃R,Qai b k 0=R:=⟨_,rfl⟩
 rw [hR];have H0:Hid (Qai (b - 0) k 0=R):=hR;clear hR;have HO:Hid (0<2^0):=Nat.pow_pos (by omega);have hk1:=Nat.lt_of_lt_of_le hk (Qj6 hb);have hw:=Qpy b hb;have c:=fun W=>Qho k (wrap64 (2^b)) W
 have e:Qij k (wrap64 (2^b))=true:=by
  rw [hw];simp only [Qij,Bool.and_eq_true,decide_eq_true_eq];exact ⟨by omega,by exact_mod_cast hk⟩
 rw [e] at c;clear e hw hk;go_enter Tryz.func152,Tryz.ntmps152;go_wp2_with fail;refine (c _).mono ?_
 rintro e w' ⟨rfl,rfl⟩;go_wp2_with fail
 go_loop [0,5,21] (fun x o i=>∃k' o' i':Nat,i'<=b/\k'<1024/\Hid (o'<2^i')/\Hid (Qai (b - i') k' o'=R)/\x=.int .i64 k'/\o=.int .i64 o'/\i=.int .i64 i') (fun _ _ i=>b - (intOf i).toNat)
 case atStart=>exact ⟨k,0,0,by omega,hk1,HO,H0,rfl,rfl,rfl⟩
 case round=>
  obtain ⟨k',o',i',hi',hk',HO',H1,rfl,rfl,rfl⟩:=hrel;clear H0 HO;have ho:=Nat.le_trans (Nat.le_of_lt HO'.out) (Qj6 (by omega))
  by_cases hz:i'<b
  ·have H2:Hid (Qai (b - (i'+1)) (k'/2) (2*o'+k'%2)=R):=by
    have:=H1.out;rw [show b - i'=(b - (i'+1))+1 by omega] at this;exact this
   have H3:Hid (2*o'+k'%2<2^(i'+1)):=by
    have:=HO'.out;rw [Nat.pow_succ]
    show _ < _
    omega
   clear H1 HO';go_wp2_with fail;exact ⟨⟨k'/2,2*o'+k'%2,i'+1,by omega,by omega,H3,H2,vEq (by omega),vEq (by omega),by go_num⟩,by simp [intOf];omega⟩
  ·have H2:Hid (o'=R):=by
    have:=H1.out;rw [show b - i'=0 by omega] at this;exact this
   go_wp2_with fail;go_ret;exact ⟨by rw [<- H2.out];rfl,rfl⟩
def inQ (x lo hi:Int):Bool:=decide (lo<=x)&&decide (x<=hi)
theorem Ql1 (x lo hi:Int) (w:World) :
  Calls Tryz.prog 44 #[.int .i64 x,.int .i64 lo,.int .i64 hi] w fun e w'=>e=.returned (.bool (inQ x lo hi))/\w'=w:=by
 by_cases h:lo<=x
 ·have hd2:decide (lo≤x)=true:=by simp;omega
  go_enter Tryz.func44,Tryz.ntmps44;go_wp2_with fail;go_ret;exact ⟨by simp [inQ,hd2],rfl⟩
 ·have hd2:decide (lo≤x)=false:=by simp;omega
  go_enter Tryz.func44,Tryz.ntmps44;go_wp2_with fail;go_ret;exact ⟨by simp [inQ,hd2],rfl⟩
end Go.Proofs.YthcidnnkakppcaaGreatDoor
