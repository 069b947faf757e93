/- Proved: what its theorems say. -/
import Derived.Test.YtdaepfjocofkjaaGreatDoorEn13
import Derived.Test.YtdaepfjocofkjaaGreatDoorEn06
import Derived.Test.YtdaepfjocofkjaaGreatDoorEn14
set_option linter.unusedVariables false
set_option linter.unusedSimpArgs false
set_option maxHeartbeats 2000000
set_option maxRecDepth 100000
namespace Go.Proofs.YtdaepfjocofkjaaGreatDoor
open Go.ChangeShapes Go.WideShapes Go.ChangeAt Go.RowKit
def wd (x:Int):Bool:=decide (0<=x)&&decide (x<4294967296)
def wdB (ws:List Int):Bool:=ws.all wd
def wsB (ws:List Int):Bool:=decide (ws.length<=4000)&&wdB ws
theorem Qlf {ws:List Int} (h:wdB ws=true) (k:Nat) (hk:k<ws.length):0<=ws.getD k 0/\ws.getD k 0<4294967296:=by
 have:=List.all_eq_true.1 h (ws.getD k 0) (by simp [List.getD,hk])
 simpa [wd] using this
theorem Qug {ws:List Int} (h:∀k,k<ws.length->wd (ws.getD k 0)=true):wdB ws=true:=by
 refine List.all_eq_true.2 (fun x hx=>?_);obtain ⟨k,hk,rfl⟩:=List.getElem_of_mem hx;have:=h k hk
 simpa [List.getD,hk] using this
theorem Qx4 {ws:List Int} (k:Nat) (hk:k<ws.length) (h:wd (ws.getD k 0)=false):wdB ws=false:=by
 refine Bool.eq_false_iff.2 (fun e=>?_);have:=List.all_eq_true.1 e (ws.getD k 0) (by simp [List.getD,hk]);rw [h] at this
 cases this
theorem Quh (x:Int):Qg3 x 4294967296=wd x:=rfl
theorem Qx5 (x:Int):inQ x 0 4294967295=wd x:=by
 unfold inQ wd
 by_cases h:x<=4294967295
 ·rw [decide_eq_true h,decide_eq_true (show x<4294967296 by omega)]
 ·rw [decide_eq_false h,decide_eq_false (show ¬x<4294967296 by omega)]
theorem Qnb (ws:List Int) (v:Value) (w:World) (h:Row w v ws) (hl:ws.length<=9223372036854775807) :
 Calls Tryz.prog 126 #[v] w fun e w'=>e=.returned (.bool (wsB ws))/\w'=w:=by
 by_cases hbig:4000<ws.length
 ·have hR:wsB ws=false:=by simp [wsB];omega
  rw [hR];obtain ⟨a,cap,rfl⟩:=h.slice;have d1:decide ((4000:Int)<(ws.length:Int))=true:=decide_eq_true (by omega);clear hR h;go_enter Tryz.func126,Tryz.ntmps126;go_wp2_with fail;go_ret;exact ⟨rfl,rfl⟩
 ·have d1:decide ((4000:Int)<(ws.length:Int))=false:=decide_eq_false (by omega);have HR:Hid (wsB ws=wdB ws):=by show wsB ws=wdB ws;simp [wsB];omega
  have bl:ws.length<=4000:=by omega
  clear hbig hl;rcases h with ⟨a,cap,rfl,rfl⟩ | ⟨b,o,cap,rfl,hb,h0,hc⟩
  ·go_enter Tryz.func126,Tryz.ntmps126;go_wp2_with fail;refine wp_loop_rounds 1 ?_
   rw [rounds_succ];go_wp2_with fail;go_ret;exact ⟨rfl,rfl⟩
  ·have HC:=Qaa hc;clear hc h0 hb;go_enter Tryz.func126,Tryz.ntmps126;go_wp2_with fail
   go_loopw [10] (fun i W=>∃k:Nat,k<=ws.length/\i=.int .i64 k/\W=w/\Hid (∀j,j<k->wd (ws.getD j 0)=true)) (fun i _=>ws.length - (intOf i).toNat)
   case atStart=>exact ⟨0,by omega,rfl,rfl,fun j hj=>absurd hj (by omega)⟩
   case round=>
    obtain ⟨k,hk,rfl,rfl,HW⟩:=hrel
    by_cases hlt:k<ws.length
    ·have dl:decide ((k:Int)<(ws.length:Int))=true:=by simp;omega
     have c1:=HC.out k hlt
     cases hx:wd (ws.getD k 0)
     ·have HF:=Qaa (Qx4 k hlt hx)
      have K1:=fun W=>by
       have:=Qdx (ws.getD k 0) 4294967296 W;rw [Quh,hx] at this;exact this
      clear hx HW;generalize ws.getD k 0=x at c1 K1;go_wp2_with fail;refine (K1 _).mono ?_
      rintro e w' ⟨rfl,rfl⟩;go_wp2_with fail;go_ret;exact ⟨by rw [HR.out,HF.out];rfl,rfl⟩
     ·have HF:Hid (∀j,j<k+1→wd (ws.getD j 0)=true):=fun j hj=>by
       rcases Nat.lt_or_ge j k with h1 | h1
       ·exact HW.out j h1
       ·obtain rfl:j=k:=by omega
        exact hx
      have K1:=fun W=>by
       have:=Qdx (ws.getD k 0) 4294967296 W;rw [Quh,hx] at this;exact this
      clear hx HW;generalize ws.getD k 0=x at c1 K1;go_wp2_with fail;refine (K1 _).mono ?_
      rintro e w' ⟨rfl,hw⟩;obtain rfl:=hw;go_wp2_with fail;exact ⟨⟨k+1,by omega,by go_num,by trivial,HF⟩,by simp [intOf];omega⟩
    ·have HF:=Qaa (Qug (fun j hj=>HW.out j (by omega)));go_wp2_with fail;go_ret;exact ⟨by rw [HR.out,HF.out];rfl,rfl⟩
theorem Qo6 (ws:List Int) (v:Value) (at_ : Int) (w:World) (h:Row w v ws) (hl:ws.length<=9223372036854775807) :
 Calls Tryz.prog 24 #[v,.int .i64 at_] w fun e w'=>e=.returned (.bool (wsB ws&&inQ at_ 0 ws.length))/\w'=w:=by
 by_cases hbig:4000<ws.length
 ·have hR:wsB ws=false:=by simp [wsB];omega
  rw [hR,Bool.false_and];obtain ⟨a,cap,rfl⟩:=h.slice;have d1:decide ((4000:Int)<(ws.length:Int))=true:=decide_eq_true (by omega);clear hR h;go_enter Tryz.func24,Tryz.ntmps24;go_wp2_with fail;go_ret;exact ⟨rfl,rfl⟩
 ·have d1:decide ((4000:Int)<(ws.length:Int))=false:=decide_eq_false (by omega);have HR:Hid (wsB ws=wdB ws):=by show wsB ws=wdB ws;simp [wsB];omega
  have bl:ws.length<=4000:=by omega
  clear hbig hl;have hK0:=fun W=>Ql8 at_ 0 ws.length W
  cases ha:inQ at_ 0 ws.length
  ·rw [ha] at hK0;rw [Bool.and_false];obtain ⟨a,cap,rfl⟩:=h.slice;clear ha h;go_enter Tryz.func24,Tryz.ntmps24;go_wp2_with fail;refine (hK0 _).mono ?_
   rintro e w' ⟨rfl,rfl⟩;go_wp2_with fail;go_ret;exact ⟨rfl,rfl⟩
  rw [ha] at hK0;rw [Bool.and_true];have K0:=Qaa hK0;clear ha hK0;rcases h with ⟨a,cap,rfl,rfl⟩ | ⟨b,o,cap,rfl,hb,h0,hc⟩
  ·go_enter Tryz.func24,Tryz.ntmps24;go_wp2_with fail;refine (K0.out _).mono ?_
   rintro e w0 ⟨rfl,hw0⟩;obtain rfl:=hw0.symm;go_wp2_with fail;refine wp_loop_rounds 1 ?_
   rw [rounds_succ];go_wp2_with fail;go_ret;exact ⟨rfl,rfl⟩
  ·have HC:=Qaa hc;clear hc h0 hb;go_enter Tryz.func24,Tryz.ntmps24;go_wp2_with fail;refine (K0.out _).mono ?_
   rintro e w0 ⟨rfl,hw0⟩;obtain rfl:=hw0.symm;go_wp2_with fail
   go_loopw [19] (fun i W=>∃k:Nat,k<=ws.length/\i=.int .i64 k/\W=w/\Hid (∀j,j<k->wd (ws.getD j 0)=true)) (fun i _=>ws.length - (intOf i).toNat)
   case atStart=>exact ⟨0,by omega,rfl,rfl,fun j hj=>absurd hj (by omega)⟩
   case round=>
    obtain ⟨k,hk,rfl,rfl,HW⟩:=hrel
    by_cases hlt:k<ws.length
    ·have dl:decide ((k:Int)<(ws.length:Int))=true:=by simp;omega
     have c1:=HC.out k hlt
     cases hx:wd (ws.getD k 0)
     ·have HF:=Qaa (Qx4 k hlt hx)
      have K1:=fun W=>by
       have:=Ql8 (ws.getD k 0) 0 4294967295 W;rw [Qx5,hx] at this;exact this
      clear hx HW;generalize ws.getD k 0=x at c1 K1;go_wp2_with fail;refine (K1 _).mono ?_
      rintro e w' ⟨rfl,rfl⟩;go_wp2_with fail;go_ret;exact ⟨by rw [HR.out,HF.out];rfl,rfl⟩
     ·have HF:Hid (∀j,j<k+1→wd (ws.getD j 0)=true):=fun j hj=>by
       rcases Nat.lt_or_ge j k with h1 | h1
       ·exact HW.out j h1
       ·obtain rfl:j=k:=by omega
        exact hx
      have K1:=fun W=>by
       have:=Ql8 (ws.getD k 0) 0 4294967295 W;rw [Qx5,hx] at this;exact this
      clear hx HW;generalize ws.getD k 0=x at c1 K1;go_wp2_with fail;refine (K1 _).mono ?_
      rintro e w' ⟨rfl,hw⟩;obtain rfl:=hw;go_wp2_with fail;exact ⟨⟨k+1,by omega,by go_num,by trivial,HF⟩,by simp [intOf];omega⟩
    ·have HF:=Qaa (Qug (fun j hj=>HW.out j (by omega)));go_wp2_with fail;go_ret;exact ⟨by rw [HR.out,HF.out];rfl,rfl⟩
theorem Qir (ws:List Int) (v:Value) (at_ n:Int) (w:World) (h:Row w v ws) (hl:ws.length<=9223372036854775807) :
 Calls Tryz.prog 103 #[v,.int .i64 at_,.int .i64 n] w fun e w'=>e=.returned (.bool (wsB ws&&inQ at_ 0 ws.length&&inQ n 0 64))/\w'=w:=by
 have K0:∀W,W=w->Calls Tryz.prog 126 #[v] W fun e w'=>e=.returned (.bool (wsB ws))/\w'=W:=fun W e=>by subst e;exact Qnb ws v _ h hl
 obtain ⟨a,cap,rfl⟩:=h.slice;clear h;unfold inQ
 cases hq:wsB ws
 ·rw [hq] at K0;go_enter Tryz.func103,Tryz.ntmps103;go_wp2_with fail;refine (K0 _ rfl).mono ?_
  rintro e w' ⟨rfl,rfl⟩;go_wp2_with fail;go_ret;exact ⟨by simp,rfl⟩
 ·rw [hq] at K0;have s1:∀x:Bool,(true&&x)=x:=fun x=>by simp
  by_cases h1:0<=at_
  ·have d1:=decide_eq_true h1
   by_cases h2:at_<=(ws.length:Int)
   ·have d2:=decide_eq_true h2
    by_cases h3:0<=n
    ·have d3:=decide_eq_true h3;go_enter Tryz.func103,Tryz.ntmps103;go_wp2_with fail;refine (K0 _ rfl).mono ?_
     rintro e w' ⟨rfl,rfl⟩;go_wp2_with fail;go_ret;exact ⟨by simp [d1,d2,d3],rfl⟩
    ·have d3:=decide_eq_false h3;go_enter Tryz.func103,Tryz.ntmps103;go_wp2_with fail;refine (K0 _ rfl).mono ?_
     rintro e w' ⟨rfl,rfl⟩;go_wp2_with fail;go_ret;exact ⟨by simp [d1,d2,d3],rfl⟩
   ·have d2:=decide_eq_false h2;go_enter Tryz.func103,Tryz.ntmps103;go_wp2_with fail;refine (K0 _ rfl).mono ?_
    rintro e w' ⟨rfl,rfl⟩;go_wp2_with fail;go_ret;exact ⟨by simp [d1,d2],rfl⟩
  ·have d1:=decide_eq_false h1;go_enter Tryz.func103,Tryz.ntmps103;go_wp2_with fail;refine (K0 _ rfl).mono ?_
   rintro e w' ⟨rfl,rfl⟩;go_wp2_with fail;go_ret;exact ⟨by simp [d1],rfl⟩
def Qlu (p:Nat):Nat:=4294967296/p*p
theorem Qlg (p:Nat):4294967296 - 4294967296%p=Qlu p:=by
 have:=Nat.div_add_mod 4294967296 p;unfold Qlu;rw [Nat.mul_comm];omega
theorem Qui (p:Nat):Qlu p<=4294967296:=by rw [<- Qlg];omega
theorem Qqs (p:Nat) (h0:1<=p) (h:p<=268435456):0<Qlu p:=by
 rw [<- Qlg];have:=Nat.mod_lt 4294967296 (show 0<p by omega);omega
structure Stp (ws:List Int) (M:Nat) (k J:Nat):Prop where
 ge:k<=J
 le:J<=ws.length
 no:∀i,k<=i->i<J->(M:Int)<=ws.getD i 0
 yes:J<ws.length->ws.getD J 0<(M:Int)
theorem Stp.next {ws:List Int} {M k J:Nat} (h:Stp ws M k J) (hk:k<ws.length) (hx:(M:Int)<=ws.getD k 0):Stp ws M (k+1) J:=by
 obtain ⟨h1,h2,h3,h4⟩:=h;have:k≠J:=fun e=>by subst e;have:=h4 hk;omega
 exact ⟨by omega,h2,fun i hi hj=>h3 i (by omega) hj,h4⟩
theorem Stp.here {ws:List Int} {M k J:Nat} (h:Stp ws M k J) (hx:ws.getD k 0<(M:Int)):k=J:=by
 obtain ⟨h1,h2,h3,h4⟩:=h;rcases Nat.lt_or_ge k J with h5 | h5
 ·have:=h3 k (Nat.le_refl _) h5;omega
 ·omega
def Qnc (W:World) (c:Nat):Nat:=match W.cell? ⟨c+1,1,none⟩ with
 | some (.int _ n)=>n.toNat
 | _=>0
theorem Pu.next {w:World} {c k:Nat} {ws:List Int} (h:Pu w c ws k):Qnc w c=k:=by
 have:w.cell? ⟨c+1,1,none⟩=some (.int .i64 k):=by rw [cell_of_row _ _ _ _ _ _ h.cells];rfl
 simp [Qnc,this]
def okN:Value->Nat
 | .bool true=>1
 | _=>0
theorem Qlh (ws:List Int) (c k:Nat) (w:World) (h:Pu w c ws k) (hl:ws.length<=4000) :
 Calls Tryz.prog 127 #[.pointer (some ⟨c+1,0,none⟩)] w fun e w'=>Chg w w' c (c+2)/\Hid ((k<ws.length/\e=.returned (.tuple #[.int .i64 (ws.getD k 0),.bool true])/\Pu w' c ws (k+1))∨(k=ws.length/\e=.returned (.tuple #[.int .i64 0,.bool false])/\Pu w' c ws k)):=by
 rcases Nat.lt_or_ge k ws.length with h1 | h1
 ·exact (Quc ws c k w h h1 hl).mono fun e w' ⟨h2,h3,h4⟩=>⟨h3,Or.inl ⟨h1,h2,h4⟩⟩
 ·obtain rfl:k=ws.length:=Nat.le_antisymm h.le h1
  exact (Qud ws c w h).mono fun e w' ⟨h2,h3⟩=>by
   subst h3;exact ⟨⟨rfl,rfl,rfl,Nat.le_refl _,fun _ _ _=>rfl⟩,Or.inr ⟨rfl,h2,h⟩⟩
def UnL (ws:List Int) (w:World) (c M J:Nat) (x y:Value) (W:World):Prop:=
 Chg w W c (c+2)/\((∃i,i<ws.length/\Stp ws M i J/\x=.int .i64 (ws.getD i 0)/\y=.bool true/\Pu W c ws (i+1))∨(J=ws.length/\x=.int .i64 0/\y=.bool false))
def UnP (ws:List Int) (w:World) (c p J:Nat) (e:Ending) (w':World):Prop:=
 Chg w w' c (c+2)/\((J<ws.length/\e=.returned (.tuple #[.int .i64 (ws.getD J 0%p),.bool true])/\Pu w' c ws (J+1))∨(J=ws.length/\e=.returned (.tuple #[.int .i64 0,.bool false])))
theorem Quj (ws:List Int) (c k p J:Nat) (w:World) (hw:wdB ws=true) (hl:ws.length<=4000) (h:Pu w c ws k) (hp:2<=p/\p<=268435456) (hJ:Stp ws (Qlu p) k J) :
 Calls Tryz.prog 125 #[.pointer (some ⟨c+1,0,none⟩),.int .i64 p] w fun e w'=>UnP ws w c p J e w':=by
 obtain ⟨p1,p2⟩:=hp;obtain ⟨m,hm,m1⟩:∃m,m=4294967296%p/\m<p:=⟨_,rfl,Nat.mod_lt _ (by omega)⟩
 have e1:(4294967296:Int).tmod (p:Int)=(m:Int):=by rw [hm];rfl
 have e1':(4294967296:Int)%(p:Int)=(m:Int):=by rw [hm];rfl
 have e2:(4294967296:Int) - (m:Int)=(Qlu p:Int):=by rw [<- Qlg,<- hm];omega
 have p0:¬p=0:=by omega
 have HJ:=Qaa hJ;have HP:=Qaa h;have HW:=Qaa hw;have HM:=Qaa (Qui p);have m2:=Qqs p (by omega) p2;obtain ⟨M,hM⟩:∃M,M=Qlu p:=⟨_,rfl⟩
 rw [<- hM] at e2 HJ HM m2;clear hm hJ h hw hM HM;go_enter Tryz.func125,Tryz.ntmps125;go_wp2_with fail;refine (Qlh ws c k w HP.out hl).mono ?_
 rintro e w1 ⟨g1,t1⟩
 obtain ⟨x0,y0,rfl,HU⟩:∃x0 y0,e=.returned (.tuple #[x0,y0])/\Hid (UnL ws w c M J x0 y0 w1):=by
  rcases t1.out with ⟨h1,h2,h3⟩ | ⟨h1,h2,h3⟩
  ·exact ⟨_,_,h2,g1,Or.inl ⟨k,h1,HJ.out,rfl,rfl,h3⟩⟩
  ·exact ⟨_,_,h2,g1,Or.inr ⟨by have:=HJ.out.ge;have:=HJ.out.le;omega,rfl,rfl⟩⟩
 clear t1 g1 HP HJ;go_wp2_with fail
 go_loopw [7,8] (fun x y W=>Hid (UnL ws w c M J x y W)) (fun x y W=>2*(ws.length - Qnc W c)+okN y)
 case atStart=>exact HU
 case round=>
  clear HU;obtain ⟨g,⟨i,hi,hS,rfl,rfl,hPu⟩ | ⟨hJ,rfl,rfl⟩⟩:=hrel.out
  ·clear hrel;have HG:=Qaa g;have HS:=Qaa hS;have HQ:=Qaa hPu;have hX:=Qlf HW.out i hi;obtain ⟨x1,x2⟩:=hX;clear g hS hPu
   by_cases hx:(M:Int)<=ws.getD i 0
   ·have d1:=decide_eq_true hx;have HS1:=Qaa (HS.out.next hi hx);have HNx:=Qaa HQ.out.next;clear HS;generalize ws.getD i 0=X at *;go_wp2_with fail;refine (Qlh ws c (i+1) wr HQ.out hl).mono ?_
    rintro e w2 ⟨g2,t2⟩
    obtain ⟨x3,y3,rfl,HU,HD⟩:∃x0 y0,e=.returned (.tuple #[x0,y0])/\Hid (UnL ws w c M J x0 y0 w2)/\Hid (2*(ws.length - Qnc w2 c)+okN y0<2*(ws.length - Qnc wr c)+1):=by
     rcases t2.out with ⟨h1,h2,h3⟩ | ⟨h1,h2,h3⟩
     ·refine ⟨_,_,h2,⟨HG.out.trans g2,Or.inl ⟨i+1,h1,HS1.out,rfl,rfl,h3⟩⟩,?_⟩
      show _ < _
      rw [HNx.out,h3.next];simp [okN];omega
     ·refine ⟨_,_,h2,⟨HG.out.trans g2,Or.inr ⟨by have:=HS1.out.ge;have:=HS1.out.le;omega,rfl,rfl⟩⟩,?_⟩
      show _ < _
      rw [HNx.out,h3.next];simp [okN]
    clear t2 g2;go_wp2_with fail;exact ⟨HU,HD.out⟩
   ·have d1:=decide_eq_false hx;obtain rfl:i=J:=HS.out.here (by omega);have e3:(ws.getD i 0).tmod (p:Int)=ws.getD i 0%(p:Int):=Int.tmod_eq_emod_of_nonneg x1;obtain ⟨X,hX⟩:∃X,ws.getD i 0=X:=⟨_,rfl⟩
    rw [hX] at e3 d1 x1 x2 hx ⊢;have HX:=Qaa hX;clear hX;go_wp2_with fail
    go_ret2
    unfold UnP;rw [HX.out];exact ⟨HG.out,Or.inl ⟨hi,rfl,HQ.out⟩⟩
  ·have HG:=Qaa g;clear hrel g;have HJ':=Qaa hJ;clear hJ;go_wp2_with fail
   go_ret2
   unfold UnP;exact ⟨HG.out,Or.inr ⟨HJ'.out,rfl⟩⟩
structure Sp (w:World) (q:Nat) (v:Value) (ws:List Int) (k:Nat) (ok:Bool):Prop where
 le:k<=ws.length
 cells:w.heap[q]? = some (.cells #[v,.int .i64 k,.bool ok] 58 (0,0))
 row:Row w v ws
 low:∀b o cap,v=.slice (some ⟨b,o,none⟩) ws.length cap->0<ws.length->b<q
theorem Sp.lt {w:World} {q k:Nat} {v:Value} {ws:List Int} {ok:Bool} (h:Sp w q v ws k ok):q<w.heap.size:=(Array.getElem?_eq_some_iff.1 h.cells).1
theorem Quk {w:World} {v:Value} {ws:List Int} (h:Row w v ws) (q j:Nat) (y:Value) (low:∀b o cap,v=.slice (some ⟨b,o,none⟩) ws.length cap->0<ws.length->b<q):Row (w.setCell ⟨q,j,none⟩ y) v ws:=by
 rcases h with h1 | ⟨b,o,cap,e,hb,h0,hc⟩
 ·exact Or.inl h1
 ·have:=low b o cap e h0;refine Or.inr ⟨b,o,cap,e,by rw [World.size_setCell];exact hb,h0,fun i hi=>?_⟩;rw [<- hc i hi];exact World.cell?_of_block (heap_setCell_other w ⟨q,j,none⟩ b y (by show b≠q;omega))
theorem Sp.step {w:World} {q k:Nat} {v:Value} {ws:List Int} {ok:Bool} (h:Sp w q v ws k ok) (hk:k<ws.length):Sp (w.setCell ⟨q,1,none⟩ (.int .i64 ((k:Int)+1))) q v ws (k+1) ok:=by
 obtain ⟨h1,h2,h3,h4⟩:=h;exact ⟨by omega,by rw [heap_setCell_same _ _ _ _ _ _ h2];rfl,Quk h3 q 1 _ h4,h4⟩
theorem Sp.dry {w:World} {q k:Nat} {v:Value} {ws:List Int} {ok:Bool} (h:Sp w q v ws k ok):Sp (w.setCell ⟨q,2,none⟩ (.bool false)) q v ws k false:=by
 obtain ⟨h1,h2,h3,h4⟩:=h;exact ⟨h1,by rw [heap_setCell_same _ _ _ _ _ _ h2];rfl,Quk h3 q 2 _ h4,h4⟩
theorem Sp.c0 {w:World} {q k:Nat} {v:Value} {ws:List Int} {ok:Bool} (h:Sp w q v ws k ok):w.cell? ⟨q,0,none⟩=some v:=by rw [cell_of_row _ _ _ _ _ _ h.cells];rfl
theorem Sp.c1 {w:World} {q k:Nat} {v:Value} {ws:List Int} {ok:Bool} (h:Sp w q v ws k ok):w.cell? ⟨q,1,none⟩=some (.int .i64 k):=by rw [cell_of_row _ _ _ _ _ _ h.cells];rfl
theorem Sp.c2 {w:World} {q k:Nat} {v:Value} {ws:List Int} {ok:Bool} (h:Sp w q v ws k ok):w.cell? ⟨q,2,none⟩=some (.bool ok):=by rw [cell_of_row _ _ _ _ _ _ h.cells];rfl
theorem Sp.fr {w:World} {q k:Nat} {v:Value} {ws:List Int} {ok:Bool} (h:Sp w q v ws k ok) (j:Nat):w.frozen? ⟨q,j,none⟩=false:=frozen_of_row _ _ _ _ _ h.cells
def WoP (ws:List Int) (w:World) (q:Nat) (v:Value) (k:Nat) (ok:Bool) (e:Ending) (w':World):Prop:=
 Chg w w' q (q+1)/\((k<ws.length/\e=.returned (.int .i64 (ws.getD k 0))/\Sp w' q v ws (k+1) ok)∨(k=ws.length/\e=.returned (.int .i64 0)/\Sp w' q v ws k false))
theorem Sp.drew {w:World} {q k:Nat} {v:Value} {ws:List Int} {ok:Bool} (h:Sp w q v ws k ok) (n:Nat):Sp (w.drewN n) q v ws k ok:=
 ⟨h.le,h.cells,h.row.old ((Old.refl w).drewN n),h.low⟩
theorem Qf6 (w:World) (n lo hi:Nat):Chg w (w.drewN n) lo hi:=((Old.refl w).drewN n).toChg lo hi
theorem Sp.word {w:World} {q k:Nat} {a:Option Addr} {cap:Nat} {ws:List Int} {ok:Bool} (h:Sp w q (.slice a ws.length cap) ws k ok) (j:Nat) (hj:j<ws.length):∃b o,a=some ⟨b,o,none⟩/\w.cell? ⟨b,o+j,none⟩=some (.int .i64 (ws.getD j 0)):=by
 rcases h.row with ⟨a',cap',e,e2⟩ | ⟨b,o,cap',e,hb,h0,hc⟩
 ·rw [e2] at hj;simp at hj
 ·injection e with e1
  exact ⟨b,o,e1,hc j hj⟩
theorem Qul (ws:List Int) (q k:Nat) (v:Value) (ok:Bool) (w:World) (hl:ws.length<=4000) (h:Sp w q v ws k ok) (h1:k<ws.length) :
 Calls Tryz.prog 85 #[.pointer (some ⟨q,0,none⟩)] w fun e w'=>WoP ws w q v k ok e w':=by
 have c0:=h.c0;have c1:=h.c1;have HS:=Qaa h;obtain ⟨a,cap,rfl⟩:=h.row.slice;obtain ⟨b,o,rfl,_⟩:=h.word k h1;have HK:=Qaa h1;clear h;go_enter Tryz.func85,Tryz.ntmps85;go_wp2_with fail
 go_quiet (fail)
 have HS1:=Qaa (HS.out.drew nq);have HG1:=Qaa (Qf6 w nq q (q+1));clear c0 c1 HS;generalize w.drewN nq=w1 at *;have c1:=HS1.out.c1;have f1:=HS1.out.fr 1;have s1:=HS1.out.step h1;have c3:=s1.c0;have c4:(w1.setCell ⟨q,1,none⟩ (.int .i64 ((k:Int)+1))).cell? ⟨q,1,none⟩=some (.int .i64 ((k:Int)+1)):=s1.c1
 have e4:(k:Int)+1 - 1=k:=by omega
 have HS2:=Qaa s1;obtain ⟨b',o',hb',hc⟩:=s1.word k h1
 injection hb' with hb'
 injection hb' with hb1 hb2
 subst hb1 hb2;obtain ⟨X,hX⟩:∃X,ws.getD k 0=X:=⟨_,rfl⟩
 rw [hX] at hc;have HX:=Qaa hX;clear s1 HS1 hX;go_wp2_with fail
 go_quiet (fail)
 go_wp2_with fail;go_ret;unfold WoP;rw [HX.out];exact ⟨(HG1.out.trans (Qc5 _ q 1 _)).trans (Qf6 _ _ _ _),Or.inl ⟨HK.out,rfl,HS2.out.drew _⟩⟩
theorem Qum (ws:List Int) (q:Nat) (v:Value) (ok:Bool) (w:World) (hl:ws.length<=4000) (h:Sp w q v ws ws.length ok) :
 Calls Tryz.prog 85 #[.pointer (some ⟨q,0,none⟩)] w fun e w'=>WoP ws w q v ws.length ok e w':=by
 have c0:=h.c0;have c1:=h.c1;have HS:=Qaa h;obtain ⟨a,cap,rfl⟩:=h.row.slice;clear h;go_enter Tryz.func85,Tryz.ntmps85;go_wp2_with fail
 go_quiet (fail)
 have HS1:=Qaa (HS.out.drew nq);have HG1:=Qaa (Qf6 w nq q (q+1));clear c0 c1 HS;generalize w.drewN nq=w1 at *;have c2:=HS1.out.c2;have f2:=HS1.out.fr 2;have HS2:=Qaa HS1.out.dry;clear HS1;go_wp2_with fail;go_ret;unfold WoP;exact ⟨HG1.out.trans (Qc5 _ q 2 _),Or.inr ⟨rfl,rfl,HS2.out⟩⟩
theorem Qnd (ws:List Int) (q k:Nat) (v:Value) (ok:Bool) (w:World) (hl:ws.length<=4000) (h:Sp w q v ws k ok) :
 Calls Tryz.prog 85 #[.pointer (some ⟨q,0,none⟩)] w fun e w'=>WoP ws w q v k ok e w':=by
 rcases Nat.lt_or_ge k ws.length with h1 | h1
 ·exact Qul ws q k v ok w hl h h1
 ·obtain rfl:k=ws.length:=Nat.le_antisymm h.le h1;exact Qum ws q v ok w hl h
def Qne (W:World) (q n:Nat):Nat:=(match W.cell? ⟨q,1,none⟩ with
 | some (.int _ k)=>2*(n - k.toNat)
 | _=>0)+(match W.cell? ⟨q,2,none⟩ with
 | some (.bool true)=>1
 | _=>0)
theorem Sp.rest {w:World} {q k:Nat} {v:Value} {ws:List Int} {ok:Bool} (h:Sp w q v ws k ok):Qne w q ws.length=2*(ws.length - k)+(if ok then 1 else 0):=by
 unfold Qne;rw [h.c1,h.c2]
 cases ok <;> simp
def UnM (ws:List Int) (w:World) (q:Nat) (v:Value) (p J:Nat) (e:Ending) (w':World):Prop:=
 Chg w w' q (q+1)/\((J<ws.length/\e=.returned (.int .i64 (ws.getD J 0%p))/\Sp w' q v ws (J+1) true)∨(J=ws.length/\e=.returned (.int .i64 0)/\Sp w' q v ws J false))
theorem Qun (ws:List Int) (q k p J:Nat) (v:Value) (w:World) (hw:wdB ws=true) (hl:ws.length<=4000) (h:Sp w q v ws k true) (hp:2<=p/\p<=268435456) (hJ:Stp ws (Qlu p) k J) :
 Calls Tryz.prog 84 #[.pointer (some ⟨q,0,none⟩),.int .i64 p] w fun e w'=>UnM ws w q v p J e w':=by
 obtain ⟨p1,p2⟩:=hp;obtain ⟨m,hm,m1⟩:∃m,m=4294967296/p/\m<=4294967296:=⟨_,rfl,Nat.div_le_self _ _⟩
 have e1:(4294967296:Int).tdiv (p:Int)=(m:Int):=by rw [hm];rfl
 have e1':(4294967296:Int)/(p:Int)=(m:Int):=by rw [hm];rfl
 have e2:(m:Int)*(p:Int)=(Qlu p:Int):=by rw [hm,Qlu];rfl
 have p0:¬p=0:=by omega
 have HJ:=Qaa hJ;have HP:=Qaa h;have HW:=Qaa hw;have m2:=Qqs p (by omega) p2;have m3:=Qui p;obtain ⟨M,hM⟩:∃M,M=Qlu p:=⟨_,rfl⟩
 rw [<- hM] at e2 HJ m2 m3;clear hm hJ h hw hM;go_enter Tryz.func84,Tryz.ntmps84;go_wp2_with fail
 go_loopw [5] (fun x W=>Hid (Chg w W q (q+1)/\((∃i,Stp ws M i J/\Sp W q v ws i true)∨(J=ws.length/\Sp W q v ws J false)))) (fun x W=>Qne W q ws.length)
 case atStart=>exact ⟨⟨rfl,rfl,rfl,Nat.le_refl _,fun _ _ _=>rfl⟩,Or.inl ⟨k,HJ.out,HP.out⟩⟩
 case round=>
  clear HJ HP;obtain ⟨g,⟨i,hS,hPu⟩ | ⟨hJ,hPu⟩⟩:=hrel.out
  ·clear hrel;have HG:=Qaa g;have HS:=Qaa hS;have HQ:=Qaa hPu;have HR:Hid (Qne wr q ws.length=2*(ws.length - i)+1):=hPu.rest;have c2:=hPu.c2;clear g hS hPu;go_wp2_with fail;refine (Qnd ws q i v true wr hl HQ.out).mono ?_
   rintro e w2 ⟨g2,⟨hi,rfl,s2⟩ | ⟨hi,rfl,s2⟩⟩
   ·have HG2:=Qaa (HG.out.trans g2);have HS2:=Qaa s2;have HR2:Hid (Qne w2 q ws.length=2*(ws.length - (i+1))+1):=s2.rest;have hI:=hi;obtain ⟨x1,x2⟩:=Qlf HW.out i hi;clear g2 s2 HQ HG c2
    by_cases hx:(M:Int)<=ws.getD i 0
    ·have d1:decide (ws.getD i 0<(M:Int))=false:=decide_eq_false (by omega);have HS3:=Qaa (HS.out.next hi hx);generalize ws.getD i 0=X at *;go_wp2_with fail;refine ⟨⟨HG2.out,Or.inl ⟨i+1,HS3.out,HS2.out⟩⟩,?_⟩;rw [HR2.out,HR.out];omega
    ·have d1:decide (ws.getD i 0<(M:Int))=true:=decide_eq_true (by omega);have HK:=Qaa (HS.out.here (by omega));have e3:(ws.getD i 0).tmod (p:Int)=ws.getD i 0%(p:Int):=Int.tmod_eq_emod_of_nonneg x1;obtain ⟨X,hX⟩:∃X,ws.getD i 0=X:=⟨_,rfl⟩
     rw [hX] at e3 d1 x1 x2 hx ⊢;have HX:=Qaa hX;clear hX;go_wp2_with fail;go_ret;unfold UnM;rw [<- HK.out,HX.out];exact ⟨HG2.out,Or.inl ⟨hI,rfl,HS2.out⟩⟩
   ·have HG2:=Qaa (HG.out.trans g2);have HS2:=Qaa s2;have HK:Hid (i=J∧J=ws.length):=by have:=HS.out.ge;have:=HS.out.le;exact ⟨by omega,by omega⟩
    clear g2 s2 HQ HG c2 hi;go_wp2_with fail;go_ret;unfold UnM;rw [<- HK.out.1];exact ⟨HG2.out,Or.inr ⟨HK.out.1.trans HK.out.2,rfl,HS2.out⟩⟩
  ·have HG:=Qaa g;have HQ:=Qaa hPu;have c2:=hPu.c2;have HK:=Qaa hJ;clear hrel g hPu hJ;go_wp2_with fail;go_ret;unfold UnM;exact ⟨HG.out,Or.inr ⟨HK.out,rfl,HQ.out⟩⟩
end Go.Proofs.YtdaepfjocofkjaaGreatDoor
