/- Proved: what its theorems say. -/
import Derived.Test.YthcidnnkakppcaaGreatDoorDe08
import Derived.Deep.RegionLaw
import Derived.Deep.AppendLies
set_option linter.unusedVariables false
set_option linter.unusedSimpArgs false
set_option maxHeartbeats 2000000
set_option maxRecDepth 100000
namespace Go.Proofs.YthcidnnkakppcaaGreatDoor
open Go.ChangeShapes Go.WideShapes Go.ChangeAt Go.RowKit
theorem Qau (xs:List Nat):(toZ xs).length=xs.length:=by simp
theorem Qcd (xs:List Nat) (j:Nat):(toZ xs).getD j 0=((xs.getD j 0:Nat):Int):=by
 simp [List.getD,List.getElem?_map]
 cases xs[j]? <;> rfl
theorem Row.atZ {w:World} {v:Value} {xs:List Nat} (h:Row w v (toZ xs)) (h0:0<xs.length) :
  ∃b o cap,v=.slice (some ⟨b,o,none⟩) xs.length cap/\b<w.heap.size/\∀j,j<xs.length->w.cell? ⟨b,o+j,none⟩=some (.int .i64 ((xs.getD j 0:Nat):Int)):=by
 rcases h with ⟨a,cap,e,e2⟩ | ⟨b,o,cap,e,hb,h1,hc⟩
 ·have:=congrArg List.length e2;simp at this;rw [this] at h0
  cases h0
 ·rw [Qau] at e hc;exact ⟨b,o,cap,e,hb,fun j hj=>by rw [hc j hj,Qcd]⟩
abbrev Qbc (w:World) (base g n:Nat) (xs:List Int):Prop:=w.ownsRow base 3 1 (.slice (some ⟨g,0,none⟩) n n) n (xs.map (Value.int .i64))
theorem Qbc.get {w:World} {base g n:Nat} {xs:List Int} (h:Qbc w base g n xs) (hn:xs.length=n) (j:Nat) (hj:j<n):w.cell? ⟨g,j,none⟩=some (.int .i64 (xs.getD j 0)):=by
 rw [World.ownsRow.cellAt h j (by omega)];have:j<xs.length:=by omega
 simp [List.getD,this]
theorem Qbc.free {w:World} {base g n:Nat} {xs:List Int} (h:Qbc w base g n xs) (j:Nat):w.frozen? ⟨g,j,none⟩=false:=World.ownsRow.frozenAt h j
theorem Qbc.put {w:World} {base g n:Nat} {xs:List Int} (h:Qbc w base g n xs) (j:Nat) (y:Int):Qbc (w.setCell ⟨g,j,none⟩ (.int .i64 y)) base g n (xs.set j y):=by
 have:=(World.ownsRow.stored h j (.int .i64 y)).1;unfold Qbc;rw [List.map_set];exact this
theorem Qbc.own {w:World} {base g n:Nat} {xs:List Int} (h:Qbc w base g n xs) (hn:xs.length=n):Own w base (.slice (some ⟨g,0,none⟩) n n) xs:=by
 unfold Own;rw [hn];exact h
theorem Qbc.old {w w':World} {base g n:Nat} {xs:List Int} (h:Qbc w base g n xs) (hg:Old w w'):Qbc w' base g n xs:=by
 refine ⟨h.1,?_⟩;rcases h.2 with hn | ⟨p,cap,cur,e,hb,hgg,rest⟩
 ·exact .inl hn
 ·refine .inr ⟨p,cap,cur,e,hb,?_,rest⟩;rw [hg.block p (Array.getElem?_eq_some_iff.1 hgg).1];exact hgg
theorem Qg5 (x y P:Nat) (hx:x<P) (hy:y<P) (hP:P<=268435456):x*y<=72057594037927936:=by
 have:=Nat.mul_le_mul (Nat.le_of_lt hx) (Nat.le_of_lt hy);have:=Nat.mul_le_mul hP hP;omega
theorem getD_lt {P:Nat} {xs:List Nat} (h:∀x∈xs,x<P) (hP:0<P) (j:Nat):xs.getD j 0<P:=by
 by_cases hj:j<xs.length
 ·have e:xs.getD j 0=xs[j]:=by simp [List.getD,hj]
  rw [e];exact h _ (List.getElem_mem hj)
 ·have e:xs.getD j 0=0:=by simp [List.getD,List.getElem?_eq_none (show xs.length≤j by omega)]
  rw [e];exact hP
theorem one_cell (w:World) (x:Value) (t:TypeId):∀j u,[x][j]? = some u->(w.alloc (.cells #[x] t)).cell? ((⟨w.heap.size,0,none⟩:Addr).add j)=some u:=by
 intro j u h
 match j,h with
 | 0,h=>
   have:x=u:=by simpa using h
   subst this;exact Qad w _ _ _ _ rfl
 | j+1,h=>simp at h
theorem one_one (x:Int):∀u∈[Value.int .i64 x],u.oneCell'=true:=by simp [Value.oneCell']
theorem Own.snoc {w:World} {base:Nat} {v:Value} {xs:List Int} {y:Int} (h:w.ownsRow base 3 1 v (xs.length+1) (xs.map (Value.int .i64)++[.int .i64 y])):Own w base v (xs++[y]):=by
 unfold Own;rw [List.length_append,List.map_append];exact h
theorem Own.alloc {w:World} {base:Nat} {v:Value} {xs:List Int} (h:Own w base v xs) (o:Obj):Own (w.alloc o) base v xs:=h.old ((Old.refl _).alloc _)
abbrev Sz4 (N:Nat):Prop:=N=2∨N=4∨N=8∨N=16
def lg (N:Nat):Nat:=if N=2 then 1 else if N=4 then 2 else if N=8 then 3 else 4
theorem Qe5 {N:Nat} (h:Sz4 N):2^lg N=N/\1<=lg N/\lg N<=4:=by rcases h with rfl | rfl | rfl | rfl <;> decide
theorem Q2u {N:Nat} (h:Sz4 N):Lib.ctz 64 N=lg N:=by rcases h with rfl | rfl | rfl | rfl <;> decide +kernel
theorem Qon {N:Nat} (h:Sz4 N):2<=N/\N<=16:=by omega
theorem Qt0 (b:Nat):∀(s k o:Nat),o<2^b->Qai s k o<2^(b+s)
 | 0,k,o,h=>h
 | s+1,k,o,h=>by
   have:=Qt0 (b+1) s (k/2) (2*o+k%2) (by rw [Nat.pow_succ];omega);rw [show b+1+s=b+(s+1) by omega] at this;exact this
theorem Qg6 {N:Nat} (h:Sz4 N) (k:Nat):Qai (lg N) k 0<N:=by
 have:=Qt0 0 (lg N) k 0 (by decide);rw [Nat.zero_add,(Qe5 h).1] at this;exact this
theorem Qgu (N:Nat) (w:World) (h:Sz4 N) (hT:Qbb w) :
  Calls Tryz.prog 149 #[.int .i64 N] w fun e w'=>e=.returned (.int .i64 (lg N))/\w'=w:=by
 have hb:=Qon h;have c:=fun W (hT:Qbb W)=>Qsy N (by omega) (by omega) W hT
 rw [Q2u h] at c;have HT:=Qaa hT;generalize lg N=L at *;clear hT h;go_enter Tryz.func149,Tryz.ntmps149;go_wp2_with fail;refine (c _ HT.out).mono ?_
 rintro e w1 ⟨rfl,rfl⟩;go_wp2_with fail;go_ret;exact ⟨rfl,rfl⟩
theorem Qji (N k:Nat) (w:World) (h:Sz4 N) (hk:k<N) :
  Calls Tryz.prog 152 #[.int .i64 k,.int .i64 (lg N)] w fun e w'=>e=.returned (.int .i64 (Qai (lg N) k 0))/\w'=w:=
 Qj7 k (lg N) w (by have:=Qe5 h;omega) (by rw [(Qe5 h).1];exact hk)
def Qvm (N:Nat):List Nat:=(List.range N).map (fun k=>2*Qai (lg N) k 0+1)
theorem Qg7 (N k:Nat) (h:k<N):(Qvm N).getD k 0=2*Qai (lg N) k 0+1:=by simp [Qvm,List.getD,h]
end Go.Proofs.YthcidnnkakppcaaGreatDoor
namespace Go.Proofs.YthcidnnkakppcaaGreatDoor
open Go.ChangeShapes Go.WideShapes Go.ChangeAt Go.RowKit
open M1
def Q0u (P x:Nat) (xs:List Nat) (N:Nat):Nat->Nat
 | 0=>0
 | c+1=>(Q0u P x xs N c*x+xs.getD (N - 1 - c) 0)%P
theorem Qoo (P x:Nat) (xs:List Nat) (N:Nat) (hP:0<P):∀c,Q0u P x xs N c<P
 | 0=>hP
 | c+1=>Nat.mod_lt _ hP
def Qf3 (P N R:Nat) (xs:List Nat):List Nat:=(List.range N).map (fun k=>Q0u P (R^((Qvm N).getD k 0)%P) xs N N)
theorem Qdh (P N R:Nat) (xs:List Nat):(Qf3 P N R xs).length=N:=by simp [Qf3]
theorem Qkg (P N R:Nat) (xs:List Nat) (k:Nat) (h:k<N):(Qf3 P N R xs).getD k 0=Q0u P (R^((Qvm N).getD k 0)%P) xs N N:=by simp [Qf3,List.getD,h]
end Go.Proofs.YthcidnnkakppcaaGreatDoor
namespace Go.Proofs.YthcidnnkakppcaaGreatDoor
open Go.ChangeShapes Go.WideShapes Go.ChangeAt Go.RowKit
theorem Qh4 (g N part parts size:Nat) (w:World) (hN:2≤N∧N≤16) (hp:N=parts*size) (h1:1≤parts) (h2:1≤size) (hlt:part<parts) :
  Calls Tryz.prog 151 #[.slice (some ⟨g,0,none⟩) N N,.int .i64 part,.int .i64 parts] w fun e w'=>e=.returned (.slice (some ⟨g,part*size,none⟩) size (N - part*size))/\w'=w:=by
 have hd:N/parts=size:=by rw [hp];exact Nat.mul_div_cancel_left _ (by omega)
 have e0:(N:Int)/(parts:Int)=(size:Int):=by rw [<- hd];simp
 have hle:(part+1)*size<=N:=by rw [hp];exact Nat.mul_le_mul_right _ (by omega)
 have e1:(part:Int)*(size:Int)=((part*size:Nat):Int):=by simp
 have e2:((part:Int)+1)*(size:Int)=(((part+1)*size:Nat):Int):=by simp
 have e3:(part+1)*size=part*size+size:=by rw [Nat.add_mul,Nat.one_mul]
 have hpt:part<=16:=by
  have:parts<=parts*size:=Nat.le_mul_of_pos_right _ (by omega);omega
 have hpp:parts<=16:=by
  have:parts<=parts*size:=Nat.le_mul_of_pos_right _ (by omega);omega
 have hsz:size<=16:=by
  have:size<=parts*size:=Nat.le_mul_of_pos_left _ (by omega);omega
 rw [e3] at e2 hle;generalize part*size=lo at *;obtain ⟨hi,hhi⟩:∃hi,hi=lo+size:=⟨_,rfl⟩
 rw [<- hhi] at e2 hle;have es:hi - lo=size:=by omega
 have hlh2:lo<hi:=by omega
 have hle':(lo:Int)<=(hi:Int):=by omega
 have hle2:(hi:Int)<=(N:Int):=by omega
 have hpn2:¬parts=0:=by omega
 rw [<- es];clear hp hd e3 hhi es;go_enter Tryz.func151,Tryz.ntmps151;go_wp2_with fail
 all_goals
  go_ret
  first
   | (exfalso;omega)
   | exact ⟨rfl,rfl⟩
def Qfc (P N:Nat) (xs ys:List Nat):List Nat:=(List.range N).map (fun k=>xs.getD k 0*ys.getD k 0%P)
theorem Qej (P N:Nat) (xs ys:List Nat):(Qfc P N xs ys).length=N:=by simp [Qfc]
theorem Qmr (P N:Nat) (xs ys:List Nat) (k:Nat) (h:k<N):(Qfc P N xs ys).getD k 0=xs.getD k 0*ys.getD k 0%P:=by simp [Qfc,List.getD,h]
theorem Qkh (P N R:Nat) (xs ys:List Nat) (v u:Value) (w:World) (hv:Row w v (toZ xs)) (hu:Row w u (toZ ys)) (hP:2≤P∧P≤268435456) (hN:2≤N∧N≤16) (la:xs.length=N) (lb:ys.length=N) (ha:∀x∈xs,x<P) (hb:∀x∈ys,x<P) :
  Calls Tryz.prog 121 #[.agg #[.int .i64 P,.int .i64 N,.int .i64 R],v,u] w fun e w'=>∃v',e=.returned v'/\Old w w'/\Own w' w.heap.size v' (toZ (Qfc P N xs ys)):=by
 obtain ⟨i0,hi,hz0,hz1,hz2⟩:=info_parts Tryz.infoInt;obtain ⟨b1,o1,cap1,rfl,hb1,hc1⟩:=hv.atZ (by omega);obtain ⟨b2,o2,cap2,rfl,hb2,hc2⟩:=hu.atZ (by omega);rw [la] at hc1 ⊢;rw [lb] at hc2 ⊢;have HC1:=Qaa hc1;have HC2:=Qaa hc2;have HE:Hid (∀k,k<N->(toZ (Qfc P N xs ys)).getD k 0=((xs.getD k 0*ys.getD k 0%P:Nat):Int)):=fun k hk=>by rw [Qcd,Qmr P N xs ys k hk]
 have hlen:(toZ (Qfc P N xs ys)).length=N:=by rw [Qau,Qej]
 have HA:=Qaa (fun k=>getD_lt ha (by omega) k);have HB:=Qaa (fun k=>getD_lt hb (by omega) k);generalize toZ (Qfc P N xs ys)=zs at *;clear hc1 hc2 hv hu la lb ha hb;have RC0:Hid (Rc (w.alloc (.cells #[.int .i64 P,.int .i64 N,.int .i64 R] 133)) w.heap.size P N R):=Rc.new w _ _ _;have hpn2:¬P=0:=by omega
 go_enter Tryz.func121,Tryz.ntmps121;go_wp2_with (at_make;refine wpList_make_full _ rfl _ _ 22 rfl (w.heap.size+1) 3 i0 (.int .i64 0) 1 Tryz.underlying22 hi hz0 hz1 .i64 .i64 _ _ N rfl rfl rfl rfl (by rw [hz2];omega) (by unfold maxLen;omega) (by simp) ?_;intro w1 hown hgrow;have z1:=(RC0.out.by_ hgrow (fun k hk=>by cases hk)).c1)
 have HO:Hid (Qbc w1 (w.heap.size+1) (w.heap.size+1) N (List.replicate N 0)):=by
  have e:(w.alloc (.cells #[.int .i64 P,.int .i64 N,.int .i64 R] 133)).heap.size=w.heap.size+1:=by simp
  rw [Qbj,e] at hown;exact hown
 have HG:Hid (Old (w.alloc (.cells #[.int .i64 P,.int .i64 N,.int .i64 R] 133)) w1):=Old.by_ (Old.refl _) hgrow (fun b hb=>by cases hb);have HSZ:Hid ((w.alloc (.cells #[.int .i64 P,.int .i64 N,.int .i64 R] 133)).heap.size=w.heap.size+1):=by show _ = _;simp
 clear hown hgrow z1
 go_loopw [8,14] (fun x i W=>∃k:Nat,k<=N/\i=.int .i64 k/\Hid (Qbc W (w.heap.size+1) (w.heap.size+1) N (Qbr zs k))/\Hid (Old (w.alloc (.cells #[.int .i64 P,.int .i64 N,.int .i64 R] 133)) W)) (fun _ i _=>N - (intOf i).toNat)
 case atStart=>exact ⟨0,by omega,rfl,(by show Qbc _ _ _ _ _;rw [Qch,hlen];exact HO.out),HG⟩
 case round=>
  obtain ⟨k,hk,rfl,HO1,HG2⟩:=hrel;clear HO HG;have HG1:=Qaa (Old.trans ((Old.refl w).alloc _) HG2.out);have RC2:=Qaa (RC0.out.old HG2.out)
  by_cases hlt:k<N
  ·have i1:(k:Int)<(N:Int):=by omega
   have c1:=(HG1.out.cell (p:=⟨b1,o1+k,none⟩) hb1).trans (HC1.out k hlt);have c2:=(HG1.out.cell (p:=⟨b2,o2+k,none⟩) hb2).trans (HC2.out k hlt);have z0:=RC2.out.c0;have c3:=HO1.out.get (Qbd zs k (by omega) |>.trans hlen) k hlt;have c4:=HO1.out.free k;have HX:=Qaa (HE.out k hlt);have hx:=HA.out k;have hy:=HB.out k;have hm:=Qg5 _ _ P hx hy hP.2;generalize xs.getD k 0=x at *;generalize ys.getD k 0=y at *;generalize (Qbr zs k).getD k 0=oldv at *;have e1:(x:Int)*(y:Int)=((x*y:Nat):Int):=by simp
   have HP:Hid (Qbc (wr.setCell ⟨w.heap.size+1,k,none⟩ (.int .i64 ((x*y%P:Nat):Int))) (w.heap.size+1) (w.heap.size+1) N (Qbr zs (k+1))):=by
    have:=HO1.out.put k ((x*y%P:Nat):Int);rw [<- HX.out,Qc4 zs k (by omega)] at this;rw [<- HX.out];exact this
   have e2:((x*y:Nat):Int)%(P:Int)=((x*y%P:Nat):Int):=by simp
   generalize x*y=m at *;generalize m%P=q at *;go_wp2_with fail;have HN2:Hid (Old (w.alloc (.cells #[.int .i64 P,.int .i64 N,.int .i64 R] 133)) (wr.setCell ⟨w.heap.size+1,k,none⟩ (.int .i64 (q:Int)))):=HG2.out.own (by simp;try omega) _
   go_region
   go_wp2_with fail;exact ⟨⟨k+1,by omega,by go_num,HP.out,HN2.out.drewN 1⟩,by simp [intOf];omega⟩
  ·have d1:decide ((k:Int)<(N:Int))=false:=by simp;omega
   obtain rfl:k=N:=by omega
   have HF:Hid (Own wr (w.heap.size+1) (.slice (some ⟨w.heap.size+1,0,none⟩) k k) zs):=by
    have:=HO1.out.own ((Qbd zs k (by omega)).trans hlen);rw [show Qbr zs k=zs by rw [<- hlen];exact Qc3 zs] at this;exact this
   go_wp2_with fail;go_ret;exact ⟨_,rfl,HG1.out,HF.out.low (by omega)⟩
end Go.Proofs.YthcidnnkakppcaaGreatDoor
