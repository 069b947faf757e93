/- Proved: what its theorems say. -/
import Derived.Test.YthcidnnkakppcaaGreatDoorDe19
set_option linter.unusedVariables false
set_option linter.unusedSimpArgs false
set_option maxHeartbeats 2000000
set_option maxRecDepth 100000
namespace Go.Proofs.YthcidnnkakppcaaGreatDoor
open Go.ChangeShapes Go.WideShapes Go.ChangeAt Go.RowKit
theorem Qfy {a b c:World} {o:Option Nat} (h:a.grownBy b o) (k:b.grownBy c o):a.grownBy c o:=
 ⟨k.os.trans h.os,k.tape.trans h.tape,k.output.trans h.output,Nat.le_trans h.size k.size,fun p hp hne=>(k.block p (Nat.lt_of_lt_of_le hp h.size) hne).trans (h.block p hp hne)⟩
theorem Qfz {a b:World} {o:Option Nat} (h:a.grownBy b o) (n:Nat):a.grownBy (b.drewN n) o:=⟨h.os,h.tape,h.output,h.size,h.block⟩
theorem Qbc.gby {w:World} {base g n:Nat} {xs:List Int} (h:Qbc w base g n xs) (j:Nat) (y:Int):w.grownBy (w.setCell ⟨g,j,none⟩ (.int .i64 y)) (some g):=(World.ownsRow.stored h j (.int .i64 y)).2
def spS (P w0 off hh:Nat) (fs:List Nat):Nat->List Nat
 | 0=>fs
 | i+1=>((spS P w0 off hh fs i).set (off+i) (((spS P w0 off hh fs i).getD (off+i) 0+w0*(spS P w0 off hh fs i).getD (off+hh+i) 0%P)%P)).set (off+hh+i) (((spS P w0 off hh fs i).getD (off+i) 0+P - w0*(spS P w0 off hh fs i).getD (off+hh+i) 0%P)%P)
theorem Qkl (P w0 off hh:Nat) (fs:List Nat):∀i,(spS P w0 off hh fs i).length=fs.length
 | 0=>rfl
 | i+1=>by rw [spS,List.length_set,List.length_set,Qkl P w0 off hh fs i]
theorem Qqh {P:Nat} {xs:List Nat} (h:∀x∈xs,x<P) (i y:Nat) (hy:y<P):∀x∈xs.set i y,x<P:=fun x hx=>by
 rcases List.mem_or_eq_of_mem_set hx with h1 | h1
 ·exact h x h1
 ·rw [h1];exact hy
theorem Qt6 (P w0 off hh:Nat) (fs:List Nat) (hP:0<P) (h:∀x∈fs,x<P):∀i,∀x∈spS P w0 off hh fs i,x<P
 | 0=>h
 | i+1=>by
   rw [spS];exact Qqh (Qqh (Qt6 P w0 off hh fs hP h i) _ _ (Nat.mod_lt _ hP)) _ _ (Nat.mod_lt _ hP)
theorem Qfd (xs:List Nat) (i y:Nat):toZ (xs.set i y)=(toZ xs).set i (y:Int):=by simp [toZ,List.map_set]
theorem Qrs (P N R w0 off hh cap g base:Nat) (fs:List Nat) (w:World) (hP:2≤P∧P≤268435456) (hw0:w0<P) (hN:N≤16) (hof:off+2*hh≤N) (hO:Qbc w base g N (toZ fs)) (hgl:g<w.heap.size) (lf:fs.length=N) (hf:∀x∈fs,x<P) :
  Calls Tryz.prog 154 #[.agg #[.int .i64 P,.int .i64 N,.int .i64 R],.slice (some ⟨g,off,none⟩) (2*hh) cap,.int .i64 w0] w fun e w'=>e=.returned (.tuple #[])/\w.grownBy w' (some g)/\Qbc w' base g N (toZ (spS P w0 off hh fs hh)):=by
 have HO:=Qaa hO;have HLT:=Qaa (fun i j=>getD_lt (Qt6 P w0 off hh fs (by omega) hf i) (by omega) j);have HLN:Hid (∀i,(toZ (spS P w0 off hh fs i)).length=N):=fun i=>by rw [Qau,Qkl,lf]
 have HST:Hid (∀i,toZ (spS P w0 off hh fs (i+1))=((toZ (spS P w0 off hh fs i)).set (off+i) (((spS P w0 off hh fs i).getD (off+i) 0+w0*(spS P w0 off hh fs i).getD (off+hh+i) 0%P)%P:Nat)).set (off+hh+i) (((spS P w0 off hh fs i).getD (off+i) 0+P - w0*(spS P w0 off hh fs i).getD (off+hh+i) 0%P)%P:Nat)):=fun i=>by rw [spS,Qfd,Qfd]
 have H0:Hid (spS P w0 off hh fs 0=fs):=rfl;generalize spS P w0 off hh fs=F at *;clear hO lf hf;obtain ⟨ln,hln⟩:∃ln,ln=2*hh:=⟨_,rfl⟩
 have el:(ln:Int)/2=(hh:Int):=by omega
 rw [<- hln];have hlb:ln<=16:=by omega
 have HLH:=Qaa hln;have hhl:hh<=8:=by omega
 clear hln;have RC0:Hid (Rc (w.alloc (.cells #[.int .i64 P,.int .i64 N,.int .i64 R] 133)) w.heap.size P N R):=Rc.new w _ _ _;have HG0:Hid (w.grownBy (w.alloc (.cells #[.int .i64 P,.int .i64 N,.int .i64 R] 133)) (some g)):=World.grownBy_alloc _ _ _
 have HO0:Hid (Qbc (w.alloc (.cells #[.int .i64 P,.int .i64 N,.int .i64 R] 133)) base g N (toZ (F 0))):=by
  show Qbc _ _ _ _ _
  rw [H0.out];exact HO.out.old ((Old.refl w).alloc _)
 have hpn2:¬P=0:=by omega
 clear HO H0;go_enter Tryz.func154,Tryz.ntmps154;go_wp2_with fail
 go_loopw [7,8,9,14] (fun x y z i W=>∃k:Nat,k<=hh/\i=.int .i64 k/\Hid (Qbc W base g N (toZ (F k)))/\Hid (w.grownBy W (some g))/\Hid (Rc W w.heap.size P N R)) (fun _ _ _ i _=>hh - (intOf i).toNat)
 case atStart=>exact ⟨0,by omega,rfl,HO0,HG0,RC0⟩
 case round=>
  obtain ⟨k,hk,rfl,HO1,HG1,RC1⟩:=hrel;clear HO0 HG0 RC0
  by_cases hlt:k<hh
  ·have hk2:off+k<N:=by omega
   have hk3:off+hh+k<N:=by omega
   have i1:(k:Int)<(ln:Int):=by have:=HLH.out;omega
   have z0:=RC1.out.c0;have c1:=HO1.out.get (HLN.out k) (off+k) hk2;have c2:=HO1.out.get (HLN.out k) (off+hh+k) hk3;rw [Qcd] at c1 c2;have c3:=HO1.out.free (off+k);have c4:=HO1.out.free (off+hh+k);have hx:=HLT.out k (off+k);have hy:=HLT.out k (off+hh+k);have HS:=HST.out k;generalize (F k).getD (off+k) 0=x at *;generalize (F k).getD (off+hh+k) 0=y at *;have hmul:=Qg5 w0 y P hw0 hy hP.2;have e1:(w0:Int)*(y:Int)=((w0*y:Nat):Int):=by simp
   have hq:w0*y%P<P:=Nat.mod_lt _ (by omega);have e2:((w0*y:Nat):Int)%(P:Int)=((w0*y%P:Nat):Int):=by simp
   generalize w0*y=s at *;have ew1:IntKind.i64.wrap ((s:Nat):Int)=(s:Int):=by rw [IntKind.wrap_i64];omega
   have e3:Int.tmod (s:Int) (P:Int)=((s%P:Nat):Int):=by rw [Int.tmod_eq_emod_of_nonneg (by omega)];simp
   generalize s%P=q at *;obtain ⟨jj,hjj⟩:∃jj,jj=hh+k:=⟨_,rfl⟩
   have ej:(hh:Int)+(k:Int)=(jj:Int):=by omega
   have i2:(jj:Int)<(ln:Int):=by have:=HLH.out;omega
   have ewj:IntKind.i64.wrap (jj:Int)=(jj:Int):=by rw [IntKind.wrap_i64];omega
   rw [show off+hh+k=off+jj by omega] at c2 c4 HS;have HSS:Hid (toZ (F (k+1))=_):=HS;clear hjj HS;go_wp2_with fail
   go_quiet (fail)
   have HO2:Hid (Qbc (wr.drewN nq) base g N (toZ (F k))):=HO1.out;have HG2:=Qaa (Qfz HG1.out nq);have RC2:=Qaa (RC1.out.old ((Old.refl _).drewN nq));have c1':(wr.drewN nq).cell? ⟨g,off+k,none⟩=some (.int .i64 (x:Int)):=c1
   have c2':(wr.drewN nq).cell? ⟨g,off+jj,none⟩=some (.int .i64 (y:Int)):=c2
   have c3':(wr.drewN nq).frozen? ⟨g,off+k,none⟩=false:=c3
   have c4':(wr.drewN nq).frozen? ⟨g,off+jj,none⟩=false:=c4
   have z0':(wr.drewN nq).cell? ⟨w.heap.size,0,none⟩=some (.int .i64 (P:Int)):=z0
   clear c1 c2 c3 c4 z0 HO1 HG1 RC1 e1 e2 e3 ew1;generalize wr.drewN nq=W2 at *;have e5:(x:Int)+(q:Int)=((x+q:Nat):Int):=by simp
   have ewS:IntKind.i64.wrap ((x:Int) - (q:Int))=(x:Int) - (q:Int):=by rw [IntKind.wrap_i64];omega
   have e6:(x:Int) - (q:Int)+(P:Int)=((x+P - q:Nat):Int):=by omega
   have hA:(x+q)%P<P:=Nat.mod_lt _ (by omega);have hB:(x+P - q)%P<P:=Nat.mod_lt _ (by omega);have b5:x+q<=600000000:=by omega
   have b6:x+P - q<=600000000:=by omega
   generalize x+q=sA at *;generalize x+P - q=sB at *;have ewA:IntKind.i64.wrap ((sA:Nat):Int)=(sA:Int):=by rw [IntKind.wrap_i64];omega
   have ewB:IntKind.i64.wrap ((sB:Nat):Int)=(sB:Int):=by rw [IntKind.wrap_i64];omega
   have mA:(sA:Int)%(P:Int)=((sA%P:Nat):Int):=by simp
   have mB:(sB:Int)%(P:Int)=((sB%P:Nat):Int):=by simp
   have tA:Int.tmod (sA:Int) (P:Int)=((sA%P:Nat):Int):=by rw [Int.tmod_eq_emod_of_nonneg (by omega)];simp
   have tB:Int.tmod (sB:Int) (P:Int)=((sB%P:Nat):Int):=by rw [Int.tmod_eq_emod_of_nonneg (by omega)];simp
   generalize sA%P=A at *;generalize sB%P=B at *
   have HO3:Hid (Qbc ((W2.setCell ⟨g,off+k,none⟩ (.int .i64 (A:Int))).setCell ⟨g,off+jj,none⟩ (.int .i64 (B:Int))) base g N (toZ (F (k+1)))):=by
    show Qbc _ _ _ _ _
    rw [HSS.out];exact (HO2.out.put (off+k) _).put (off+jj) _
   have HG3:Hid (w.grownBy ((W2.setCell ⟨g,off+k,none⟩ (.int .i64 (A:Int))).setCell ⟨g,off+jj,none⟩ (.int .i64 (B:Int))) (some g)):=Qfy HG2.out (Qfy (HO2.out.gby (off+k) _) ((HO2.out.put (off+k) _).gby (off+jj) _));have HR3:Hid (Rc ((W2.setCell ⟨g,off+k,none⟩ (.int .i64 (A:Int))).setCell ⟨g,off+jj,none⟩ (.int .i64 (B:Int))) w.heap.size P N R):=(RC2.out.by_ (HO2.out.gby (off+k) _) (fun b hb=>by injection hb with hb;omega)).by_ ((HO2.out.put (off+k) _).gby (off+jj) _) (fun b hb=>by injection hb with hb;omega);clear HSS;go_wp2_with fail
   go_region
   all_goals
    go_wp2_with fail;exact ⟨⟨k+1,by omega,by go_num,HO3.out,Qfz HG3.out 1,HR3.out.old ((Old.refl _).drewN 1)⟩,by simp [intOf];omega⟩
  ·have d1:decide ((k:Int)<(hh:Int))=false:=by simp;omega
   obtain rfl:k=hh:=by omega
   go_wp2_with fail
   go_end0
   exact ⟨rfl,HG1.out,HO1.out⟩
end Go.Proofs.YthcidnnkakppcaaGreatDoor
namespace Go.Proofs.YthcidnnkakppcaaGreatDoor
def Cg (P a b:Int):Prop:=∃c:Int,a=b+P*c
theorem Cg.refl (P a:Int):Cg P a a:=⟨0,by simp⟩
theorem Cg.symm {P a b:Int} (h:Cg P a b):Cg P b a:=by
 obtain ⟨c,h⟩:=h;exact ⟨-c,by rw [h];grind⟩
theorem Cg.trans {P a b c:Int} (h:Cg P a b) (k:Cg P b c):Cg P a c:=by
 obtain ⟨x,h⟩:=h;obtain ⟨y,k⟩:=k;exact ⟨x+y,by rw [h,k];grind⟩
theorem Cg.add {P a b c d:Int} (h:Cg P a b) (k:Cg P c d):Cg P (a+c) (b+d):=by
 obtain ⟨x,h⟩:=h;obtain ⟨y,k⟩:=k;exact ⟨x+y,by rw [h,k];grind⟩
theorem Cg.mul {P a b c d:Int} (h:Cg P a b) (k:Cg P c d):Cg P (a*c) (b*d):=by
 obtain ⟨x,h⟩:=h;obtain ⟨y,k⟩:=k;exact ⟨x*d+b*y+P*x*y,by rw [h,k];grind⟩
theorem Cg.neg {P a b:Int} (h:Cg P a b):Cg P (-a) (-b):=by
 obtain ⟨x,h⟩:=h;exact ⟨-x,by rw [h];grind⟩
theorem Cg.pow {P a b:Int} (h:Cg P a b):∀n:Nat,Cg P (a^n) (b^n)
 | 0=>by simp;exact Cg.refl _ _
 | n+1=>by rw [Int.pow_succ,Int.pow_succ];exact (Cg.pow h n).mul h
theorem Cg.mod (P a:Nat):Cg P ((a%P:Nat):Int) (a:Int):=by
 refine ⟨-((a/P:Nat):Int),?_⟩;have:=Nat.div_add_mod a P;have e:((a:Nat):Int)=(P:Int)*((a/P:Nat):Int)+((a%P:Nat):Int):=by exact_mod_cast this.symm
 rw [e]
 grind
theorem Cg.eq_of_lt {P a b:Nat} (h:Cg P a b) (ha:a<P) (hb:b<P):a=b:=by
 obtain ⟨c,h⟩:=h;have:(a:Int)%(P:Int)=(b:Int)%(P:Int):=by rw [h];exact Int.add_mul_emod_self_left _ _ _
 rw [Int.emod_eq_of_lt (by omega) (by omega),Int.emod_eq_of_lt (by omega) (by omega)] at this;omega
def evI (f:Nat->Int) (x:Int):Nat->Int
 | 0=>0
 | h+1=>evI f x h+f h*x^h
theorem Qos (f:Nat->Int) (x:Int) (h:Nat):∀k,evI f x (h+k)=evI f x h+x^h*evI (fun i=>f (h+i)) x k
 | 0=>by simp [evI]
 | k+1=>by
   rw [<- Nat.add_assoc,evI,Qos f x h k,evI,Int.pow_add]
   grind
theorem Qqi {P:Int} {f g:Nat->Int} (x:Int):∀h,(∀i,i<h->Cg P (f i) (g i))->Cg P (evI f x h) (evI g x h)
 | 0,_=>Cg.refl _ _
 | h+1,H=>(Qqi x h (fun i hi=>H i (by omega))).add ((H h (by omega)).mul (Cg.refl _ _))
theorem Qkm (f g:Nat->Int) (c x:Int):∀h,evI (fun i=>f i+c*g i) x h=evI f x h+c*evI g x h
 | 0=>by simp [evI]
 | h+1=>by rw [evI,Qkm f g c x h,evI,evI];grind
theorem Q2z {P:Int} (f:Nat->Int) {x y:Int} (hx:Cg P x y):∀h,Cg P (evI f x h) (evI f y h)
 | 0=>Cg.refl _ _
 | h+1=>(Q2z f hx h).add ((Cg.refl _ _).mul (hx.pow h))
theorem Qt7 (P x:Nat) (xs:List Nat) (N:Nat):∀c,c<=N->Cg P (Q0u P x xs N c) (evI (fun i=>((xs.getD (N - c+i) 0:Nat):Int)) x c)
 | 0,_=>by simp [Q0u,evI];exact Cg.refl _ _
 | c+1,hc=>by
   have ih:=Qt7 P x xs N c (by omega);rw [Q0u];refine (Cg.mod P _).trans ?_
   have e:evI (fun i=>((xs.getD (N - (c+1)+i) 0:Nat):Int)) x (c+1)=((xs.getD (N - 1 - c) 0:Nat):Int)+x*evI (fun i=>((xs.getD (N - c+i) 0:Nat):Int)) x c:=by
    have h1:=Qos (fun i=>((xs.getD (N - (c+1)+i) 0:Nat):Int)) x 1 c;rw [Nat.add_comm 1 c] at h1;rw [h1];simp only [evI,Int.pow_zero,Int.pow_one]
    have e2:(fun i=>((xs.getD (N - (c+1)+(1+i)) 0:Nat):Int))=(fun i=>((xs.getD (N - c+i) 0:Nat):Int)):=by
     funext i
     rw [show N - (c+1)+(1+i)=N - c+i by omega]
    rw [e2,show N - (c+1)+0=N - 1 - c by omega]
    grind
   rw [e]
   push_cast
   have h2:=(Cg.refl P ((xs.getD (N - 1 - c) 0:Nat):Int)).add ((Cg.refl (P:Int) (x:Int)).mul ih);refine Cg.trans ?_ h2
   exact ⟨0,by push_cast;grind⟩
theorem Q20 (l:List Nat) (i v m:Nat) (hi:i<l.length):(l.set i v).getD m 0=if m=i then v else l.getD m 0:=by
 by_cases h:m=i
 ·subst h;simp [List.getD,hi]
 ·rw [if_neg h];simp only [List.getD];rw [List.getElem?_set_ne (by omega)]
theorem Qyj (P w0 off hh:Nat) (fs:List Nat) (hl:off+2*hh≤fs.length):∀i,i≤hh→∀m,(spS P w0 off hh fs i).getD m 0 =
  if off<=m/\m<off+i then (fs.getD m 0+w0*fs.getD (m+hh) 0%P)%P else if off+hh<=m/\m<off+hh+i then (fs.getD (m - hh) 0+P - w0*fs.getD m 0%P)%P else fs.getD m 0
 | 0,_,m=>by
   rw [if_neg (by omega),if_neg (by omega)];rfl
 | i+1,hi,m=>by
   have ih:=Qyj P w0 off hh fs hl i (by omega);have hln:=Qkl P w0 off hh fs i;have e1:(spS P w0 off hh fs i).getD (off+i) 0=fs.getD (off+i) 0:=by rw [ih,if_neg (by omega),if_neg (by omega)]
   have e2:(spS P w0 off hh fs i).getD (off+hh+i) 0=fs.getD (off+hh+i) 0:=by rw [ih,if_neg (by omega),if_neg (by omega)]
   rw [spS,Q20 _ _ _ _ (by rw [List.length_set,hln];omega),Q20 _ _ _ _ (by rw [hln];omega),e1,e2,ih m]
   by_cases h1:m=off+hh+i
   ·subst h1;rw [if_pos rfl,if_neg (by omega),if_pos (by omega),show off+hh+i - hh=off+i by omega]
   ·rw [if_neg h1]
    by_cases h2:m=off+i
    ·subst h2;rw [if_pos rfl,if_pos (by omega),show off+i+hh=off+hh+i by omega]
    ·rw [if_neg h2]
     by_cases h3:off<=m/\m<off+i
     ·rw [if_pos h3,if_pos (by omega)]
     ·rw [if_neg h3]
      by_cases h4:off+hh<=m/\m<off+hh+i
      ·rw [if_pos h4,if_neg (by omega),if_pos (by omega)]
      ·rw [if_neg h4,if_neg (by omega),if_neg (by omega)]
def fpS (P N R s:Nat) (fs:List Nat):Nat->List Nat
 | 0=>fs
 | j+1=>spS P (R^(Qai (lg N) (2^s+j) 0)%P) (j*(N/2^s)) (N/2^s/2) (fpS P N R s fs j) (N/2^s/2)
def fsS (P N R:Nat) (xs:List Nat):Nat->List Nat
 | 0=>xs
 | s+1=>fpS P N R s (fsS P N R xs s) (2^s)
theorem Qkn (P N R s:Nat) (fs:List Nat):∀j,(fpS P N R s fs j).length=fs.length
 | 0=>rfl
 | j+1=>by rw [fpS,Qkl,Qkn P N R s fs j]
theorem Qko (P N R:Nat) (xs:List Nat):∀s,(fsS P N R xs s).length=xs.length
 | 0=>rfl
 | s+1=>by rw [fsS,Qkn,Qko P N R xs s]
theorem Qt8 (P N R s:Nat) (fs:List Nat) (hP:0<P) (h:∀x∈fs,x<P):∀j,∀x∈fpS P N R s fs j,x<P
 | 0=>h
 | j+1=>by rw [fpS];exact Qt6 _ _ _ _ _ hP (Qt8 P N R s fs hP h j) _
theorem Qqj (P N R:Nat) (xs:List Nat) (hP:0<P) (h:∀x∈xs,x<P):∀s,∀x∈fsS P N R xs s,x<P
 | 0=>h
 | s+1=>by rw [fsS];exact Qt8 _ _ _ _ _ hP (Qqj P N R xs hP h s) _
theorem dv {m D J:Nat} (h1:J*D<=m) (h2:m<J*D+D):m/D=J:=by
 apply Nat.div_eq_of_lt_le
 ·exact h1
 ·rw [Nat.add_mul,Nat.one_mul];exact h2
theorem Qt9 (m D:Nat) (hD:0<D):m/D*D<=m/\m<m/D*D+D/\m%D=m - m/D*D:=by
 have h1:=Nat.div_add_mod m D;have h2:=Nat.mod_lt m hD;rw [Nat.mul_comm] at h1;omega
theorem Qyk (P N R s hh:Nat) (fs:List Nat) (hl:fs.length=N) (hD:N/2^s=2*hh) (hN:2^s*(2*hh)=N) (h0:0<hh):∀J,J≤2^s→∀m,m<N→(fpS P N R s fs J).getD m 0 =
  if m/(2*hh)<J then (if m%(2*hh)<hh then (fs.getD m 0+R^(Qai (lg N) (2^s+m/(2*hh)) 0)%P*fs.getD (m+hh) 0%P)%P else (fs.getD (m - hh) 0+P - R^(Qai (lg N) (2^s+m/(2*hh)) 0)%P*fs.getD m 0%P)%P) else fs.getD m 0
 | 0,_,m,_=>by rw [if_neg (Nat.not_lt_zero _)];rfl
 | J+1,hJ,m,hm=>by
   have ih:=Qyk P N R s hh fs hl hD hN h0 J (by omega);have hb:(J+1)*(2*hh)<=N:=by rw [<- hN];exact Nat.mul_le_mul_right _ hJ
   have hb':J*(2*hh)+2*hh<=N:=by rw [Nat.add_mul,Nat.one_mul] at hb;exact hb
   rw [fpS,hD,show 2*hh/2=hh by omega,Qyj P _ _ hh _ (by rw [Qkn,hl];exact hb') hh (Nat.le_refl _) m];have hdl:=Qt9 m (2*hh) (by omega)
   by_cases hj:m/(2*hh)=J
   ·rw [hj] at hdl
    have hg:∀m',J*(2*hh)<=m'->m'<J*(2*hh)+2*hh->(fpS P N R s fs J).getD m' 0=fs.getD m' 0:=fun m' a b=>by
     rw [ih m' (by omega),dv a b,if_neg (by omega)]
    rw [if_pos (show m/(2*hh)<J+1 by omega),hj]
    by_cases hlo:m%(2*hh)<hh
    ·rw [if_pos (by omega),if_pos hlo,hg m (by omega) (by omega),hg (m+hh) (by omega) (by omega)]
    ·rw [if_neg (by omega),if_pos (by omega),if_neg hlo,hg m (by omega) (by omega),hg (m - hh) (by omega) (by omega)]
   ·have hne:¬(J*(2*hh)≤m∧m<J*(2*hh)+2*hh):=fun h=>hj (dv h.1 h.2)
    rw [if_neg (by omega),if_neg (by omega),ih m hm]
    by_cases hlt:m/(2*hh)<J
    ·rw [if_pos hlt,if_pos (show m/(2*hh)<J+1 by omega)]
    ·rw [if_neg hlt,if_neg (show ¬m/(2*hh)<J+1 by omega)]
theorem Q4g:∀s,s<1->∀k,k<2->((2*Qai 1 k 0+1)*(2/2^s/2))%4=if k%(2/2^s)<2/2^s/2 then Qai 1 (2^s+k/(2/2^s)) 0 else Qai 1 (2^s+k/(2/2^s)) 0+2:=by decide
theorem Q4h:∀s,s<2->∀k,k<4->((2*Qai 2 k 0+1)*(4/2^s/2))%8=if k%(4/2^s)<4/2^s/2 then Qai 2 (2^s+k/(4/2^s)) 0 else Qai 2 (2^s+k/(4/2^s)) 0+4:=by decide +kernel
theorem Q4i:∀s,s<3->∀k,k<8->((2*Qai 3 k 0+1)*(8/2^s/2))%16=if k%(8/2^s)<8/2^s/2 then Qai 3 (2^s+k/(8/2^s)) 0 else Qai 3 (2^s+k/(8/2^s)) 0+8:=by decide +kernel
theorem Q21:∀s,s<4->∀k,k<16->((2*Qai 4 k 0+1)*(16/2^s/2))%32=if k%(16/2^s)<16/2^s/2 then Qai 4 (2^s+k/(16/2^s)) 0 else Qai 4 (2^s+k/(16/2^s)) 0+16:=by decide +kernel
theorem fact {N:Nat} (h:Sz4 N) (s:Nat) (hs:s<lg N) (k:Nat) (hk:k<N):((2*Qai (lg N) k 0+1)*(N/2^s/2))%(2*N)=if k%(N/2^s)<N/2^s/2 then Qai (lg N) (2^s+k/(N/2^s)) 0 else Qai (lg N) (2^s+k/(N/2^s)) 0+N:=by
 rcases h with rfl | rfl | rfl | rfl
 ·exact Q4g s hs k hk
 ·exact Q4h s hs k hk
 ·exact Q4i s hs k hk
 ·exact Q21 s hs k hk
theorem halves {N:Nat} (h:Sz4 N) (s:Nat) (hs:s<lg N):∃hh,N/2^s=2*hh/\2^s*(2*hh)=N/\0<hh/\N/2^(s+1)=hh:=by
 have key:∀M∈[2,4,8,16],∀s,s<lg M->M/2^s=2*(M/2^(s+1))/\2^s*(2*(M/2^(s+1)))=M/\0<M/2^(s+1):=by
  intro M hM s hs;simp only [List.mem_cons,List.not_mem_nil,or_false] at hM;have hs4:s<4:=by have:=(Qe5 (N:=M) (by omega)).2.2;omega
  rcases hM with rfl | rfl | rfl | rfl <;> (have:s=0∨s=1∨s=2∨s=3:=by omega) <;> rcases this with rfl | rfl | rfl | rfl <;> revert hs <;> decide
 have:=key N (by simp only [List.mem_cons,List.not_mem_nil,or_false];omega) s hs;exact ⟨N/2^(s+1),this.1,this.2.1,this.2.2,rfl⟩
theorem Qgd {P N R:Nat} (h1:Cg P ((R:Int)^(2*N)) 1) (e b:Nat) (he:e%(2*N)=b):Cg P ((R:Int)^e) ((R:Int)^b):=by
 have h:=Nat.div_add_mod e (2*N);rw [he] at h;rw [<- h,Int.pow_add,Int.pow_mul];have:=(h1.pow (e/(2*N))).mul (Cg.refl (P:Int) ((R:Int)^b));rw [Int.one_pow,Int.one_mul] at this;exact this
theorem Q0y (P N R s hh:Nat) (fs:List Nat) (hS:Sz4 N) (hs:s<lg N) (hl:fs.length=N) (hP:0<P) (hlt:∀x∈fs,x<P) (hD:N/2^s=2*hh) (hN:2^s*(2*hh)=N) (h0:0<hh)
  (r1:Cg P ((R:Int)^(2*N)) 1) (r2:Cg P ((R:Int)^N) (-1)) (k:Nat) (hk:k<N) (X A:Int) (hX:Cg P X ((R:Int)^(2*Qai (lg N) k 0+1)))
  (hA:Cg P (evI (fun i=>((fs.getD (k/(2*hh)*(2*hh)+i) 0:Nat):Int)) X (2*hh)) A) :
  Cg P (evI (fun i=>(((fpS P N R s fs (2^s)).getD (k/hh*hh+i) 0:Nat):Int)) X hh) A:=by
 have hf:=fact hS s hs k hk;rw [hD,show 2*hh/2=hh by omega] at hf;have hb:=Qg6 hS (2^s+k/(2*hh));have hdl:=Qt9 k (2*hh) (by omega)
 have hj:k/(2*hh)<2^s:=by
  rw [Nat.div_lt_iff_lt_mul (by omega),hN];exact hk
 have hjb:k/(2*hh)*(2*hh)+2*hh<=N:=by
  have:=Nat.mul_le_mul_right (2*hh) (show k/(2*hh)+1<=2^s by omega);rw [Nat.add_mul,Nat.one_mul,hN] at this;exact this
 have hg:=Qyk P N R s hh fs hl hD hN h0 (2^s) (Nat.le_refl _);obtain ⟨b,eb⟩:∃b,b=Qai (lg N) (2^s+k/(2*hh)) 0:=⟨_,rfl⟩
 obtain ⟨off,eo⟩:∃off,off=k/(2*hh)*(2*hh):=⟨_,rfl⟩
 have hgo:∀i,i<2*hh->(off+i)/(2*hh)=k/(2*hh)/\(off+i)%(2*hh)=i:=fun i hi=>by
  have h1:(off+i)/(2*hh)=k/(2*hh):=dv (by omega) (by omega);have h2:=Qt9 (off+i) (2*hh) (by omega);rw [h1] at h2;exact ⟨h1,by omega⟩
 rw [<- eo] at hA hdl hjb;rw [<- eb] at hf hb;have hsplit:=Qos (fun i=>((fs.getD (off+i) 0:Nat):Int)) X hh hh;rw [show hh+hh=2*hh by omega] at hsplit;rw [hsplit] at hA
 have hpw:Cg P (X^hh) ((R:Int)^((2*Qai (lg N) k 0+1)*hh)):=by
  rw [Int.pow_mul];exact hX.pow hh
 have hmb:Cg P ((R^b%P:Nat):Int) ((R:Int)^b):=by
  have:=Cg.mod P (R^b)
  push_cast at this ⊢
  exact this
 have em:2*(k/(2*hh))*hh=off:=by rw [eo,Nat.mul_comm 2,Nat.mul_assoc]
 by_cases hlo:k%(2*hh)<hh
 ·rw [if_pos hlo] at hf
  have hk2:k/hh*hh=off:=by
   have:k/hh=2*(k/(2*hh)):=dv (by rw [em];omega) (by rw [em];omega);rw [this,em]
  rw [hk2];have hxw:=hpw.trans ((Qgd r1 _ _ hf).trans hmb.symm)
  have h1:Cg P (evI (fun i=>(((fpS P N R s fs (2^s)).getD (off+i) 0:Nat):Int)) X hh) (evI (fun i=>((fs.getD (off+i) 0:Nat):Int)+((R^b%P:Nat):Int)*((fs.getD (off+(hh+i)) 0:Nat):Int)) X hh):=by
   refine Qqi X hh (fun i hi=>?_);rw [hg (off+i) (by omega),(hgo i (by omega)).1,(hgo i (by omega)).2,if_pos hj,if_pos hi,<- eb,show off+i+hh=off+(hh+i) by omega];refine (Cg.mod P _).trans ?_
   push_cast
   refine (Cg.refl _ _).add ?_
   have:=Cg.mod P (R^b%P*fs.getD (off+(hh+i)) 0)
   push_cast at this ⊢
   exact this
  rw [Qkm] at h1;refine h1.trans (Cg.trans ?_ hA);exact (Cg.refl _ _).add (hxw.symm.mul (Cg.refl _ _))
 ·rw [if_neg hlo] at hf
  have hk2:k/hh*hh=off+hh:=by
   have:k/hh=2*(k/(2*hh))+1:=dv (by rw [Nat.add_mul,Nat.one_mul,em];omega) (by rw [Nat.add_mul,Nat.one_mul,em];omega);rw [this,Nat.add_mul,Nat.one_mul,em]
  rw [hk2]
  have hxw:Cg P (X^hh) (-((R^b%P:Nat):Int)):=by
   refine hpw.trans ((Qgd r1 _ _ hf).trans ?_);rw [Int.pow_add];have:=hmb.symm.mul r2;refine this.trans ⟨0,by grind⟩
  have h1:Cg P (evI (fun i=>(((fpS P N R s fs (2^s)).getD (off+hh+i) 0:Nat):Int)) X hh) (evI (fun i=>((fs.getD (off+i) 0:Nat):Int)+(-((R^b%P:Nat):Int))*((fs.getD (off+(hh+i)) 0:Nat):Int)) X hh):=by
   refine Qqi X hh (fun i hi=>?_);rw [show off+hh+i=off+(hh+i) by omega,hg (off+(hh+i)) (by omega),(hgo (hh+i) (by omega)).1,(hgo (hh+i) (by omega)).2,if_pos hj,if_neg (show ¬hh+i<hh by omega),<- eb,show off+(hh+i) - hh=off+i by omega];refine (Cg.mod P _).trans ?_
   have hq:R^b%P*fs.getD (off+(hh+i)) 0%P<P:=Nat.mod_lt _ hP;have hm:=Cg.mod P (R^b%P*fs.getD (off+(hh+i)) 0);generalize hqq:R^b%P*fs.getD (off+(hh+i)) 0%P=q at *;have e:((fs.getD (off+i) 0+P - q:Nat):Int)=((fs.getD (off+i) 0:Nat):Int)+(P:Int) - (q:Int):=by omega
   rw [e];have h3:=(Cg.refl (P:Int) ((fs.getD (off+i) 0:Nat):Int)).add hm.neg;refine Cg.trans ⟨1,?_⟩ (h3.trans ⟨0,?_⟩)
   ·grind
   ·push_cast;grind
  rw [Qkm] at h1;refine h1.trans (Cg.trans ?_ hA);exact (Cg.refl _ _).add (hxw.symm.mul (Cg.refl _ _))
theorem Qmv (P N R:Nat) (xs:List Nat) (hS:Sz4 N) (hl:xs.length=N) (hP:0<P) (hlt:∀x∈xs,x<P) (r1:Cg P ((R:Int)^(2*N)) 1) (r2:Cg P ((R:Int)^N) (-1)) (k:Nat) (hk:k<N) (X:Int) (hX:Cg P X ((R:Int)^(2*Qai (lg N) k 0+1))) :
  ∀s,s<=lg N->Cg P (evI (fun i=>(((fsS P N R xs s).getD (k/(N/2^s)*(N/2^s)+i) 0:Nat):Int)) X (N/2^s)) (evI (fun i=>((xs.getD i 0:Nat):Int)) X N)
 | 0,_=>by
   rw [Nat.pow_zero,Nat.div_one,Nat.div_eq_of_lt hk]
   have e:(fun i=>(((fsS P N R xs 0).getD (0*N+i) 0:Nat):Int))=(fun i=>((xs.getD i 0:Nat):Int)):=by
    funext i
    rw [Nat.zero_mul,Nat.zero_add];rfl
   rw [e];exact Cg.refl _ _
 | s+1,hs=>by
   have ih:=Qmv P N R xs hS hl hP hlt r1 r2 k hk X hX s (by omega);obtain ⟨hh,h1,h2,h3,h4⟩:=halves hS s (by omega);rw [h1] at ih;rw [h4];exact Q0y P N R s hh (fsS P N R xs s) hS (by omega) (by rw [Qko,hl]) hP (Qqj P N R xs hP hlt s) h1 h2 h3 r1 r2 k hk X _ hX ih
theorem Qkp {a b:List Nat} (hl:a.length=b.length) (h:∀k,k<b.length->a.getD k 0=b.getD k 0):a=b:=by
 refine List.ext_getElem hl (fun k h1 h2=>?_);have:=h k h2
 simpa [List.getD,h1,h2] using this
theorem Qqk (P N R:Nat) (xs:List Nat) (hS:Sz4 N) (hl:xs.length=N) (hP:0<P) (hlt:∀x∈xs,x<P) (r1:Cg P ((R:Int)^(2*N)) 1) (r2:Cg P ((R:Int)^N) (-1)):fsS P N R xs (lg N)=Qf3 P N R xs:=by
 refine Qkp (by rw [Qko,Qdh,hl]) (fun k hk=>?_);rw [Qdh] at hk;rw [Qkg P N R xs k hk,Qg7 N k hk]
 have hX:Cg P ((R^(2*Qai (lg N) k 0+1)%P:Nat):Int) ((R:Int)^(2*Qai (lg N) k 0+1)):=by
  have:=Cg.mod P (R^(2*Qai (lg N) k 0+1))
  push_cast at this ⊢
  exact this
 have h1:=Qmv P N R xs hS hl hP hlt r1 r2 k hk _ hX (lg N) (Nat.le_refl _);have hp:=(Qe5 hS).1;rw [hp,Nat.div_self (by have:=Qon hS;omega)] at h1;have h2:=Qt7 P (R^(2*Qai (lg N) k 0+1)%P) xs N N (Nat.le_refl _)
 have e2:(fun i=>((xs.getD (N - N+i) 0:Nat):Int))=(fun i=>((xs.getD i 0:Nat):Int)):=by
  funext i
  rw [Nat.sub_self,Nat.zero_add]
 rw [e2] at h2
 have e1:evI (fun i=>(((fsS P N R xs (lg N)).getD (k/1*1+i) 0:Nat):Int)) ((R^(2*Qai (lg N) k 0+1)%P:Nat):Int) 1=(((fsS P N R xs (lg N)).getD k 0:Nat):Int):=by
  simp [evI]
 rw [e1] at h1;exact Cg.eq_of_lt (h1.trans h2.symm) (getD_lt (Qqj P N R xs hP hlt _) hP k) (Qoo P _ xs N hP N)
theorem Rt.cg {P N R:Nat} (h:Rt P (2*N) R) (hP:2<=P):Cg P ((R:Int)^(2*N)) 1/\Cg P ((R:Int)^N) (-1):=by
 have h1:=(Cg.mod P (R^(2*N))).symm;have h2:=(Cg.mod P (R^N)).symm;rw [h.one] at h1;have hn:=h.neg;rw [show 2*N/2=N by omega] at hn;rw [hn] at h2
 push_cast at h1 h2
 refine ⟨h1,h2.trans ⟨1,by omega⟩⟩
end Go.Proofs.YthcidnnkakppcaaGreatDoor
namespace Go.Proofs.YthcidnnkakppcaaGreatDoor
open Go.ChangeShapes Go.WideShapes Go.ChangeAt Go.RowKit
def jnS (P w0 off hh:Nat) (fs:List Nat):Nat->List Nat
 | 0=>fs
 | i+1=>((jnS P w0 off hh fs i).set (off+i) (((jnS P w0 off hh fs i).getD (off+i) 0+(jnS P w0 off hh fs i).getD (off+hh+i) 0)%P)).set (off+hh+i) (((jnS P w0 off hh fs i).getD (off+i) 0+P - (jnS P w0 off hh fs i).getD (off+hh+i) 0)*w0%P)
theorem Qkq (P w0 off hh:Nat) (fs:List Nat):∀i,(jnS P w0 off hh fs i).length=fs.length
 | 0=>rfl
 | i+1=>by rw [jnS,List.length_set,List.length_set,Qkq P w0 off hh fs i]
theorem Qua (P w0 off hh:Nat) (fs:List Nat) (hP:0<P) (h:∀x∈fs,x<P):∀i,∀x∈jnS P w0 off hh fs i,x<P
 | 0=>h
 | i+1=>by
   rw [jnS];exact Qqh (Qqh (Qua P w0 off hh fs hP h i) _ _ (Nat.mod_lt _ hP)) _ _ (Nat.mod_lt _ hP)
theorem Qub (P N R w0 off hh cap g base:Nat) (fs:List Nat) (w:World) (hP:2≤P∧P≤268435456) (hw0:w0<P) (hN:N≤16) (hof:off+2*hh≤N) (hO:Qbc w base g N (toZ fs)) (hgl:g<w.heap.size) (lf:fs.length=N) (hf:∀x∈fs,x<P) :
  Calls Tryz.prog 150 #[.agg #[.int .i64 P,.int .i64 N,.int .i64 R],.slice (some ⟨g,off,none⟩) (2*hh) cap,.int .i64 w0] w fun e w'=>e=.returned (.tuple #[])/\w.grownBy w' (some g)/\Qbc w' base g N (toZ (jnS P w0 off hh fs hh)):=by
 have HO:=Qaa hO;have HLT:=Qaa (fun i j=>getD_lt (Qua P w0 off hh fs (by omega) hf i) (by omega) j);have HLN:Hid (∀i,(toZ (jnS P w0 off hh fs i)).length=N):=fun i=>by rw [Qau,Qkq,lf]
 have HST:Hid (∀i,toZ (jnS P w0 off hh fs (i+1))=((toZ (jnS P w0 off hh fs i)).set (off+i) (((jnS P w0 off hh fs i).getD (off+i) 0+(jnS P w0 off hh fs i).getD (off+hh+i) 0)%P:Nat)).set (off+hh+i) (((jnS P w0 off hh fs i).getD (off+i) 0+P - (jnS P w0 off hh fs i).getD (off+hh+i) 0)*w0%P:Nat)):=fun i=>by rw [jnS,Qfd,Qfd]
 have H0:Hid (jnS P w0 off hh fs 0=fs):=rfl;generalize jnS P w0 off hh fs=F at *;clear hO lf hf;obtain ⟨ln,hln⟩:∃ln,ln=2*hh:=⟨_,rfl⟩
 have el:(ln:Int)/2=(hh:Int):=by omega
 rw [<- hln];have hlb:ln<=16:=by omega
 have HLH:=Qaa hln;have hhl:hh<=8:=by omega
 clear hln;have RC0:Hid (Rc (w.alloc (.cells #[.int .i64 P,.int .i64 N,.int .i64 R] 133)) w.heap.size P N R):=Rc.new w _ _ _;have HG0:Hid (w.grownBy (w.alloc (.cells #[.int .i64 P,.int .i64 N,.int .i64 R] 133)) (some g)):=World.grownBy_alloc _ _ _
 have HO0:Hid (Qbc (w.alloc (.cells #[.int .i64 P,.int .i64 N,.int .i64 R] 133)) base g N (toZ (F 0))):=by
  show Qbc _ _ _ _ _
  rw [H0.out];exact HO.out.old ((Old.refl w).alloc _)
 have hpn2:¬P=0:=by omega
 clear HO H0;go_enter Tryz.func150,Tryz.ntmps150;go_wp2_with fail
 go_loopw [7,8,9,14] (fun x y z i W=>∃k:Nat,k<=hh/\i=.int .i64 k/\Hid (Qbc W base g N (toZ (F k)))/\Hid (w.grownBy W (some g))/\Hid (Rc W w.heap.size P N R)) (fun _ _ _ i _=>hh - (intOf i).toNat)
 case atStart=>exact ⟨0,by omega,rfl,HO0,HG0,RC0⟩
 case round=>
  obtain ⟨k,hk,rfl,HO1,HG1,RC1⟩:=hrel;clear HO0 HG0 RC0
  by_cases hlt:k<hh
  ·have hk2:off+k<N:=by omega
   have hk3:off+hh+k<N:=by omega
   have i1:(k:Int)<(ln:Int):=by have:=HLH.out;omega
   have z0:=RC1.out.c0;have c1:=HO1.out.get (HLN.out k) (off+k) hk2;have c2:=HO1.out.get (HLN.out k) (off+hh+k) hk3;rw [Qcd] at c1 c2;have c3:=HO1.out.free (off+k);have c4:=HO1.out.free (off+hh+k);have hx:=HLT.out k (off+k);have hy:=HLT.out k (off+hh+k);have HS:=HST.out k;generalize (F k).getD (off+k) 0=x at *;generalize (F k).getD (off+hh+k) 0=y at *;obtain ⟨jj,hjj⟩:∃jj,jj=hh+k:=⟨_,rfl⟩
   have ej:(hh:Int)+(k:Int)=(jj:Int):=by omega
   have i2:(jj:Int)<(ln:Int):=by have:=HLH.out;omega
   have ewj:IntKind.i64.wrap (jj:Int)=(jj:Int):=by rw [IntKind.wrap_i64];omega
   rw [show off+hh+k=off+jj by omega] at c2 c4 HS;have HSS:Hid (toZ (F (k+1))=_):=HS;clear hjj HS;go_wp2_with fail
   go_quiet (fail)
   have HO2:Hid (Qbc (wr.drewN nq) base g N (toZ (F k))):=HO1.out;have HG2:=Qaa (Qfz HG1.out nq);have RC2:=Qaa (RC1.out.old ((Old.refl _).drewN nq));have c1':(wr.drewN nq).cell? ⟨g,off+k,none⟩=some (.int .i64 (x:Int)):=c1
   have c2':(wr.drewN nq).cell? ⟨g,off+jj,none⟩=some (.int .i64 (y:Int)):=c2
   have c3':(wr.drewN nq).frozen? ⟨g,off+k,none⟩=false:=c3
   have c4':(wr.drewN nq).frozen? ⟨g,off+jj,none⟩=false:=c4
   have z0':(wr.drewN nq).cell? ⟨w.heap.size,0,none⟩=some (.int .i64 (P:Int)):=z0
   clear c1 c2 c3 c4 z0 HO1 HG1 RC1;generalize wr.drewN nq=W2 at *;have e5:(x:Int)+(y:Int)=((x+y:Nat):Int):=by simp
   have ewS:IntKind.i64.wrap ((x:Int) - (y:Int))=(x:Int) - (y:Int):=by rw [IntKind.wrap_i64];omega
   have e6:(x:Int) - (y:Int)+(P:Int)=((x+P - y:Nat):Int):=by omega
   have b5:x+y<=600000000:=by omega
   have b6:x+P - y<=600000000:=by omega
   generalize x+y=sA at *;generalize x+P - y=sB at *;have ewA:IntKind.i64.wrap ((sA:Nat):Int)=(sA:Int):=by rw [IntKind.wrap_i64];omega
   have ewB:IntKind.i64.wrap ((sB:Nat):Int)=(sB:Int):=by rw [IntKind.wrap_i64];omega
   have b7:sB*w0<=161061273600000000:=Nat.le_trans (Nat.mul_le_mul b6 (show w0<=268435456 by omega)) (by decide);have e7:(sB:Int)*(w0:Int)=((sB*w0:Nat):Int):=by simp
   generalize sB*w0=sC at *;have ewC:IntKind.i64.wrap ((sC:Nat):Int)=(sC:Int):=by rw [IntKind.wrap_i64];omega
   have tA:Int.tmod (sA:Int) (P:Int)=((sA%P:Nat):Int):=by rw [Int.tmod_eq_emod_of_nonneg (by omega)];simp
   have tC:Int.tmod (sC:Int) (P:Int)=((sC%P:Nat):Int):=by rw [Int.tmod_eq_emod_of_nonneg (by omega)];simp
   have mA:(sA:Int)%(P:Int)=((sA%P:Nat):Int):=by simp
   have mC:(sC:Int)%(P:Int)=((sC%P:Nat):Int):=by simp
   generalize sA%P=A at *;generalize sC%P=B at *
   have HO3:Hid (Qbc ((W2.setCell ⟨g,off+k,none⟩ (.int .i64 (A:Int))).setCell ⟨g,off+jj,none⟩ (.int .i64 (B:Int))) base g N (toZ (F (k+1)))):=by
    show Qbc _ _ _ _ _
    rw [HSS.out];exact (HO2.out.put (off+k) _).put (off+jj) _
   have HG3:Hid (w.grownBy ((W2.setCell ⟨g,off+k,none⟩ (.int .i64 (A:Int))).setCell ⟨g,off+jj,none⟩ (.int .i64 (B:Int))) (some g)):=Qfy HG2.out (Qfy (HO2.out.gby (off+k) _) ((HO2.out.put (off+k) _).gby (off+jj) _));have HR3:Hid (Rc ((W2.setCell ⟨g,off+k,none⟩ (.int .i64 (A:Int))).setCell ⟨g,off+jj,none⟩ (.int .i64 (B:Int))) w.heap.size P N R):=(RC2.out.by_ (HO2.out.gby (off+k) _) (fun b hb=>by injection hb with hb;omega)).by_ ((HO2.out.put (off+k) _).gby (off+jj) _) (fun b hb=>by injection hb with hb;omega);clear HSS;go_wp2_with fail
   go_region
   all_goals
    go_wp2_with fail;exact ⟨⟨k+1,by omega,by go_num,HO3.out,Qfz HG3.out 1,HR3.out.old ((Old.refl _).drewN 1)⟩,by simp [intOf];omega⟩
  ·have d1:decide ((k:Int)<(hh:Int))=false:=by simp;omega
   obtain rfl:k=hh:=by omega
   go_wp2_with fail
   go_end0
   exact ⟨rfl,HG1.out,HO1.out⟩
end Go.Proofs.YthcidnnkakppcaaGreatDoor
