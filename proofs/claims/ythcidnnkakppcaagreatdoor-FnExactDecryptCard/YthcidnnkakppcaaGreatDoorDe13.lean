/- Proved: what its theorems say. -/
import Derived.Test.YthcidnnkakppcaaGreatDoorDe12
set_option linter.unusedVariables false
set_option linter.unusedSimpArgs false
set_option maxHeartbeats 4000000
set_option maxRecDepth 100000
namespace Go.Proofs.YthcidnnkakppcaaGreatDoor
open Go.ChangeShapes Go.WideShapes Go.ChangeAt Go.RowKit
def Qa6 (n:Nat):Code->Option Code
 | .region i ops b=>if i=n then some (.region i ops b) else none
 | .seq a b=>match Qa6 n a with
   | some c=>some c
   | none=>Qa6 n b
 | .block _ c=>Qa6 n c
 | .loop c=>Qa6 n c
 | .cond _ a b=>match Qa6 n a with
   | some c=>some c
   | none=>Qa6 n b
 | _=>none
def Qat (i:Nat):Nat:=[42,43,44,45,46,47,48,49,50,51,52,53,54,55,56,57].getD i 0
theorem Qmk:∀i,i<16->Qat i<86:=by decide
theorem Qft:∀i,i<16->∀j,j<16->Qat i=Qat j->i=j:=by decide
theorem Qml:∀s,s<13->∀i,i<16->Qat i≠s:=by decide
theorem Qtp (w0:World) (g rb i k m N P L z Z cap:Nat) (hm:(i:Int)+(k:Int)=(m:Int)) (bm:m<N) (bN:N≤16) (bP:P≤268435456) (p0:¬P=0) (bL:L<P) (bz:z<P) (hZ:((L:Int)+(z:Int))%(P:Int)=(Z:Int)) (hZ2:((L:Int)+(z:Int)).tmod (P:Int)=(Z:Int))
  (cL:w0.cell? ⟨g,m,none⟩=some (.int .i64 L)) (fL:w0.frozen? ⟨g,m,none⟩=false) (cP:w0.cell? ⟨rb,0,none⟩=some (.int .i64 P)) (cN:w0.cell? ⟨rb,1,none⟩=some (.int .i64 N))
  (Q:Exit->Act->World->Prop) (a0:Act) (hsz:a0.tmps.size=86)
  (ha3:a0.eval (.tmp 3)=.pointer (some ⟨rb,0,none⟩)) (ha7:a0.eval (.tmp 7)=.slice (some ⟨g,0,none⟩) N cap) (ha8:a0.eval (.tmp 8)=.int .i64 i) (ha10:a0.eval (.tmp 10)=.int .i64 k) (ha12:a0.eval (.tmp 12)=.int .i64 z)
  (HK:Hid (∀(us:Nat->Value) W,Old w0 W->Q .normal (Qb6 a0 ((List.range 16).map fun i=>(Qat i,us i))) (W.setCell ⟨g,m,none⟩ (.int .i64 Z)))) :
  Code.wp Tryz.prog ((Tryz.f89.body.bind (Qa6 10)).getD .skip) Q a0 w0:=by
 conv=>arg 2;whnf
 have hg:=block_lt_of_cell cL;have hr:=block_lt_of_cell cP;have un:=Qml
 let cs:List Value:=[.slice (some ⟨g,0,none⟩) N cap,.int .i64 i,.int .i64 k,.int .i64 m,.slice (some ⟨g,0,none⟩) N cap,.int .i64 i,.int .i64 k,.int .i64 m,.pointer (some ⟨g,m,none⟩),.int .i64 L,.int .i64 z,.int .i64 ((L:Int)+z),.pointer (some ⟨rb,0,none⟩),.int .i64 P,.int .i64 Z,.pointer (some ⟨g,m,none⟩)]
 refine Qfs 16 rfl rfl (by kernel_rfl) (by kernel_rfl) (by kernel_rfl) (by kernel_rfl) Qat (fun i hi=>by rw [hsz];exact Qmk i hi) (fun i j hi hj=>Qft i hi j hj) (fun i _ v=>v=cs.getD i undef) (fun _ _ _ _ h _=>h) ?_ ?_
 ·refine ⟨?_,?_,?_,?_,?_,?_,?_,?_,?_,?_,?_,?_,?_,?_,?_,?_,trivial⟩
  ·intro a W gg hF hd;have e3:=(hF.same 3 (un 3 (by decide))).trans ha3;have e7:=(hF.same 7 (un 7 (by decide))).trans ha7;have e8:=(hF.same 8 (un 8 (by decide))).trans ha8;have e10:=(hF.same 10 (un 10 (by decide))).trans ha10;have e12:=(hF.same 12 (un 12 (by decide))).trans ha12;obtain ⟨ρ,hρ⟩:∃ρ,a.eval=ρ:=⟨_,rfl⟩
   rw [hρ] at hd e3 e7 e8 e10 e12;simp [Region.binds,Qat,cs] at hd;refine Qal ρ hρ (.slice (some ⟨g,0,none⟩) N cap) ?_ ⟨_,rfl,Old.refl _,rfl⟩
   clear gg hF hρ cL fL cP cN ha3 ha7 ha8 ha10 ha12 HK un
   go_simp
   all_goals (rw [IntKind.wrap_i64];omega)
  ·intro a W gg hF hd;have e3:=(hF.same 3 (un 3 (by decide))).trans ha3;have e7:=(hF.same 7 (un 7 (by decide))).trans ha7;have e8:=(hF.same 8 (un 8 (by decide))).trans ha8;have e10:=(hF.same 10 (un 10 (by decide))).trans ha10;have e12:=(hF.same 12 (un 12 (by decide))).trans ha12;obtain ⟨ρ,hρ⟩:∃ρ,a.eval=ρ:=⟨_,rfl⟩
   rw [hρ] at hd e3 e7 e8 e10 e12;simp [Region.binds,Qat,cs] at hd;refine Qal ρ hρ (.int .i64 i) ?_ ⟨_,rfl,Old.refl _,rfl⟩
   clear gg hF hρ cL fL cP cN ha3 ha7 ha8 ha10 ha12 HK un
   go_simp
   all_goals (rw [IntKind.wrap_i64];omega)
  ·intro a W gg hF hd;have e3:=(hF.same 3 (un 3 (by decide))).trans ha3;have e7:=(hF.same 7 (un 7 (by decide))).trans ha7;have e8:=(hF.same 8 (un 8 (by decide))).trans ha8;have e10:=(hF.same 10 (un 10 (by decide))).trans ha10;have e12:=(hF.same 12 (un 12 (by decide))).trans ha12;obtain ⟨ρ,hρ⟩:∃ρ,a.eval=ρ:=⟨_,rfl⟩
   rw [hρ] at hd e3 e7 e8 e10 e12;simp [Region.binds,Qat,cs] at hd;refine Qal ρ hρ (.int .i64 k) ?_ ⟨_,rfl,Old.refl _,rfl⟩
   clear gg hF hρ cL fL cP cN ha3 ha7 ha8 ha10 ha12 HK un
   go_simp
   all_goals (rw [IntKind.wrap_i64];omega)
  ·intro a W gg hF hd;have e3:=(hF.same 3 (un 3 (by decide))).trans ha3;have e7:=(hF.same 7 (un 7 (by decide))).trans ha7;have e8:=(hF.same 8 (un 8 (by decide))).trans ha8;have e10:=(hF.same 10 (un 10 (by decide))).trans ha10;have e12:=(hF.same 12 (un 12 (by decide))).trans ha12;obtain ⟨ρ,hρ⟩:∃ρ,a.eval=ρ:=⟨_,rfl⟩
   rw [hρ] at hd e3 e7 e8 e10 e12;simp [Region.binds,Qat,cs] at hd;refine Qal ρ hρ (.int .i64 m) ?_ ⟨_,rfl,Old.refl _,rfl⟩
   clear gg hF hρ cL fL cP cN ha3 ha7 ha8 ha10 ha12 HK un
   go_simp
   all_goals (rw [IntKind.wrap_i64];omega)
  ·intro a W gg hF hd;have e3:=(hF.same 3 (un 3 (by decide))).trans ha3;have e7:=(hF.same 7 (un 7 (by decide))).trans ha7;have e8:=(hF.same 8 (un 8 (by decide))).trans ha8;have e10:=(hF.same 10 (un 10 (by decide))).trans ha10;have e12:=(hF.same 12 (un 12 (by decide))).trans ha12;obtain ⟨ρ,hρ⟩:∃ρ,a.eval=ρ:=⟨_,rfl⟩
   rw [hρ] at hd e3 e7 e8 e10 e12;simp [Region.binds,Qat,cs] at hd;refine Qal ρ hρ (.slice (some ⟨g,0,none⟩) N cap) ?_ ⟨_,rfl,Old.refl _,rfl⟩
   clear gg hF hρ cL fL cP cN ha3 ha7 ha8 ha10 ha12 HK un
   go_simp
   all_goals (rw [IntKind.wrap_i64];omega)
  ·intro a W gg hF hd;have e3:=(hF.same 3 (un 3 (by decide))).trans ha3;have e7:=(hF.same 7 (un 7 (by decide))).trans ha7;have e8:=(hF.same 8 (un 8 (by decide))).trans ha8;have e10:=(hF.same 10 (un 10 (by decide))).trans ha10;have e12:=(hF.same 12 (un 12 (by decide))).trans ha12;obtain ⟨ρ,hρ⟩:∃ρ,a.eval=ρ:=⟨_,rfl⟩
   rw [hρ] at hd e3 e7 e8 e10 e12;simp [Region.binds,Qat,cs] at hd;refine Qal ρ hρ (.int .i64 i) ?_ ⟨_,rfl,Old.refl _,rfl⟩
   clear gg hF hρ cL fL cP cN ha3 ha7 ha8 ha10 ha12 HK un
   go_simp
   all_goals (rw [IntKind.wrap_i64];omega)
  ·intro a W gg hF hd;have e3:=(hF.same 3 (un 3 (by decide))).trans ha3;have e7:=(hF.same 7 (un 7 (by decide))).trans ha7;have e8:=(hF.same 8 (un 8 (by decide))).trans ha8;have e10:=(hF.same 10 (un 10 (by decide))).trans ha10;have e12:=(hF.same 12 (un 12 (by decide))).trans ha12;obtain ⟨ρ,hρ⟩:∃ρ,a.eval=ρ:=⟨_,rfl⟩
   rw [hρ] at hd e3 e7 e8 e10 e12;simp [Region.binds,Qat,cs] at hd;refine Qal ρ hρ (.int .i64 k) ?_ ⟨_,rfl,Old.refl _,rfl⟩
   clear gg hF hρ cL fL cP cN ha3 ha7 ha8 ha10 ha12 HK un
   go_simp
   all_goals (rw [IntKind.wrap_i64];omega)
  ·intro a W gg hF hd;have e3:=(hF.same 3 (un 3 (by decide))).trans ha3;have e7:=(hF.same 7 (un 7 (by decide))).trans ha7;have e8:=(hF.same 8 (un 8 (by decide))).trans ha8;have e10:=(hF.same 10 (un 10 (by decide))).trans ha10;have e12:=(hF.same 12 (un 12 (by decide))).trans ha12;obtain ⟨ρ,hρ⟩:∃ρ,a.eval=ρ:=⟨_,rfl⟩
   rw [hρ] at hd e3 e7 e8 e10 e12;simp [Region.binds,Qat,cs] at hd;refine Qal ρ hρ (.int .i64 m) ?_ ⟨_,rfl,Old.refl _,rfl⟩
   clear gg hF hρ cL fL cP cN ha3 ha7 ha8 ha10 ha12 HK un
   go_simp
   all_goals (rw [IntKind.wrap_i64];omega)
  ·intro a W gg hF hd;have e3:=(hF.same 3 (un 3 (by decide))).trans ha3;have e7:=(hF.same 7 (un 7 (by decide))).trans ha7;have e8:=(hF.same 8 (un 8 (by decide))).trans ha8;have e10:=(hF.same 10 (un 10 (by decide))).trans ha10;have e12:=(hF.same 12 (un 12 (by decide))).trans ha12;obtain ⟨ρ,hρ⟩:∃ρ,a.eval=ρ:=⟨_,rfl⟩
   rw [hρ] at hd e3 e7 e8 e10 e12;simp [Region.binds,Qat,cs] at hd;refine Qal ρ hρ (.pointer (some ⟨g,m,none⟩)) ?_ ⟨_,rfl,Old.refl _,rfl⟩
   clear gg hF hρ cL fL cP cN ha3 ha7 ha8 ha10 ha12 HK un
   go_simp
   all_goals (rw [IntKind.wrap_i64];omega)
  ·intro a W gg hF hd;have e3:=(hF.same 3 (un 3 (by decide))).trans ha3;have e7:=(hF.same 7 (un 7 (by decide))).trans ha7;have e8:=(hF.same 8 (un 8 (by decide))).trans ha8;have e10:=(hF.same 10 (un 10 (by decide))).trans ha10;have e12:=(hF.same 12 (un 12 (by decide))).trans ha12;have k1:=(gg.cell (p:=⟨g,m,none⟩) hg).trans cL;obtain ⟨ρ,hρ⟩:∃ρ,a.eval=ρ:=⟨_,rfl⟩
   rw [hρ] at hd e3 e7 e8 e10 e12;simp [Region.binds,Qat,cs] at hd;refine Qal ρ hρ (.int .i64 L) ?_ ⟨_,rfl,Old.refl _,rfl⟩
   clear gg hF hρ cL fL cP cN ha3 ha7 ha8 ha10 ha12 HK un
   go_simp
   all_goals (rw [IntKind.wrap_i64];omega)
  ·intro a W gg hF hd;have e3:=(hF.same 3 (un 3 (by decide))).trans ha3;have e7:=(hF.same 7 (un 7 (by decide))).trans ha7;have e8:=(hF.same 8 (un 8 (by decide))).trans ha8;have e10:=(hF.same 10 (un 10 (by decide))).trans ha10;have e12:=(hF.same 12 (un 12 (by decide))).trans ha12;obtain ⟨ρ,hρ⟩:∃ρ,a.eval=ρ:=⟨_,rfl⟩
   rw [hρ] at hd e3 e7 e8 e10 e12;simp [Region.binds,Qat,cs] at hd;refine Qal ρ hρ (.int .i64 z) ?_ ⟨_,rfl,Old.refl _,rfl⟩
   clear gg hF hρ cL fL cP cN ha3 ha7 ha8 ha10 ha12 HK un
   go_simp
   all_goals (rw [IntKind.wrap_i64];omega)
  ·intro a W gg hF hd;have e3:=(hF.same 3 (un 3 (by decide))).trans ha3;have e7:=(hF.same 7 (un 7 (by decide))).trans ha7;have e8:=(hF.same 8 (un 8 (by decide))).trans ha8;have e10:=(hF.same 10 (un 10 (by decide))).trans ha10;have e12:=(hF.same 12 (un 12 (by decide))).trans ha12;obtain ⟨ρ,hρ⟩:∃ρ,a.eval=ρ:=⟨_,rfl⟩
   rw [hρ] at hd e3 e7 e8 e10 e12;simp [Region.binds,Qat,cs] at hd;refine Qal ρ hρ (.int .i64 ((L:Int)+z)) ?_ ⟨_,rfl,Old.refl _,rfl⟩
   clear gg hF hρ cL fL cP cN ha3 ha7 ha8 ha10 ha12 HK un
   go_simp
   all_goals (rw [IntKind.wrap_i64];omega)
  ·intro a W gg hF hd;have e3:=(hF.same 3 (un 3 (by decide))).trans ha3;have e7:=(hF.same 7 (un 7 (by decide))).trans ha7;have e8:=(hF.same 8 (un 8 (by decide))).trans ha8;have e10:=(hF.same 10 (un 10 (by decide))).trans ha10;have e12:=(hF.same 12 (un 12 (by decide))).trans ha12;obtain ⟨ρ,hρ⟩:∃ρ,a.eval=ρ:=⟨_,rfl⟩
   rw [hρ] at hd e3 e7 e8 e10 e12;simp [Region.binds,Qat,cs] at hd;refine Qal ρ hρ (.pointer (some ⟨rb,0,none⟩)) ?_ ⟨_,rfl,Old.refl _,rfl⟩
   clear gg hF hρ cL fL cP cN ha3 ha7 ha8 ha10 ha12 HK un
   go_simp
   all_goals (rw [IntKind.wrap_i64];omega)
  ·intro a W gg hF hd;have e3:=(hF.same 3 (un 3 (by decide))).trans ha3;have e7:=(hF.same 7 (un 7 (by decide))).trans ha7;have e8:=(hF.same 8 (un 8 (by decide))).trans ha8;have e10:=(hF.same 10 (un 10 (by decide))).trans ha10;have e12:=(hF.same 12 (un 12 (by decide))).trans ha12;have k2:=(gg.cell (p:=⟨rb,0,none⟩) hr).trans cP;obtain ⟨ρ,hρ⟩:∃ρ,a.eval=ρ:=⟨_,rfl⟩
   rw [hρ] at hd e3 e7 e8 e10 e12;simp [Region.binds,Qat,cs] at hd;refine Qal ρ hρ (.int .i64 P) ?_ ⟨_,rfl,Old.refl _,rfl⟩
   clear gg hF hρ cL fL cP cN ha3 ha7 ha8 ha10 ha12 HK un
   go_simp
   all_goals (rw [IntKind.wrap_i64];omega)
  ·intro a W gg hF hd;have e3:=(hF.same 3 (un 3 (by decide))).trans ha3;have e7:=(hF.same 7 (un 7 (by decide))).trans ha7;have e8:=(hF.same 8 (un 8 (by decide))).trans ha8;have e10:=(hF.same 10 (un 10 (by decide))).trans ha10;have e12:=(hF.same 12 (un 12 (by decide))).trans ha12;obtain ⟨ρ,hρ⟩:∃ρ,a.eval=ρ:=⟨_,rfl⟩
   rw [hρ] at hd e3 e7 e8 e10 e12;simp [Region.binds,Qat,cs] at hd;refine Qal ρ hρ (.int .i64 Z) ?_ ⟨_,rfl,Old.refl _,rfl⟩
   clear gg hF hρ cL fL cP cN ha3 ha7 ha8 ha10 ha12 HK un
   go_simp
   all_goals (rw [IntKind.wrap_i64];omega)
  ·intro a W gg hF hd;have e3:=(hF.same 3 (un 3 (by decide))).trans ha3;have e7:=(hF.same 7 (un 7 (by decide))).trans ha7;have e8:=(hF.same 8 (un 8 (by decide))).trans ha8;have e10:=(hF.same 10 (un 10 (by decide))).trans ha10;have e12:=(hF.same 12 (un 12 (by decide))).trans ha12;obtain ⟨ρ,hρ⟩:∃ρ,a.eval=ρ:=⟨_,rfl⟩
   rw [hρ] at hd e3 e7 e8 e10 e12;simp [Region.binds,Qat,cs] at hd;refine Qal ρ hρ (.pointer (some ⟨g,m,none⟩)) ?_ ⟨_,rfl,Old.refl _,rfl⟩
   clear gg hF hρ cL fL cP cN ha3 ha7 ha8 ha10 ha12 HK un
   go_simp
   all_goals (rw [IntKind.wrap_i64];omega)
 ·intro a W gg hF hq;have q1:=hq 15 (by decide);have q2:=hq 14 (by decide);simp [Qat,cs] at q1 q2;have k1:=(gg.cell (p:=⟨g,m,none⟩) hg).trans cL;have k4:=(World.frozen?_of_block (gg.block g hg)).trans fL;have hp:=Qeu hF (fun i j hi hj=>Qft i hi j hj);have hk:=HK.out (fun i=>a.eval (.tmp (Qat i))) W gg;rw [← hp] at hk;obtain ⟨ρ,hρ⟩:∃ρ,a.eval=ρ:=⟨_,rfl⟩
  rw [hρ] at q1 q2;refine Qyh (W':=W.setCell ⟨g,m,none⟩ (.int .i64 Z)) ρ hρ ?_ hk
  clear hk hp hF hq gg hρ cL fL cP cN ha3 ha7 ha8 ha10 ha12 HK un
  go_simp
def Qaj (i:Nat):Nat:=[58,59,60,61,62,63,64,65,66,67,68,69,70,71,72,73,74,75,76,77,78,79,80,81,82].getD i 0
theorem Qmm:∀i,i<25->Qaj i<86:=by decide
theorem Qfu:∀i,i<25->∀j,j<25->Qaj i=Qaj j->i=j:=by decide
theorem Qmn:∀s,s<13->∀i,i<25->Qaj i≠s:=by decide
theorem Qtq (w0:World) (g rb i k m N P L z Z cap:Nat) (S:Nat) (hm:(i:Int)+(k:Int)=(S:Int)) (hS:(S:Int) - (N:Int)=(m:Int)) (bm:m<N) (bN:N≤16) (bP:P≤268435456) (p0:¬P=0) (bL:L<P) (bz:z<P) (hZ:((L:Int)+(P:Int) - (z:Int))%(P:Int)=(Z:Int)) (hZ2:((L:Int)+(P:Int) - (z:Int)).tmod (P:Int)=(Z:Int))
  (cL:w0.cell? ⟨g,m,none⟩=some (.int .i64 L)) (fL:w0.frozen? ⟨g,m,none⟩=false) (cP:w0.cell? ⟨rb,0,none⟩=some (.int .i64 P)) (cN:w0.cell? ⟨rb,1,none⟩=some (.int .i64 N))
  (Q:Exit->Act->World->Prop) (a0:Act) (hsz:a0.tmps.size=86)
  (ha3:a0.eval (.tmp 3)=.pointer (some ⟨rb,0,none⟩)) (ha7:a0.eval (.tmp 7)=.slice (some ⟨g,0,none⟩) N cap) (ha8:a0.eval (.tmp 8)=.int .i64 i) (ha10:a0.eval (.tmp 10)=.int .i64 k) (ha12:a0.eval (.tmp 12)=.int .i64 z)
  (HK:Hid (∀(us:Nat->Value) W,Old w0 W->Q .normal (Qb6 a0 ((List.range 25).map fun i=>(Qaj i,us i))) (W.setCell ⟨g,m,none⟩ (.int .i64 Z)))) :
  Code.wp Tryz.prog ((Tryz.f89.body.bind (Qa6 11)).getD .skip) Q a0 w0:=by
 conv=>arg 2;whnf
 have hg:=block_lt_of_cell cL;have hr:=block_lt_of_cell cP;have un:=Qmn
 let cs:List Value:=[.slice (some ⟨g,0,none⟩) N cap,.int .i64 i,.int .i64 k,.int .i64 S,.pointer (some ⟨rb,1,none⟩),.int .i64 N,.int .i64 m,.slice (some ⟨g,0,none⟩) N cap,.int .i64 i,.int .i64 k,.int .i64 S,.pointer (some ⟨rb,1,none⟩),.int .i64 N,.int .i64 m,.pointer (some ⟨g,m,none⟩),.int .i64 L,.pointer (some ⟨rb,0,none⟩),.int .i64 P,.int .i64 ((L:Int)+P),.int .i64 z,.int .i64 ((L:Int)+P - z),.pointer (some ⟨rb,0,none⟩),.int .i64 P,.int .i64 Z,.pointer (some ⟨g,m,none⟩)]
 refine Qfs 25 rfl rfl (by kernel_rfl) (by kernel_rfl) (by kernel_rfl) (by kernel_rfl) Qaj (fun i hi=>by rw [hsz];exact Qmm i hi) (fun i j hi hj=>Qfu i hi j hj) (fun i _ v=>v=cs.getD i undef) (fun _ _ _ _ h _=>h) ?_ ?_
 ·refine ⟨?_,?_,?_,?_,?_,?_,?_,?_,?_,?_,?_,?_,?_,?_,?_,?_,?_,?_,?_,?_,?_,?_,?_,?_,?_,trivial⟩
  ·intro a W gg hF hd;have e3:=(hF.same 3 (un 3 (by decide))).trans ha3;have e7:=(hF.same 7 (un 7 (by decide))).trans ha7;have e8:=(hF.same 8 (un 8 (by decide))).trans ha8;have e10:=(hF.same 10 (un 10 (by decide))).trans ha10;have e12:=(hF.same 12 (un 12 (by decide))).trans ha12;obtain ⟨ρ,hρ⟩:∃ρ,a.eval=ρ:=⟨_,rfl⟩
   rw [hρ] at hd e3 e7 e8 e10 e12;simp [Region.binds,Qaj,cs] at hd;refine Qal ρ hρ (.slice (some ⟨g,0,none⟩) N cap) ?_ ⟨_,rfl,Old.refl _,rfl⟩
   clear gg hF hρ cL fL cP cN ha3 ha7 ha8 ha10 ha12 HK un
   go_simp
   all_goals (rw [IntKind.wrap_i64];omega)
  ·intro a W gg hF hd;have e3:=(hF.same 3 (un 3 (by decide))).trans ha3;have e7:=(hF.same 7 (un 7 (by decide))).trans ha7;have e8:=(hF.same 8 (un 8 (by decide))).trans ha8;have e10:=(hF.same 10 (un 10 (by decide))).trans ha10;have e12:=(hF.same 12 (un 12 (by decide))).trans ha12;obtain ⟨ρ,hρ⟩:∃ρ,a.eval=ρ:=⟨_,rfl⟩
   rw [hρ] at hd e3 e7 e8 e10 e12;simp [Region.binds,Qaj,cs] at hd;refine Qal ρ hρ (.int .i64 i) ?_ ⟨_,rfl,Old.refl _,rfl⟩
   clear gg hF hρ cL fL cP cN ha3 ha7 ha8 ha10 ha12 HK un
   go_simp
   all_goals (rw [IntKind.wrap_i64];omega)
  ·intro a W gg hF hd;have e3:=(hF.same 3 (un 3 (by decide))).trans ha3;have e7:=(hF.same 7 (un 7 (by decide))).trans ha7;have e8:=(hF.same 8 (un 8 (by decide))).trans ha8;have e10:=(hF.same 10 (un 10 (by decide))).trans ha10;have e12:=(hF.same 12 (un 12 (by decide))).trans ha12;obtain ⟨ρ,hρ⟩:∃ρ,a.eval=ρ:=⟨_,rfl⟩
   rw [hρ] at hd e3 e7 e8 e10 e12;simp [Region.binds,Qaj,cs] at hd;refine Qal ρ hρ (.int .i64 k) ?_ ⟨_,rfl,Old.refl _,rfl⟩
   clear gg hF hρ cL fL cP cN ha3 ha7 ha8 ha10 ha12 HK un
   go_simp
   all_goals (rw [IntKind.wrap_i64];omega)
  ·intro a W gg hF hd;have e3:=(hF.same 3 (un 3 (by decide))).trans ha3;have e7:=(hF.same 7 (un 7 (by decide))).trans ha7;have e8:=(hF.same 8 (un 8 (by decide))).trans ha8;have e10:=(hF.same 10 (un 10 (by decide))).trans ha10;have e12:=(hF.same 12 (un 12 (by decide))).trans ha12;obtain ⟨ρ,hρ⟩:∃ρ,a.eval=ρ:=⟨_,rfl⟩
   rw [hρ] at hd e3 e7 e8 e10 e12;simp [Region.binds,Qaj,cs] at hd;refine Qal ρ hρ (.int .i64 S) ?_ ⟨_,rfl,Old.refl _,rfl⟩
   clear gg hF hρ cL fL cP cN ha3 ha7 ha8 ha10 ha12 HK un
   go_simp
   all_goals (rw [IntKind.wrap_i64];omega)
  ·intro a W gg hF hd;have e3:=(hF.same 3 (un 3 (by decide))).trans ha3;have e7:=(hF.same 7 (un 7 (by decide))).trans ha7;have e8:=(hF.same 8 (un 8 (by decide))).trans ha8;have e10:=(hF.same 10 (un 10 (by decide))).trans ha10;have e12:=(hF.same 12 (un 12 (by decide))).trans ha12;obtain ⟨ρ,hρ⟩:∃ρ,a.eval=ρ:=⟨_,rfl⟩
   rw [hρ] at hd e3 e7 e8 e10 e12;simp [Region.binds,Qaj,cs] at hd;refine Qal ρ hρ (.pointer (some ⟨rb,1,none⟩)) ?_ ⟨_,rfl,Old.refl _,rfl⟩
   clear gg hF hρ cL fL cP cN ha3 ha7 ha8 ha10 ha12 HK un
   go_simp
   all_goals (rw [IntKind.wrap_i64];omega)
  ·intro a W gg hF hd;have e3:=(hF.same 3 (un 3 (by decide))).trans ha3;have e7:=(hF.same 7 (un 7 (by decide))).trans ha7;have e8:=(hF.same 8 (un 8 (by decide))).trans ha8;have e10:=(hF.same 10 (un 10 (by decide))).trans ha10;have e12:=(hF.same 12 (un 12 (by decide))).trans ha12;have k3:=(gg.cell (p:=⟨rb,1,none⟩) hr).trans cN;obtain ⟨ρ,hρ⟩:∃ρ,a.eval=ρ:=⟨_,rfl⟩
   rw [hρ] at hd e3 e7 e8 e10 e12;simp [Region.binds,Qaj,cs] at hd;refine Qal ρ hρ (.int .i64 N) ?_ ⟨_,rfl,Old.refl _,rfl⟩
   clear gg hF hρ cL fL cP cN ha3 ha7 ha8 ha10 ha12 HK un
   go_simp
   all_goals (rw [IntKind.wrap_i64];omega)
  ·intro a W gg hF hd;have e3:=(hF.same 3 (un 3 (by decide))).trans ha3;have e7:=(hF.same 7 (un 7 (by decide))).trans ha7;have e8:=(hF.same 8 (un 8 (by decide))).trans ha8;have e10:=(hF.same 10 (un 10 (by decide))).trans ha10;have e12:=(hF.same 12 (un 12 (by decide))).trans ha12;obtain ⟨ρ,hρ⟩:∃ρ,a.eval=ρ:=⟨_,rfl⟩
   rw [hρ] at hd e3 e7 e8 e10 e12;simp [Region.binds,Qaj,cs] at hd;refine Qal ρ hρ (.int .i64 m) ?_ ⟨_,rfl,Old.refl _,rfl⟩
   clear gg hF hρ cL fL cP cN ha3 ha7 ha8 ha10 ha12 HK un
   go_simp
   all_goals (rw [IntKind.wrap_i64];omega)
  ·intro a W gg hF hd;have e3:=(hF.same 3 (un 3 (by decide))).trans ha3;have e7:=(hF.same 7 (un 7 (by decide))).trans ha7;have e8:=(hF.same 8 (un 8 (by decide))).trans ha8;have e10:=(hF.same 10 (un 10 (by decide))).trans ha10;have e12:=(hF.same 12 (un 12 (by decide))).trans ha12;obtain ⟨ρ,hρ⟩:∃ρ,a.eval=ρ:=⟨_,rfl⟩
   rw [hρ] at hd e3 e7 e8 e10 e12;simp [Region.binds,Qaj,cs] at hd;refine Qal ρ hρ (.slice (some ⟨g,0,none⟩) N cap) ?_ ⟨_,rfl,Old.refl _,rfl⟩
   clear gg hF hρ cL fL cP cN ha3 ha7 ha8 ha10 ha12 HK un
   go_simp
   all_goals (rw [IntKind.wrap_i64];omega)
  ·intro a W gg hF hd;have e3:=(hF.same 3 (un 3 (by decide))).trans ha3;have e7:=(hF.same 7 (un 7 (by decide))).trans ha7;have e8:=(hF.same 8 (un 8 (by decide))).trans ha8;have e10:=(hF.same 10 (un 10 (by decide))).trans ha10;have e12:=(hF.same 12 (un 12 (by decide))).trans ha12;obtain ⟨ρ,hρ⟩:∃ρ,a.eval=ρ:=⟨_,rfl⟩
   rw [hρ] at hd e3 e7 e8 e10 e12;simp [Region.binds,Qaj,cs] at hd;refine Qal ρ hρ (.int .i64 i) ?_ ⟨_,rfl,Old.refl _,rfl⟩
   clear gg hF hρ cL fL cP cN ha3 ha7 ha8 ha10 ha12 HK un
   go_simp
   all_goals (rw [IntKind.wrap_i64];omega)
  ·intro a W gg hF hd;have e3:=(hF.same 3 (un 3 (by decide))).trans ha3;have e7:=(hF.same 7 (un 7 (by decide))).trans ha7;have e8:=(hF.same 8 (un 8 (by decide))).trans ha8;have e10:=(hF.same 10 (un 10 (by decide))).trans ha10;have e12:=(hF.same 12 (un 12 (by decide))).trans ha12;obtain ⟨ρ,hρ⟩:∃ρ,a.eval=ρ:=⟨_,rfl⟩
   rw [hρ] at hd e3 e7 e8 e10 e12;simp [Region.binds,Qaj,cs] at hd;refine Qal ρ hρ (.int .i64 k) ?_ ⟨_,rfl,Old.refl _,rfl⟩
   clear gg hF hρ cL fL cP cN ha3 ha7 ha8 ha10 ha12 HK un
   go_simp
   all_goals (rw [IntKind.wrap_i64];omega)
  ·intro a W gg hF hd;have e3:=(hF.same 3 (un 3 (by decide))).trans ha3;have e7:=(hF.same 7 (un 7 (by decide))).trans ha7;have e8:=(hF.same 8 (un 8 (by decide))).trans ha8;have e10:=(hF.same 10 (un 10 (by decide))).trans ha10;have e12:=(hF.same 12 (un 12 (by decide))).trans ha12;obtain ⟨ρ,hρ⟩:∃ρ,a.eval=ρ:=⟨_,rfl⟩
   rw [hρ] at hd e3 e7 e8 e10 e12;simp [Region.binds,Qaj,cs] at hd;refine Qal ρ hρ (.int .i64 S) ?_ ⟨_,rfl,Old.refl _,rfl⟩
   clear gg hF hρ cL fL cP cN ha3 ha7 ha8 ha10 ha12 HK un
   go_simp
   all_goals (rw [IntKind.wrap_i64];omega)
  ·intro a W gg hF hd;have e3:=(hF.same 3 (un 3 (by decide))).trans ha3;have e7:=(hF.same 7 (un 7 (by decide))).trans ha7;have e8:=(hF.same 8 (un 8 (by decide))).trans ha8;have e10:=(hF.same 10 (un 10 (by decide))).trans ha10;have e12:=(hF.same 12 (un 12 (by decide))).trans ha12;obtain ⟨ρ,hρ⟩:∃ρ,a.eval=ρ:=⟨_,rfl⟩
   rw [hρ] at hd e3 e7 e8 e10 e12;simp [Region.binds,Qaj,cs] at hd;refine Qal ρ hρ (.pointer (some ⟨rb,1,none⟩)) ?_ ⟨_,rfl,Old.refl _,rfl⟩
   clear gg hF hρ cL fL cP cN ha3 ha7 ha8 ha10 ha12 HK un
   go_simp
   all_goals (rw [IntKind.wrap_i64];omega)
  ·intro a W gg hF hd;have e3:=(hF.same 3 (un 3 (by decide))).trans ha3;have e7:=(hF.same 7 (un 7 (by decide))).trans ha7;have e8:=(hF.same 8 (un 8 (by decide))).trans ha8;have e10:=(hF.same 10 (un 10 (by decide))).trans ha10;have e12:=(hF.same 12 (un 12 (by decide))).trans ha12;have k3:=(gg.cell (p:=⟨rb,1,none⟩) hr).trans cN;obtain ⟨ρ,hρ⟩:∃ρ,a.eval=ρ:=⟨_,rfl⟩
   rw [hρ] at hd e3 e7 e8 e10 e12;simp [Region.binds,Qaj,cs] at hd;refine Qal ρ hρ (.int .i64 N) ?_ ⟨_,rfl,Old.refl _,rfl⟩
   clear gg hF hρ cL fL cP cN ha3 ha7 ha8 ha10 ha12 HK un
   go_simp
   all_goals (rw [IntKind.wrap_i64];omega)
  ·intro a W gg hF hd;have e3:=(hF.same 3 (un 3 (by decide))).trans ha3;have e7:=(hF.same 7 (un 7 (by decide))).trans ha7;have e8:=(hF.same 8 (un 8 (by decide))).trans ha8;have e10:=(hF.same 10 (un 10 (by decide))).trans ha10;have e12:=(hF.same 12 (un 12 (by decide))).trans ha12;obtain ⟨ρ,hρ⟩:∃ρ,a.eval=ρ:=⟨_,rfl⟩
   rw [hρ] at hd e3 e7 e8 e10 e12;simp [Region.binds,Qaj,cs] at hd;refine Qal ρ hρ (.int .i64 m) ?_ ⟨_,rfl,Old.refl _,rfl⟩
   clear gg hF hρ cL fL cP cN ha3 ha7 ha8 ha10 ha12 HK un
   go_simp
   all_goals (rw [IntKind.wrap_i64];omega)
  ·intro a W gg hF hd;have e3:=(hF.same 3 (un 3 (by decide))).trans ha3;have e7:=(hF.same 7 (un 7 (by decide))).trans ha7;have e8:=(hF.same 8 (un 8 (by decide))).trans ha8;have e10:=(hF.same 10 (un 10 (by decide))).trans ha10;have e12:=(hF.same 12 (un 12 (by decide))).trans ha12;obtain ⟨ρ,hρ⟩:∃ρ,a.eval=ρ:=⟨_,rfl⟩
   rw [hρ] at hd e3 e7 e8 e10 e12;simp [Region.binds,Qaj,cs] at hd;refine Qal ρ hρ (.pointer (some ⟨g,m,none⟩)) ?_ ⟨_,rfl,Old.refl _,rfl⟩
   clear gg hF hρ cL fL cP cN ha3 ha7 ha8 ha10 ha12 HK un
   go_simp
   all_goals (rw [IntKind.wrap_i64];omega)
  ·intro a W gg hF hd;have e3:=(hF.same 3 (un 3 (by decide))).trans ha3;have e7:=(hF.same 7 (un 7 (by decide))).trans ha7;have e8:=(hF.same 8 (un 8 (by decide))).trans ha8;have e10:=(hF.same 10 (un 10 (by decide))).trans ha10;have e12:=(hF.same 12 (un 12 (by decide))).trans ha12;have k1:=(gg.cell (p:=⟨g,m,none⟩) hg).trans cL;obtain ⟨ρ,hρ⟩:∃ρ,a.eval=ρ:=⟨_,rfl⟩
   rw [hρ] at hd e3 e7 e8 e10 e12;simp [Region.binds,Qaj,cs] at hd;refine Qal ρ hρ (.int .i64 L) ?_ ⟨_,rfl,Old.refl _,rfl⟩
   clear gg hF hρ cL fL cP cN ha3 ha7 ha8 ha10 ha12 HK un
   go_simp
   all_goals (rw [IntKind.wrap_i64];omega)
  ·intro a W gg hF hd;have e3:=(hF.same 3 (un 3 (by decide))).trans ha3;have e7:=(hF.same 7 (un 7 (by decide))).trans ha7;have e8:=(hF.same 8 (un 8 (by decide))).trans ha8;have e10:=(hF.same 10 (un 10 (by decide))).trans ha10;have e12:=(hF.same 12 (un 12 (by decide))).trans ha12;obtain ⟨ρ,hρ⟩:∃ρ,a.eval=ρ:=⟨_,rfl⟩
   rw [hρ] at hd e3 e7 e8 e10 e12;simp [Region.binds,Qaj,cs] at hd;refine Qal ρ hρ (.pointer (some ⟨rb,0,none⟩)) ?_ ⟨_,rfl,Old.refl _,rfl⟩
   clear gg hF hρ cL fL cP cN ha3 ha7 ha8 ha10 ha12 HK un
   go_simp
   all_goals (rw [IntKind.wrap_i64];omega)
  ·intro a W gg hF hd;have e3:=(hF.same 3 (un 3 (by decide))).trans ha3;have e7:=(hF.same 7 (un 7 (by decide))).trans ha7;have e8:=(hF.same 8 (un 8 (by decide))).trans ha8;have e10:=(hF.same 10 (un 10 (by decide))).trans ha10;have e12:=(hF.same 12 (un 12 (by decide))).trans ha12;have k2:=(gg.cell (p:=⟨rb,0,none⟩) hr).trans cP;obtain ⟨ρ,hρ⟩:∃ρ,a.eval=ρ:=⟨_,rfl⟩
   rw [hρ] at hd e3 e7 e8 e10 e12;simp [Region.binds,Qaj,cs] at hd;refine Qal ρ hρ (.int .i64 P) ?_ ⟨_,rfl,Old.refl _,rfl⟩
   clear gg hF hρ cL fL cP cN ha3 ha7 ha8 ha10 ha12 HK un
   go_simp
   all_goals (rw [IntKind.wrap_i64];omega)
  ·intro a W gg hF hd;have e3:=(hF.same 3 (un 3 (by decide))).trans ha3;have e7:=(hF.same 7 (un 7 (by decide))).trans ha7;have e8:=(hF.same 8 (un 8 (by decide))).trans ha8;have e10:=(hF.same 10 (un 10 (by decide))).trans ha10;have e12:=(hF.same 12 (un 12 (by decide))).trans ha12;obtain ⟨ρ,hρ⟩:∃ρ,a.eval=ρ:=⟨_,rfl⟩
   rw [hρ] at hd e3 e7 e8 e10 e12;simp [Region.binds,Qaj,cs] at hd;refine Qal ρ hρ (.int .i64 ((L:Int)+P)) ?_ ⟨_,rfl,Old.refl _,rfl⟩
   clear gg hF hρ cL fL cP cN ha3 ha7 ha8 ha10 ha12 HK un
   go_simp
   all_goals (rw [IntKind.wrap_i64];omega)
  ·intro a W gg hF hd;have e3:=(hF.same 3 (un 3 (by decide))).trans ha3;have e7:=(hF.same 7 (un 7 (by decide))).trans ha7;have e8:=(hF.same 8 (un 8 (by decide))).trans ha8;have e10:=(hF.same 10 (un 10 (by decide))).trans ha10;have e12:=(hF.same 12 (un 12 (by decide))).trans ha12;obtain ⟨ρ,hρ⟩:∃ρ,a.eval=ρ:=⟨_,rfl⟩
   rw [hρ] at hd e3 e7 e8 e10 e12;simp [Region.binds,Qaj,cs] at hd;refine Qal ρ hρ (.int .i64 z) ?_ ⟨_,rfl,Old.refl _,rfl⟩
   clear gg hF hρ cL fL cP cN ha3 ha7 ha8 ha10 ha12 HK un
   go_simp
   all_goals (rw [IntKind.wrap_i64];omega)
  ·intro a W gg hF hd;have e3:=(hF.same 3 (un 3 (by decide))).trans ha3;have e7:=(hF.same 7 (un 7 (by decide))).trans ha7;have e8:=(hF.same 8 (un 8 (by decide))).trans ha8;have e10:=(hF.same 10 (un 10 (by decide))).trans ha10;have e12:=(hF.same 12 (un 12 (by decide))).trans ha12;obtain ⟨ρ,hρ⟩:∃ρ,a.eval=ρ:=⟨_,rfl⟩
   rw [hρ] at hd e3 e7 e8 e10 e12;simp [Region.binds,Qaj,cs] at hd;refine Qal ρ hρ (.int .i64 ((L:Int)+P - z)) ?_ ⟨_,rfl,Old.refl _,rfl⟩
   clear gg hF hρ cL fL cP cN ha3 ha7 ha8 ha10 ha12 HK un
   go_simp
   all_goals (rw [IntKind.wrap_i64];omega)
  ·intro a W gg hF hd;have e3:=(hF.same 3 (un 3 (by decide))).trans ha3;have e7:=(hF.same 7 (un 7 (by decide))).trans ha7;have e8:=(hF.same 8 (un 8 (by decide))).trans ha8;have e10:=(hF.same 10 (un 10 (by decide))).trans ha10;have e12:=(hF.same 12 (un 12 (by decide))).trans ha12;obtain ⟨ρ,hρ⟩:∃ρ,a.eval=ρ:=⟨_,rfl⟩
   rw [hρ] at hd e3 e7 e8 e10 e12;simp [Region.binds,Qaj,cs] at hd;refine Qal ρ hρ (.pointer (some ⟨rb,0,none⟩)) ?_ ⟨_,rfl,Old.refl _,rfl⟩
   clear gg hF hρ cL fL cP cN ha3 ha7 ha8 ha10 ha12 HK un
   go_simp
   all_goals (rw [IntKind.wrap_i64];omega)
  ·intro a W gg hF hd;have e3:=(hF.same 3 (un 3 (by decide))).trans ha3;have e7:=(hF.same 7 (un 7 (by decide))).trans ha7;have e8:=(hF.same 8 (un 8 (by decide))).trans ha8;have e10:=(hF.same 10 (un 10 (by decide))).trans ha10;have e12:=(hF.same 12 (un 12 (by decide))).trans ha12;have k2:=(gg.cell (p:=⟨rb,0,none⟩) hr).trans cP;obtain ⟨ρ,hρ⟩:∃ρ,a.eval=ρ:=⟨_,rfl⟩
   rw [hρ] at hd e3 e7 e8 e10 e12;simp [Region.binds,Qaj,cs] at hd;refine Qal ρ hρ (.int .i64 P) ?_ ⟨_,rfl,Old.refl _,rfl⟩
   clear gg hF hρ cL fL cP cN ha3 ha7 ha8 ha10 ha12 HK un
   go_simp
   all_goals (rw [IntKind.wrap_i64];omega)
  ·intro a W gg hF hd;have e3:=(hF.same 3 (un 3 (by decide))).trans ha3;have e7:=(hF.same 7 (un 7 (by decide))).trans ha7;have e8:=(hF.same 8 (un 8 (by decide))).trans ha8;have e10:=(hF.same 10 (un 10 (by decide))).trans ha10;have e12:=(hF.same 12 (un 12 (by decide))).trans ha12;obtain ⟨ρ,hρ⟩:∃ρ,a.eval=ρ:=⟨_,rfl⟩
   rw [hρ] at hd e3 e7 e8 e10 e12;simp [Region.binds,Qaj,cs] at hd;refine Qal ρ hρ (.int .i64 Z) ?_ ⟨_,rfl,Old.refl _,rfl⟩
   clear gg hF hρ cL fL cP cN ha3 ha7 ha8 ha10 ha12 HK un
   go_simp
   all_goals (rw [IntKind.wrap_i64];omega)
  ·intro a W gg hF hd;have e3:=(hF.same 3 (un 3 (by decide))).trans ha3;have e7:=(hF.same 7 (un 7 (by decide))).trans ha7;have e8:=(hF.same 8 (un 8 (by decide))).trans ha8;have e10:=(hF.same 10 (un 10 (by decide))).trans ha10;have e12:=(hF.same 12 (un 12 (by decide))).trans ha12;obtain ⟨ρ,hρ⟩:∃ρ,a.eval=ρ:=⟨_,rfl⟩
   rw [hρ] at hd e3 e7 e8 e10 e12;simp [Region.binds,Qaj,cs] at hd;refine Qal ρ hρ (.pointer (some ⟨g,m,none⟩)) ?_ ⟨_,rfl,Old.refl _,rfl⟩
   clear gg hF hρ cL fL cP cN ha3 ha7 ha8 ha10 ha12 HK un
   go_simp
   all_goals (rw [IntKind.wrap_i64];omega)
 ·intro a W gg hF hq;have q1:=hq 24 (by decide);have q2:=hq 23 (by decide);simp [Qaj,cs] at q1 q2;have k1:=(gg.cell (p:=⟨g,m,none⟩) hg).trans cL;have k4:=(World.frozen?_of_block (gg.block g hg)).trans fL;have hp:=Qeu hF (fun i j hi hj=>Qfu i hi j hj);have hk:=HK.out (fun i=>a.eval (.tmp (Qaj i))) W gg;rw [← hp] at hk;obtain ⟨ρ,hρ⟩:∃ρ,a.eval=ρ:=⟨_,rfl⟩
  rw [hρ] at q1 q2;refine Qyh (W':=W.setCell ⟨g,m,none⟩ (.int .i64 Z)) ρ hρ ?_ hk
  clear hk hp hF hq gg hρ cL fL cP cN ha3 ha7 ha8 ha10 ha12 HK un
  go_simp
def Qde (n:Nat):Code->Option Code
 | .region i ops b=>if i=n then some (.region i ops b) else none
 | .seq a b=>match Qde n a with
   | some c=>some c
   | none=>Qde n b
 | .block _ c=>Qde n c
 | _=>none
def Qoh (i:Nat):Nat:=[7,8,9,10,11,12,13,14,15,16,6].getD i 0
theorem Qwo:∀i,i<11->Qoh i<17:=by decide
theorem Qtr:∀i,i<11->∀j,j<11->Qoh i=Qoh j->i=j:=by decide
def Qwp (A:Array Value) (v u:Value) (FA FB PR RES:List Int) (base:Nat) (i:Nat) (W:World) (x:Value):Prop:=
 match i with
 | 0=>x=.agg A
 | 1=>x=.agg A
 | 2=>x=.agg A
 | 3=>x=v
 | 4=>Row W x FA
 | 5=>x=.agg A
 | 6=>x=u
 | 7=>Row W x FB
 | 8=>Row W x PR
 | 9=>Own W base x RES
 | 10=>Own W base x RES
 | _=>True
theorem Qts (A:Array Value) (v u:Value) (FA FB PR RES:List Int) (base:Nat) (i:Nat) (W W':World) (x:Value) (h:Qwp A v u FA FB PR RES base i W x) (g:Old W W'):Qwp A v u FA FB PR RES base i W' x:=by
 unfold Qwp at h ⊢;split at h
 all_goals first | exact h | exact h.old g | trivial
theorem Qwq (w1:World) (k:Nat) (A:Array Value) (v u:Value) (FA FB PR RES:List Int) (b0:w1.heap[k]? = some (.cells A 133 (0,0))) (hA:A.size=3)
  (KF1:∀W,Old w1 W->Calls Tryz.prog 135 #[.agg A,v] W fun e w'=>∃v',e=.returned v'/\Old W w'/\Own w' W.heap.size v' FA)
  (KF2:∀W,Old w1 W->Calls Tryz.prog 135 #[.agg A,u] W fun e w'=>∃v',e=.returned v'/\Old W w'/\Own w' W.heap.size v' FB)
  (KP:∀W x y,Old w1 W->Row W x FA->Row W y FB->Calls Tryz.prog 121 #[.agg A,x,y] W fun e w'=>∃v',e=.returned v'/\Old W w'/\Own w' W.heap.size v' PR)
  (KI:∀W x,Old w1 W->Row W x PR->Calls Tryz.prog 134 #[.agg A,x] W fun e w'=>∃v',e=.returned v'/\Old W w'/\Own w' W.heap.size v' RES)
  (Q:Exit->Act->World->Prop) (K:Act->World->Prop) (a0:Act) (hsz:a0.tmps.size=17) (ha3:a0.eval (.tmp 3)=.pointer (some ⟨k,0,none⟩)) (ha1:a0.eval (.tmp 1)=v) (ha2:a0.eval (.tmp 2)=u)
  (HK:Hid (∀a W,Old w1 W->Fram 11 Qoh a0 a->Own W w1.heap.size (a.eval (.tmp 6)) RES->K a W)) :
  Code.wp Tryz.prog ((Tryz.f122.body.bind (Qde 1)).getD .skip) (Exit.then K Q) a0 w1:=by
 conv=>arg 2;whnf
 have un:∀s,s<6->∀i,i<11->Qoh i≠s:=by decide
 have key:∀s,s<6->∀a,Fram 11 Qoh a0 a->a.eval (.tmp s)=a0.eval (.tmp s):=fun s hs a hF=>hF.same s (un s hs)
 refine Qkb (by kernel_rfl) (by kernel_rfl) (by kernel_rfl) Qoh ?_ ?_ (Qwp A v u FA FB PR RES w1.heap.size) (Qts A v u FA FB PR RES w1.heap.size) ?_ ?_
 ·intro i hi;rw [hsz];exact Qwo i hi
 ·intro i j hi hj;exact Qtr i hi j hj
 ·have ring:∀W,Old w1 W→W.heap[k]? = some (.cells A 133 (0,0)):=fun W g=>(g.block k (lt_of_some b0)).trans b0
  have hinfo:(Tryz.prog.info? 133).map (·.size)=some A.size:=by rw [hA];kernel_rfl
  refine ⟨?_,?_,?_,?_,?_,?_,?_,?_,?_,?_,?_,trivial⟩
  ·intro a W g hF hd;refine Qfa (k:=k) ((key 3 (by decide) a hF).trans ha3) (ring W g) Tryz.underlying133 rfl hinfo ?_
   exact ⟨_,rfl,Old.refl _,rfl⟩
  ·intro a W g hF hd;refine Qfa (k:=k) ((key 3 (by decide) a hF).trans ha3) (ring W g) Tryz.underlying133 rfl hinfo ?_
   exact ⟨_,rfl,Old.refl _,rfl⟩
  ·intro a W g hF hd;refine Qfa (k:=k) ((key 3 (by decide) a hF).trans ha3) (ring W g) Tryz.underlying133 rfl hinfo ?_
   exact ⟨_,rfl,Old.refl _,rfl⟩
  ·intro a W g hF hd;refine Qgb ?_
   exact ⟨_,rfl,Old.refl _,(key 1 (by decide) a hF).trans ha1⟩
  ·intro a W g hF hd;have h2:a.eval (.tmp 9)=.agg A:=hd ⟨2,.data⟩ (by simp) rfl;have h3:a.eval (.tmp 10)=v:=hd ⟨3,.data⟩ (by simp) rfl;refine Qa3 Tryz.call135 (vs:=#[.agg A,v]) (by simp [h2,h3]) (KF1 W g) ?_
   rintro x w' ⟨g',o'⟩;exact ⟨_,rfl,g',Own.row o'⟩
  ·intro a W g hF hd;refine Qfa (k:=k) ((key 3 (by decide) a hF).trans ha3) (ring W g) Tryz.underlying133 rfl hinfo ?_
   exact ⟨_,rfl,Old.refl _,rfl⟩
  ·intro a W g hF hd;refine Qgb ?_
   exact ⟨_,rfl,Old.refl _,(key 2 (by decide) a hF).trans ha2⟩
  ·intro a W g hF hd;have h2:a.eval (.tmp 12)=.agg A:=hd ⟨5,.data⟩ (by simp) rfl;have h3:a.eval (.tmp 13)=u:=hd ⟨6,.data⟩ (by simp) rfl;refine Qa3 Tryz.call135 (vs:=#[.agg A,u]) (by simp [h2,h3]) (KF2 W g) ?_
   rintro x w' ⟨g',o'⟩;exact ⟨_,rfl,g',Own.row o'⟩
  ·intro a W g hF hd;have h1:a.eval (.tmp 8)=.agg A:=hd ⟨1,.data⟩ (by simp) rfl;have h2:Row W (a.eval (.tmp 11)) FA:=hd ⟨4,.data⟩ (by simp) rfl;have h3:Row W (a.eval (.tmp 14)) FB:=hd ⟨7,.data⟩ (by simp) rfl;refine Qa3 Tryz.call121 (vs:=#[.agg A,a.eval (.tmp 11),a.eval (.tmp 14)]) (by simp [h1]) (KP W _ _ g h2 h3) ?_
   rintro x w' ⟨g',o'⟩;exact ⟨_,rfl,g',Own.row o'⟩
  ·intro a W g hF hd;have h1:a.eval (.tmp 7)=.agg A:=hd ⟨0,.data⟩ (by simp) rfl;have h2:Row W (a.eval (.tmp 15)) PR:=hd ⟨8,.data⟩ (by simp) rfl;refine Qa3 Tryz.call134 (vs:=#[.agg A,a.eval (.tmp 15)]) (by simp [h1]) (KI W _ g h2) ?_
   rintro x w' ⟨g',o'⟩;exact ⟨_,rfl,g',o'.low g.size⟩
  ·intro a W g hF hd;refine Qeh ?_
   have h1:Own W w1.heap.size (a.eval (.tmp 16)) RES:=hd ⟨9,.data⟩ (by simp) rfl;exact ⟨_,rfl,Old.refl _,h1⟩
 ·intro a W g hF hq;exact HK.out a W g hF (hq 10 (by decide))
end Go.Proofs.YthcidnnkakppcaaGreatDoor
