/- Proved: what its theorems say. -/
import Derived.Test.YtejhpljichmmpaaGreatDoorNo03
import Derived.Test.YtejhpljichmmpaaGreatDoorNo02
set_option linter.unusedVariables false
set_option linter.unusedSimpArgs false
set_option maxHeartbeats 8000000
set_option maxRecDepth 100000
namespace Go.Proofs.YtejhpljichmmpaaGreatDoor
open Go.ChangeShapes Go.WideShapes Go.ChangeAt Go.RowKit
def Qbe (n:Nat):Code->Option Code
 | .region i ops b=>if i=n then some (.region i ops b) else none
 | .seq a b=>match Qbe n a with
   | some c=>some c
   | none=>Qbe n b
 | .block _ c=>Qbe n c
 | _=>none
theorem Qjy (w2:World) (x0_0 x0_1 x0_2 x0_3:Value) (kb0:Nat) (x1_ : Value) (x2_0:Value) (kb2:Nat)
 (CR0:World->Value->Prop) (hCR0:∀W W' v,CR0 W v->Old W W'->CR0 W' v)
 (c0:∀W,Old w2 W->Calls Tryz.prog 11 #[.agg #[x0_0,x0_1,x0_2,x0_3]] W fun e w'=>∃v,e=.returned v/\Old W w'/\CR0 w' v)
 (b0:w2.heap[kb0]? = some (.cells #[x0_0,x0_1,x0_2,x0_3] 24 (0,0)))
 (CR1:World->Value->Prop) (hCR1:∀W W' v,CR1 W v->Old W W'->CR1 W' v)
 (c1:∀W,Old w2 W->Calls Tryz.prog 12 #[x1_] W fun e w'=>∃v,e=.returned v/\Old W w'/\CR1 w' v)
 (CR2:World->Value->Prop) (hCR2:∀W W' v,CR2 W v->Old W W'->CR2 W' v)
 (c2:∀W,Old w2 W->Calls Tryz.prog 13 #[.agg #[x2_0]] W fun e w'=>∃v,e=.returned v/\Old W w'/\CR2 w' v)
 (b2:w2.heap[kb2]? = some (.cells #[x2_0] 27 (0,0)))
 (RES:World->Nat->Nat->Array Value->Value->Prop) (far:∀W W' lo hi (g0:Array Value) (g1:Value),RES W lo hi g0 g1->(∀b,lo<=b->b<hi->W'.heap[b]? = W.heap[b]?)->W.heap.size<=W'.heap.size->RES W' lo hi g0 g1)
 (cf:∀W v0 v1 v2,Old w2 W->CR0 W v0->CR1 W v1->CR2 W v2->Calls Tryz.prog 10 #[v0,v1,v2] W fun e w'=>∃(g0:Array Value) (g1:Value),e=.returned (.tuple #[.agg g0,g1])/\Old W w'/\g0.size=2/\g0.all (·.oneCell')=true/\RES w' W.heap.size w'.heap.size g0 g1)
 (Q:Exit->Act->World->Prop) (K:Act->World->Prop) (a0:Act) (hsz:140<=a0.tmps.size) (ha1:a0.eval (.tmp 1)=x1_) (ha3:a0.eval (.tmp 3)=.pointer (some ⟨kb0,0,none⟩)) (ha5:a0.eval (.tmp 5)=.pointer (some ⟨kb2,0,none⟩))
 (HK:Hid (∀(k0 lo hi:Nat) (g0:Array Value) (g1:Value) (u33 u34 u35 u36 u37 u38 u39 u40 u41 u42:Value) (W:World),Old w2 W->w2.heap.size<=lo->hi<=W.heap.size->RES W lo hi g0 g1->W.heap[k0]? = some (.cells g0 31 (0,0))->w2.heap.size<=k0->k0<W.heap.size->(k0<lo∨hi<=k0)->K (Qaj a0 [(8,.pointer (some ⟨k0,0,none⟩)),(9,g1),(33,u33),(34,u34),(35,u35),(36,u36),(37,u37),(38,u38),(39,u39),(40,u40),(41,u41),(42,u42)]) W)) :
 Code.wp Tryz.prog ((Tryz.f3.body.bind (Qbe 10)).getD .skip) (Exit.then K Q) a0 w2:=by
 conv=>arg 2;whnf
 have e1:∀l,(Qaj a0 l).eval (.tmp 1)=(Qay l 1).getD (a0.eval (.tmp 1)):=Qac a0 1 (by omega)
 have e3:∀l,(Qaj a0 l).eval (.tmp 3)=(Qay l 3).getD (a0.eval (.tmp 3)):=Qac a0 3 (by omega)
 have e5:∀l,(Qaj a0 l).eval (.tmp 5)=(Qay l 5).getD (a0.eval (.tmp 5)):=Qac a0 5 (by omega)
 have e8:∀l,(Qaj a0 l).eval (.tmp 8)=(Qay l 8).getD (a0.eval (.tmp 8)):=Qac a0 8 (by omega)
 have e9:∀l,(Qaj a0 l).eval (.tmp 9)=(Qay l 9).getD (a0.eval (.tmp 9)):=Qac a0 9 (by omega)
 have e33:∀l,(Qaj a0 l).eval (.tmp 33)=(Qay l 33).getD (a0.eval (.tmp 33)):=Qac a0 33 (by omega)
 have e34:∀l,(Qaj a0 l).eval (.tmp 34)=(Qay l 34).getD (a0.eval (.tmp 34)):=Qac a0 34 (by omega)
 have e35:∀l,(Qaj a0 l).eval (.tmp 35)=(Qay l 35).getD (a0.eval (.tmp 35)):=Qac a0 35 (by omega)
 have e36:∀l,(Qaj a0 l).eval (.tmp 36)=(Qay l 36).getD (a0.eval (.tmp 36)):=Qac a0 36 (by omega)
 have e37:∀l,(Qaj a0 l).eval (.tmp 37)=(Qay l 37).getD (a0.eval (.tmp 37)):=Qac a0 37 (by omega)
 have e38:∀l,(Qaj a0 l).eval (.tmp 38)=(Qay l 38).getD (a0.eval (.tmp 38)):=Qac a0 38 (by omega)
 have e39:∀l,(Qaj a0 l).eval (.tmp 39)=(Qay l 39).getD (a0.eval (.tmp 39)):=Qac a0 39 (by omega)
 have e40:∀l,(Qaj a0 l).eval (.tmp 40)=(Qay l 40).getD (a0.eval (.tmp 40)):=Qac a0 40 (by omega)
 have e41:∀l,(Qaj a0 l).eval (.tmp 41)=(Qay l 41).getD (a0.eval (.tmp 41)):=Qac a0 41 (by omega)
 have e42:∀l,(Qaj a0 l).eval (.tmp 42)=(Qay l 42).getD (a0.eval (.tmp 42)):=Qac a0 42 (by omega)
 refine Qce (fun d a W=>∃(u8 u9 u33 u34 u35 u36 u37 u38 u39 u40 u41 u42:Value) (k0 lo hi:Nat) (g0:Array Value) (g1:Value),a=(Qaj a0 [(8,u8),(9,u9),(33,u33),(34,u34),(35,u35),(36,u36),(37,u37),(38,u38),(39,u39),(40,u40),(41,u41),(42,u42)])/\(Old w2 W)/\(d 0=true->u34=.agg #[x0_0,x0_1,x0_2,x0_3])/\(d 1=true->d 6=false->CR0 W u35)/\(d 2=true->u36=x1_)/\(d 3=true->d 6=false->CR1 W u37)/\(d 4=true->u38=.agg #[x2_0])/\(d 5=true->d 6=false->CR2 W u39)/\(d 6=true->u40=.tuple #[.agg g0,g1]/\w2.heap.size<=lo/\hi<=W.heap.size/\g0.size=2/\g0.all (·.oneCell')=true/\RES W lo hi g0 g1)/\(d 7=true->u33=.tuple #[.agg g0,g1])/\(d 8=true->u41=.agg g0)/\(d 9=true->u42=g1)/\(d 10=true->u8=.pointer (some ⟨k0,0,none⟩)/\w2.heap.size<=k0/\k0<W.heap.size)/\(d 10=true->d 11=false->W.heap[k0]? = some (.cells #[.bool false,.slice none 0 0] 31 (0,0)))/\(d 11=true->W.heap[k0]? = some (.cells g0 31 (0,0)))/\(d 10=true->d 6=true->(k0<lo∨hi<=k0))/\(d 12=true->u9=g1)/\(d 7=true->d 6=true)/\(d 8=true->d 6=true)/\(d 11=true->d 6=true)/\(d 11=true->d 10=true)/\(d 9=true->d 6=true)/\(d 12=true->d 6=true)) rfl (by decide +kernel) (by decide +kernel) ?_ ⟨?_,?_,?_,?_,?_,?_,?_,?_,?_,?_,?_,?_,?_,trivial⟩ ?_
 ·exact ⟨_,_,_,_,_,_,_,_,_,_,_,_,0,0,0,#[],undef,(Qe4 a0 [8,9,33,34,35,36,37,38,39,40,41,42] (by intro s hs;simp at hs;omega)).symm,Below.drew (Old.refl w2),(fun h=>by cases h),(fun h=>by cases h),(fun h=>by cases h),(fun h=>by cases h),(fun h=>by cases h),(fun h=>by cases h),(fun h=>by cases h),(fun h=>by cases h),(fun h=>by cases h),(fun h=>by cases h),(fun h=>by cases h),(fun h=>by cases h),(fun h=>by cases h),(fun h=>by cases h),(fun h=>by cases h),(fun h=>by cases h),(fun h=>by cases h),(fun h=>by cases h),(fun h=>by cases h),(fun h=>by cases h),(fun h=>by cases h)⟩
 ·rintro d a W ⟨u8,u9,u33,u34,u35,u36,u37,u38,u39,u40,u41,u42,k0,lo,hi,g0,g1,hfr,fold,fL0,fC0,fL1,fC1,fL2,fC2,fF,fM,fE0,fE1,fB0,fZ0,fS0,fX0,fA1,fO7_6,fO8_6,fO11_6,fO11_10,fO9_6,fO12_6⟩ hi_ hd;simp [Region.binds] at hd;refine Qbx (k:=kb0) (by rw [hfr,e3];exact ha3) (fold.block _ (lt_of_some b0) |>.trans b0) Tryz.underlying24 rfl (by kernel_rfl) ?_
  exact ⟨u8,u9,u33,.agg #[x0_0,x0_1,x0_2,x0_3],u35,u36,u37,u38,u39,u40,u41,u42,k0,lo,hi,g0,g1,(by rw [hfr];exact Qan a0 _ _ _ rfl),(fold),
   (fun _=>rfl),
   (fun h0 h1=>fC0 h0 h1),
   (fun h0=>fL1 h0),
   (fun h0 h1=>fC1 h0 h1),
   (fun h0=>fL2 h0),
   (fun h0 h1=>fC2 h0 h1),
   (fun h0=>fF h0),
   (fun h0=>fM h0),
   (fun h0=>fE0 h0),
   (fun h0=>fE1 h0),
   (fun h0=>fB0 h0),
   (fun h0 h1=>fZ0 h0 h1),
   (fun h0=>fS0 h0),
   (fun h0 h1=>fX0 h0 h1),
   (fun h0=>fA1 h0),
   (fun h=>fO7_6 h),
   (fun h=>fO8_6 h),
   (fun h=>fO11_6 h),
   (fun h=>fO11_10 h),
   (fun h=>fO9_6 h),
   (fun h=>fO12_6 h)⟩
 ·rintro d a W ⟨u8,u9,u33,u34,u35,u36,u37,u38,u39,u40,u41,u42,k0,lo,hi,g0,g1,hfr,fold,fL0,fC0,fL1,fC1,fL2,fC2,fF,fM,fE0,fE1,fB0,fZ0,fS0,fX0,fA1,fO7_6,fO8_6,fO11_6,fO11_10,fO9_6,fO12_6⟩ hi_ hd;simp [Region.binds] at hd;have HD0:d 0=true:=by simp only [hd]
  clear hd;have hv:=fL0 HD0;refine Qag Tryz.call11 (vs:=#[.agg #[x0_0,x0_1,x0_2,x0_3]]) (by simp [hfr,e34,Qay,hv]) (c0 W fold) ?_
  rintro v W' ⟨g,hcr⟩
  exact ⟨u8,u9,u33,u34,v,u36,u37,u38,u39,u40,u41,u42,k0,lo,hi,g0,g1,(by rw [hfr];exact Qan a0 _ _ _ rfl),(Old.trans fold g),
   (fun h0=>fL0 h0),
   (fun _ _=>hcr),
   (fun h0=>fL1 h0),
   (fun h0 h1=>hCR1 _ _ _ (fC1 h0 h1) g),
   (fun h0=>fL2 h0),
   (fun h0 h1=>hCR2 _ _ _ (fC2 h0 h1) g),
   (fun h0=>by obtain ⟨e1,e2,e3,z0,y0,e9⟩:=fF h0;exact ⟨e1,e2,Nat.le_trans e3 g.size,z0,y0,far _ _ _ _ _ _ e9 (fun b _ hb=>g.block b (by omega)) g.size⟩),
   (fun h0=>fM h0),
   (fun h0=>fE0 h0),
   (fun h0=>fE1 h0),
   (fun h0=>by obtain ⟨e1,e2,e3⟩:=fB0 h0;exact ⟨e1,e2,Nat.lt_of_lt_of_le e3 g.size⟩),
   (fun h0 h1=>(g.block _ (lt_of_some (fZ0 h0 h1))).trans (fZ0 h0 h1)),
   (fun h0=>(g.block _ (lt_of_some (fS0 h0))).trans (fS0 h0)),
   (fun h0 h1=>fX0 h0 h1),
   (fun h0=>fA1 h0),
   (fun h=>fO7_6 h),
   (fun h=>fO8_6 h),
   (fun h=>fO11_6 h),
   (fun h=>fO11_10 h),
   (fun h=>fO9_6 h),
   (fun h=>fO12_6 h)⟩
 ·rintro d a W ⟨u8,u9,u33,u34,u35,u36,u37,u38,u39,u40,u41,u42,k0,lo,hi,g0,g1,hfr,fold,fL0,fC0,fL1,fC1,fL2,fC2,fF,fM,fE0,fE1,fB0,fZ0,fS0,fX0,fA1,fO7_6,fO8_6,fO11_6,fO11_10,fO9_6,fO12_6⟩ hi_ hd;simp [Region.binds] at hd;refine Qca ?_
  rw [show a.eval (.tmp 1)=x1_ by rw [hfr,e1];exact ha1]
  exact ⟨u8,u9,u33,u34,u35,x1_,u37,u38,u39,u40,u41,u42,k0,lo,hi,g0,g1,(by rw [hfr];exact Qan a0 _ _ _ rfl),(fold),
   (fun h0=>fL0 h0),
   (fun h0 h1=>fC0 h0 h1),
   (fun _=>rfl),
   (fun h0 h1=>fC1 h0 h1),
   (fun h0=>fL2 h0),
   (fun h0 h1=>fC2 h0 h1),
   (fun h0=>fF h0),
   (fun h0=>fM h0),
   (fun h0=>fE0 h0),
   (fun h0=>fE1 h0),
   (fun h0=>fB0 h0),
   (fun h0 h1=>fZ0 h0 h1),
   (fun h0=>fS0 h0),
   (fun h0 h1=>fX0 h0 h1),
   (fun h0=>fA1 h0),
   (fun h=>fO7_6 h),
   (fun h=>fO8_6 h),
   (fun h=>fO11_6 h),
   (fun h=>fO11_10 h),
   (fun h=>fO9_6 h),
   (fun h=>fO12_6 h)⟩
 ·rintro d a W ⟨u8,u9,u33,u34,u35,u36,u37,u38,u39,u40,u41,u42,k0,lo,hi,g0,g1,hfr,fold,fL0,fC0,fL1,fC1,fL2,fC2,fF,fM,fE0,fE1,fB0,fZ0,fS0,fX0,fA1,fO7_6,fO8_6,fO11_6,fO11_10,fO9_6,fO12_6⟩ hi_ hd;simp [Region.binds] at hd;have HD2:d 2=true:=by simp only [hd]
  clear hd;have hv:=fL1 HD2;refine Qag Tryz.call12 (vs:=#[x1_]) (by simp [hfr,e36,Qay,hv]) (c1 W fold) ?_
  rintro v W' ⟨g,hcr⟩
  exact ⟨u8,u9,u33,u34,u35,u36,v,u38,u39,u40,u41,u42,k0,lo,hi,g0,g1,(by rw [hfr];exact Qan a0 _ _ _ rfl),(Old.trans fold g),
   (fun h0=>fL0 h0),
   (fun h0 h1=>hCR0 _ _ _ (fC0 h0 h1) g),
   (fun h0=>fL1 h0),
   (fun _ _=>hcr),
   (fun h0=>fL2 h0),
   (fun h0 h1=>hCR2 _ _ _ (fC2 h0 h1) g),
   (fun h0=>by obtain ⟨e1,e2,e3,z0,y0,e9⟩:=fF h0;exact ⟨e1,e2,Nat.le_trans e3 g.size,z0,y0,far _ _ _ _ _ _ e9 (fun b _ hb=>g.block b (by omega)) g.size⟩),
   (fun h0=>fM h0),
   (fun h0=>fE0 h0),
   (fun h0=>fE1 h0),
   (fun h0=>by obtain ⟨e1,e2,e3⟩:=fB0 h0;exact ⟨e1,e2,Nat.lt_of_lt_of_le e3 g.size⟩),
   (fun h0 h1=>(g.block _ (lt_of_some (fZ0 h0 h1))).trans (fZ0 h0 h1)),
   (fun h0=>(g.block _ (lt_of_some (fS0 h0))).trans (fS0 h0)),
   (fun h0 h1=>fX0 h0 h1),
   (fun h0=>fA1 h0),
   (fun h=>fO7_6 h),
   (fun h=>fO8_6 h),
   (fun h=>fO11_6 h),
   (fun h=>fO11_10 h),
   (fun h=>fO9_6 h),
   (fun h=>fO12_6 h)⟩
 ·rintro d a W ⟨u8,u9,u33,u34,u35,u36,u37,u38,u39,u40,u41,u42,k0,lo,hi,g0,g1,hfr,fold,fL0,fC0,fL1,fC1,fL2,fC2,fF,fM,fE0,fE1,fB0,fZ0,fS0,fX0,fA1,fO7_6,fO8_6,fO11_6,fO11_10,fO9_6,fO12_6⟩ hi_ hd;simp [Region.binds] at hd;refine Qbx (k:=kb2) (by rw [hfr,e5];exact ha5) (fold.block _ (lt_of_some b2) |>.trans b2) Tryz.underlying27 rfl (by kernel_rfl) ?_
  exact ⟨u8,u9,u33,u34,u35,u36,u37,.agg #[x2_0],u39,u40,u41,u42,k0,lo,hi,g0,g1,(by rw [hfr];exact Qan a0 _ _ _ rfl),(fold),
   (fun h0=>fL0 h0),
   (fun h0 h1=>fC0 h0 h1),
   (fun h0=>fL1 h0),
   (fun h0 h1=>fC1 h0 h1),
   (fun _=>rfl),
   (fun h0 h1=>fC2 h0 h1),
   (fun h0=>fF h0),
   (fun h0=>fM h0),
   (fun h0=>fE0 h0),
   (fun h0=>fE1 h0),
   (fun h0=>fB0 h0),
   (fun h0 h1=>fZ0 h0 h1),
   (fun h0=>fS0 h0),
   (fun h0 h1=>fX0 h0 h1),
   (fun h0=>fA1 h0),
   (fun h=>fO7_6 h),
   (fun h=>fO8_6 h),
   (fun h=>fO11_6 h),
   (fun h=>fO11_10 h),
   (fun h=>fO9_6 h),
   (fun h=>fO12_6 h)⟩
 ·rintro d a W ⟨u8,u9,u33,u34,u35,u36,u37,u38,u39,u40,u41,u42,k0,lo,hi,g0,g1,hfr,fold,fL0,fC0,fL1,fC1,fL2,fC2,fF,fM,fE0,fE1,fB0,fZ0,fS0,fX0,fA1,fO7_6,fO8_6,fO11_6,fO11_10,fO9_6,fO12_6⟩ hi_ hd;simp [Region.binds] at hd;have HD4:d 4=true:=by simp only [hd]
  clear hd;have hv:=fL2 HD4;refine Qag Tryz.call13 (vs:=#[.agg #[x2_0]]) (by simp [hfr,e38,Qay,hv]) (c2 W fold) ?_
  rintro v W' ⟨g,hcr⟩
  exact ⟨u8,u9,u33,u34,u35,u36,u37,u38,v,u40,u41,u42,k0,lo,hi,g0,g1,(by rw [hfr];exact Qan a0 _ _ _ rfl),(Old.trans fold g),
   (fun h0=>fL0 h0),
   (fun h0 h1=>hCR0 _ _ _ (fC0 h0 h1) g),
   (fun h0=>fL1 h0),
   (fun h0 h1=>hCR1 _ _ _ (fC1 h0 h1) g),
   (fun h0=>fL2 h0),
   (fun _ _=>hcr),
   (fun h0=>by obtain ⟨e1,e2,e3,z0,y0,e9⟩:=fF h0;exact ⟨e1,e2,Nat.le_trans e3 g.size,z0,y0,far _ _ _ _ _ _ e9 (fun b _ hb=>g.block b (by omega)) g.size⟩),
   (fun h0=>fM h0),
   (fun h0=>fE0 h0),
   (fun h0=>fE1 h0),
   (fun h0=>by obtain ⟨e1,e2,e3⟩:=fB0 h0;exact ⟨e1,e2,Nat.lt_of_lt_of_le e3 g.size⟩),
   (fun h0 h1=>(g.block _ (lt_of_some (fZ0 h0 h1))).trans (fZ0 h0 h1)),
   (fun h0=>(g.block _ (lt_of_some (fS0 h0))).trans (fS0 h0)),
   (fun h0 h1=>fX0 h0 h1),
   (fun h0=>fA1 h0),
   (fun h=>fO7_6 h),
   (fun h=>fO8_6 h),
   (fun h=>fO11_6 h),
   (fun h=>fO11_10 h),
   (fun h=>fO9_6 h),
   (fun h=>fO12_6 h)⟩
 ·rintro d a W ⟨u8,u9,u33,u34,u35,u36,u37,u38,u39,u40,u41,u42,k0,lo,hi,g0,g1,hfr,fold,fL0,fC0,fL1,fC1,fL2,fC2,fF,fM,fE0,fE1,fB0,fZ0,fS0,fX0,fA1,fO7_6,fO8_6,fO11_6,fO11_10,fO9_6,fO12_6⟩ hi_ hd;simp [Region.binds] at hd;have HD1:d 1=true:=by simp only [hd]
  have HD3:d 3=true:=by simp only [hd]
  have HD5:d 5=true:=by simp only [hd]
  clear hd;refine Qag (R:=fun v w'=>∃(g0:Array Value) (g1:Value),v=.tuple #[.agg g0,g1]/\Old W w'/\g0.size=2/\g0.all (·.oneCell')=true/\RES w' W.heap.size w'.heap.size g0 g1) Tryz.call10 (vs:=#[u35,u37,u39]) (by simp [hfr,e35,e37,e39,Qay]) ((cf W _ _ _ fold (fC0 HD1 hi_) (fC1 HD3 hi_) (fC2 HD5 hi_)).mono (fun e w' h=>by obtain ⟨g0,g1,rfl,h⟩:=h;exact ⟨_,rfl,g0,g1,rfl,h⟩)) ?_
  rintro v W' ⟨r0,r1,rfl,g,z0,y0,hres⟩
  exact ⟨u8,u9,u33,u34,u35,u36,u37,u38,u39,.tuple #[.agg r0,r1],u41,u42,k0,W.heap.size,W'.heap.size,r0,r1,(by rw [hfr];exact Qan a0 _ _ _ rfl),(Old.trans fold g),
   (fun h0=>fL0 h0),
   (fun h0 h1=>by cases h1),
   (fun h0=>fL1 h0),
   (fun h0 h1=>by cases h1),
   (fun h0=>fL2 h0),
   (fun h0 h1=>by cases h1),
   (fun _=>⟨rfl,(fold.size),Nat.le_refl _,z0,y0,hres⟩),
   (fun h0=>by have hx_:=fO7_6 h0;rw [hi_] at hx_;cases hx_),
   (fun h0=>by have hx_:=fO8_6 h0;rw [hi_] at hx_;cases hx_),
   (fun h0=>by have hx_:=fO9_6 h0;rw [hi_] at hx_;cases hx_),
   (fun h0=>by obtain ⟨e1,e2,e3⟩:=fB0 h0;exact ⟨e1,e2,Nat.lt_of_lt_of_le e3 g.size⟩),
   (fun h0 h1=>(g.block _ (lt_of_some (fZ0 h0 h1))).trans (fZ0 h0 h1)),
   (fun h0=>by have hx_:=fO11_6 h0;rw [hi_] at hx_;cases hx_),
   (fun hb _=>Or.inl (fB0 hb).2.2),
   (fun h0=>by have hx_:=fO12_6 h0;rw [hi_] at hx_;cases hx_),
   (fun _=>rfl),
   (fun _=>rfl),
   (fun _=>rfl),
   (fun h=>fO11_10 h),
   (fun _=>rfl),
   (fun _=>rfl)⟩
 ·rintro d a W ⟨u8,u9,u33,u34,u35,u36,u37,u38,u39,u40,u41,u42,k0,lo,hi,g0,g1,hfr,fold,fL0,fC0,fL1,fC1,fL2,fC2,fF,fM,fE0,fE1,fB0,fZ0,fS0,fX0,fA1,fO7_6,fO8_6,fO11_6,fO11_10,fO9_6,fO12_6⟩ hi_ hd;simp [Region.binds] at hd;have HD6:d 6=true:=by simp only [hd]
  clear hd;have hv:=(fF HD6).1;refine Qca ?_
  rw [show a.eval (.tmp 40)=.tuple #[.agg g0,g1] by rw [hfr,e40];exact hv]
  exact ⟨u8,u9,.tuple #[.agg g0,g1],u34,u35,u36,u37,u38,u39,u40,u41,u42,k0,lo,hi,g0,g1,(by rw [hfr];exact Qan a0 _ _ _ rfl),(fold),
   (fun h0=>fL0 h0),
   (fun h0 h1=>fC0 h0 h1),
   (fun h0=>fL1 h0),
   (fun h0 h1=>fC1 h0 h1),
   (fun h0=>fL2 h0),
   (fun h0 h1=>fC2 h0 h1),
   (fun h0=>fF h0),
   (fun _=>rfl),
   (fun h0=>fE0 h0),
   (fun h0=>fE1 h0),
   (fun h0=>fB0 h0),
   (fun h0 h1=>fZ0 h0 h1),
   (fun h0=>fS0 h0),
   (fun h0 h1=>fX0 h0 h1),
   (fun h0=>fA1 h0),
   (fun _=>HD6),
   (fun h=>fO8_6 h),
   (fun h=>fO11_6 h),
   (fun h=>fO11_10 h),
   (fun h=>fO9_6 h),
   (fun h=>fO12_6 h)⟩
 ·rintro d a W ⟨u8,u9,u33,u34,u35,u36,u37,u38,u39,u40,u41,u42,k0,lo,hi,g0,g1,hfr,fold,fL0,fC0,fL1,fC1,fL2,fC2,fF,fM,fE0,fE1,fB0,fZ0,fS0,fX0,fA1,fO7_6,fO8_6,fO11_6,fO11_10,fO9_6,fO12_6⟩ hi_ hd;simp [Region.binds] at hd;have HD7:d 7=true:=by simp only [hd]
  have HD6:d 6=true:=fO7_6 HD7;clear hd;have hv:=fM HD7;refine Qen (by rw [hfr,e33];exact hv) rfl ?_
  exact ⟨u8,u9,u33,u34,u35,u36,u37,u38,u39,u40,.agg g0,u42,k0,lo,hi,g0,g1,(by rw [hfr];exact Qan a0 _ _ _ rfl),(fold),
   (fun h0=>fL0 h0),
   (fun h0 h1=>fC0 h0 h1),
   (fun h0=>fL1 h0),
   (fun h0 h1=>fC1 h0 h1),
   (fun h0=>fL2 h0),
   (fun h0 h1=>fC2 h0 h1),
   (fun h0=>fF h0),
   (fun h0=>fM h0),
   (fun _=>rfl),
   (fun h0=>fE1 h0),
   (fun h0=>fB0 h0),
   (fun h0 h1=>fZ0 h0 h1),
   (fun h0=>fS0 h0),
   (fun h0 h1=>fX0 h0 h1),
   (fun h0=>fA1 h0),
   (fun h=>fO7_6 h),
   (fun _=>HD6),
   (fun h=>fO11_6 h),
   (fun h=>fO11_10 h),
   (fun h=>fO9_6 h),
   (fun h=>fO12_6 h)⟩
 ·rintro d a W ⟨u8,u9,u33,u34,u35,u36,u37,u38,u39,u40,u41,u42,k0,lo,hi,g0,g1,hfr,fold,fL0,fC0,fL1,fC1,fL2,fC2,fF,fM,fE0,fE1,fB0,fZ0,fS0,fX0,fA1,fO7_6,fO8_6,fO11_6,fO11_10,fO9_6,fO12_6⟩ hi_ hd;simp [Region.binds] at hd;have HD7:d 7=true:=by simp only [hd]
  have HD6:d 6=true:=fO7_6 HD7;clear hd;have hv:=fM HD7;refine Qen (by rw [hfr,e33];exact hv) rfl ?_
  exact ⟨u8,u9,u33,u34,u35,u36,u37,u38,u39,u40,u41,g1,k0,lo,hi,g0,g1,(by rw [hfr];exact Qan a0 _ _ _ rfl),(fold),
   (fun h0=>fL0 h0),
   (fun h0 h1=>fC0 h0 h1),
   (fun h0=>fL1 h0),
   (fun h0 h1=>fC1 h0 h1),
   (fun h0=>fL2 h0),
   (fun h0 h1=>fC2 h0 h1),
   (fun h0=>fF h0),
   (fun h0=>fM h0),
   (fun h0=>fE0 h0),
   (fun _=>rfl),
   (fun h0=>fB0 h0),
   (fun h0 h1=>fZ0 h0 h1),
   (fun h0=>fS0 h0),
   (fun h0 h1=>fX0 h0 h1),
   (fun h0=>fA1 h0),
   (fun h=>fO7_6 h),
   (fun h=>fO8_6 h),
   (fun h=>fO11_6 h),
   (fun h=>fO11_10 h),
   (fun _=>HD6),
   (fun h=>fO12_6 h)⟩
 ·rintro d a W ⟨u8,u9,u33,u34,u35,u36,u37,u38,u39,u40,u41,u42,k0,lo,hi,g0,g1,hfr,fold,fL0,fC0,fL1,fC1,fL2,fC2,fF,fM,fE0,fE1,fB0,fZ0,fS0,fX0,fA1,fO7_6,fO8_6,fO11_6,fO11_10,fO9_6,fO12_6⟩ hi_ hd;simp [Region.binds] at hd;refine Qpa (z:=.agg #[.bool false,.slice none 0 0]) (by kernel_rfl) ?_
  have g:Old W (W.alloc (.cells #[.bool false,.slice none 0 0] 31)):=(Old.refl W).alloc _
  exact ⟨.pointer (some ⟨W.heap.size,0,none⟩),u9,u33,u34,u35,u36,u37,u38,u39,u40,u41,u42,W.heap.size,lo,hi,g0,g1,(by rw [hfr];exact Qan a0 _ _ _ rfl),(Old.trans fold g),
   (fun h0=>fL0 h0),
   (fun h0 h1=>hCR0 _ _ _ (fC0 h0 h1) g),
   (fun h0=>fL1 h0),
   (fun h0 h1=>hCR1 _ _ _ (fC1 h0 h1) g),
   (fun h0=>fL2 h0),
   (fun h0 h1=>hCR2 _ _ _ (fC2 h0 h1) g),
   (fun h0=>by obtain ⟨e1,e2,e3,z0,y0,e9⟩:=fF h0;exact ⟨e1,e2,Nat.le_trans e3 g.size,z0,y0,far _ _ _ _ _ _ e9 (fun b _ hb=>g.block b (by omega)) g.size⟩),
   (fun h0=>fM h0),
   (fun h0=>fE0 h0),
   (fun h0=>fE1 h0),
   (fun _=>⟨rfl,fold.size,by simp⟩),
   (fun _ _=>heap_alloc_new W _),
   (fun h0=>by have hx_:=fO11_10 h0;rw [hi_] at hx_;cases hx_),
   (fun _ hf=>Or.inr (fF hf).2.2.1),
   (fun h0=>fA1 h0),
   (fun h=>fO7_6 h),
   (fun h=>fO8_6 h),
   (fun h=>fO11_6 h),
   (fun _=>rfl),
   (fun h=>fO9_6 h),
   (fun h=>fO12_6 h)⟩
 ·rintro d a W ⟨u8,u9,u33,u34,u35,u36,u37,u38,u39,u40,u41,u42,k0,lo,hi,g0,g1,hfr,fold,fL0,fC0,fL1,fC1,fL2,fC2,fF,fM,fE0,fE1,fB0,fZ0,fS0,fX0,fA1,fO7_6,fO8_6,fO11_6,fO11_10,fO9_6,fO12_6⟩ hi_ hd;simp [Region.binds] at hd;have HD6:d 6=true:=by simp only [hd]
  have HD8:d 8=true:=by simp only [hd]
  have HD10:d 10=true:=by simp only [hd]
  clear hd;obtain ⟨hp,hlo,hlt⟩:=fB0 HD10;have hv:=fE0 HD8;have hz:=fZ0 HD10 hi_;obtain ⟨eF,lF,hF,z0,y0,rF⟩:=fF HD6;have hx:=fX0 HD10 HD6;refine Qjx (k:=k0) (by rw [hfr,e8];exact hp) (by rw [hfr,e41];exact hv) hz (by rw [z0];kernel_rfl) (by rw [z0];rfl) y0 ?_
  have hsz2:(W.setRow k0 g0).heap.size=W.heap.size:=size_setRow _ _ _;have hot:∀b,b≠k0->(W.setRow k0 g0).heap[b]? = W.heap[b]?:=fun b hb=>Qbk _ _ _ _ hb
  exact ⟨u8,u9,u33,u34,u35,u36,u37,u38,u39,u40,u41,u42,k0,lo,hi,g0,g1,hfr,(Qf0 fold hlo _),
   (fun h0=>fL0 h0),
   (fun h0 h1=>by have hx_ : d 6=false:=h1;rw [HD6] at hx_;cases hx_),
   (fun h0=>fL1 h0),
   (fun h0 h1=>by have hx_ : d 6=false:=h1;rw [HD6] at hx_;cases hx_),
   (fun h0=>fL2 h0),
   (fun h0 h1=>by have hx_ : d 6=false:=h1;rw [HD6] at hx_;cases hx_),
   (fun h0=>⟨eF,lF,by rw [hsz2];exact hF,z0,y0,far _ _ _ _ _ _ rF (fun b h1 h2=>hot b (by omega)) (by rw [hsz2];exact Nat.le_refl _)⟩),
   (fun h0=>fM h0),
   (fun h0=>fE0 h0),
   (fun h0=>fE1 h0),
   (fun h0=>⟨hp,hlo,by rw [hsz2];exact hlt⟩),
   (fun h0 h1=>by cases h1),
   (fun _=>Qcw hz),
   (fun h0 h1=>fX0 h0 h1),
   (fun h0=>fA1 h0),
   (fun h=>fO7_6 h),
   (fun h=>fO8_6 h),
   (fun _=>HD6),
   (fun _=>HD10),
   (fun h=>fO9_6 h),
   (fun h=>fO12_6 h)⟩
 ·rintro d a W ⟨u8,u9,u33,u34,u35,u36,u37,u38,u39,u40,u41,u42,k0,lo,hi,g0,g1,hfr,fold,fL0,fC0,fL1,fC1,fL2,fC2,fF,fM,fE0,fE1,fB0,fZ0,fS0,fX0,fA1,fO7_6,fO8_6,fO11_6,fO11_10,fO9_6,fO12_6⟩ hi_ hd;simp [Region.binds] at hd;have HD6:d 6=true:=by simp only [hd]
  have HD9:d 9=true:=by simp only [hd]
  clear hd;have hv:=fE1 HD9;refine Qb6 ?_
  rw [show a.eval (.tmp 42)=g1 by rw [hfr,e42];exact hv]
  exact ⟨u8,g1,u33,u34,u35,u36,u37,u38,u39,u40,u41,u42,k0,lo,hi,g0,g1,(by rw [hfr];exact Qan a0 _ _ _ rfl),(fold),
   (fun h0=>fL0 h0),
   (fun h0 h1=>fC0 h0 h1),
   (fun h0=>fL1 h0),
   (fun h0 h1=>fC1 h0 h1),
   (fun h0=>fL2 h0),
   (fun h0 h1=>fC2 h0 h1),
   (fun h0=>fF h0),
   (fun h0=>fM h0),
   (fun h0=>fE0 h0),
   (fun h0=>fE1 h0),
   (fun h0=>fB0 h0),
   (fun h0 h1=>fZ0 h0 h1),
   (fun h0=>fS0 h0),
   (fun h0 h1=>fX0 h0 h1),
   (fun _=>rfl),
   (fun h=>fO7_6 h),
   (fun h=>fO8_6 h),
   (fun h=>fO11_6 h),
   (fun h=>fO11_10 h),
   (fun h=>fO9_6 h),
   (fun _=>HD6)⟩
 ·rintro d a W hd ⟨u8,u9,u33,u34,u35,u36,u37,u38,u39,u40,u41,u42,k0,lo,hi,g0,g1,hfr,fold,fL0,fC0,fL1,fC1,fL2,fC2,fF,fM,fE0,fE1,fB0,fZ0,fS0,fX0,fA1,fO7_6,fO8_6,fO11_6,fO11_10,fO9_6,fO12_6⟩;have hd2:∀i,i<13→d i=true:=hd
  clear hd;have HD0:d 0=true:=hd2 0 (by omega);have HD1:d 1=true:=hd2 1 (by omega);have HD2:d 2=true:=hd2 2 (by omega);have HD3:d 3=true:=hd2 3 (by omega);have HD4:d 4=true:=hd2 4 (by omega);have HD5:d 5=true:=hd2 5 (by omega);have HD6:d 6=true:=hd2 6 (by omega);have HD7:d 7=true:=hd2 7 (by omega);have HD8:d 8=true:=hd2 8 (by omega);have HD9:d 9=true:=hd2 9 (by omega);have HD10:d 10=true:=hd2 10 (by omega);have HD11:d 11=true:=hd2 11 (by omega);have HD12:d 12=true:=hd2 12 (by omega);obtain ⟨eF,lF,hF,z0,y0,rF⟩:=fF HD6;obtain ⟨hp0,hlo0,hlt0⟩:=fB0 HD10;rw [hp0] at hfr;have ha_1:=fA1 HD12;rw [ha_1] at hfr
  show K a W
  rw [hfr];exact HK.out k0 lo hi g0 g1 u33 u34 u35 u36 u37 u38 u39 u40 u41 u42 W fold lF hF rF (fS0 HD11) hlo0 hlt0 (fX0 HD10 HD6)
def Qbf (n:Nat):Code->Option Code
 | .region i ops b=>if i=n then some (.region i ops b) else none
 | .seq a b=>match Qbf n a with
   | some c=>some c
   | none=>Qbf n b
 | .block _ c=>Qbf n c
 | _=>none
theorem Qjz (w2:World) (x0_0 x0_1 x0_2 x0_3:Value) (kb0:Nat) (x1_ : Value) (x2_0:Value) (kb2:Nat)
 (CR0:World->Value->Prop) (hCR0:∀W W' v,CR0 W v->Old W W'->CR0 W' v)
 (c0:∀W,Old w2 W->Calls Tryz.prog 11 #[.agg #[x0_0,x0_1,x0_2,x0_3]] W fun e w'=>∃v,e=.returned v/\Old W w'/\CR0 w' v)
 (b0:w2.heap[kb0]? = some (.cells #[x0_0,x0_1,x0_2,x0_3] 24 (0,0)))
 (CR1:World->Value->Prop) (hCR1:∀W W' v,CR1 W v->Old W W'->CR1 W' v)
 (c1:∀W,Old w2 W->Calls Tryz.prog 12 #[x1_] W fun e w'=>∃v,e=.returned v/\Old W w'/\CR1 w' v)
 (CR2:World->Value->Prop) (hCR2:∀W W' v,CR2 W v->Old W W'->CR2 W' v)
 (c2:∀W,Old w2 W->Calls Tryz.prog 13 #[.agg #[x2_0]] W fun e w'=>∃v,e=.returned v/\Old W w'/\CR2 w' v)
 (b2:w2.heap[kb2]? = some (.cells #[x2_0] 27 (0,0)))
 (RES:World->Nat->Nat->Array Value->Value->Prop) (far:∀W W' lo hi (g0:Array Value) (g1:Value),RES W lo hi g0 g1->(∀b,lo<=b->b<hi->W'.heap[b]? = W.heap[b]?)->W.heap.size<=W'.heap.size->RES W' lo hi g0 g1)
 (cf:∀W v0 v1 v2,Old w2 W->CR0 W v0->CR1 W v1->CR2 W v2->Calls Tryz.prog 14 #[v0,v1,v2] W fun e w'=>∃(g0:Array Value) (g1:Value),e=.returned (.tuple #[.agg g0,g1])/\Old W w'/\g0.size=2/\g0.all (·.oneCell')=true/\RES w' W.heap.size w'.heap.size g0 g1)
 (Q:Exit->Act->World->Prop) (K:Act->World->Prop) (a0:Act) (hsz:140<=a0.tmps.size) (ha1:a0.eval (.tmp 1)=x1_) (ha3:a0.eval (.tmp 3)=.pointer (some ⟨kb0,0,none⟩)) (ha5:a0.eval (.tmp 5)=.pointer (some ⟨kb2,0,none⟩))
 (HK:Hid (∀(k0 lo hi:Nat) (g0:Array Value) (g1:Value) (u113 u114 u115 u116 u117 u118 u119 u120 u121 u122:Value) (W:World),Old w2 W->w2.heap.size<=lo->hi<=W.heap.size->RES W lo hi g0 g1->W.heap[k0]? = some (.cells g0 31 (0,0))->w2.heap.size<=k0->k0<W.heap.size->(k0<lo∨hi<=k0)->K (Qaj a0 [(18,.pointer (some ⟨k0,0,none⟩)),(19,g1),(113,u113),(114,u114),(115,u115),(116,u116),(117,u117),(118,u118),(119,u119),(120,u120),(121,u121),(122,u122)]) W)) :
 Code.wp Tryz.prog ((Tryz.f3.body.bind (Qbf 37)).getD .skip) (Exit.then K Q) a0 w2:=by
 conv=>arg 2;whnf
 have e1:∀l,(Qaj a0 l).eval (.tmp 1)=(Qay l 1).getD (a0.eval (.tmp 1)):=Qac a0 1 (by omega)
 have e3:∀l,(Qaj a0 l).eval (.tmp 3)=(Qay l 3).getD (a0.eval (.tmp 3)):=Qac a0 3 (by omega)
 have e5:∀l,(Qaj a0 l).eval (.tmp 5)=(Qay l 5).getD (a0.eval (.tmp 5)):=Qac a0 5 (by omega)
 have e18:∀l,(Qaj a0 l).eval (.tmp 18)=(Qay l 18).getD (a0.eval (.tmp 18)):=Qac a0 18 (by omega)
 have e19:∀l,(Qaj a0 l).eval (.tmp 19)=(Qay l 19).getD (a0.eval (.tmp 19)):=Qac a0 19 (by omega)
 have e113:∀l,(Qaj a0 l).eval (.tmp 113)=(Qay l 113).getD (a0.eval (.tmp 113)):=Qac a0 113 (by omega)
 have e114:∀l,(Qaj a0 l).eval (.tmp 114)=(Qay l 114).getD (a0.eval (.tmp 114)):=Qac a0 114 (by omega)
 have e115:∀l,(Qaj a0 l).eval (.tmp 115)=(Qay l 115).getD (a0.eval (.tmp 115)):=Qac a0 115 (by omega)
 have e116:∀l,(Qaj a0 l).eval (.tmp 116)=(Qay l 116).getD (a0.eval (.tmp 116)):=Qac a0 116 (by omega)
 have e117:∀l,(Qaj a0 l).eval (.tmp 117)=(Qay l 117).getD (a0.eval (.tmp 117)):=Qac a0 117 (by omega)
 have e118:∀l,(Qaj a0 l).eval (.tmp 118)=(Qay l 118).getD (a0.eval (.tmp 118)):=Qac a0 118 (by omega)
 have e119:∀l,(Qaj a0 l).eval (.tmp 119)=(Qay l 119).getD (a0.eval (.tmp 119)):=Qac a0 119 (by omega)
 have e120:∀l,(Qaj a0 l).eval (.tmp 120)=(Qay l 120).getD (a0.eval (.tmp 120)):=Qac a0 120 (by omega)
 have e121:∀l,(Qaj a0 l).eval (.tmp 121)=(Qay l 121).getD (a0.eval (.tmp 121)):=Qac a0 121 (by omega)
 have e122:∀l,(Qaj a0 l).eval (.tmp 122)=(Qay l 122).getD (a0.eval (.tmp 122)):=Qac a0 122 (by omega)
 refine Qce (fun d a W=>∃(u18 u19 u113 u114 u115 u116 u117 u118 u119 u120 u121 u122:Value) (k0 lo hi:Nat) (g0:Array Value) (g1:Value),a=(Qaj a0 [(18,u18),(19,u19),(113,u113),(114,u114),(115,u115),(116,u116),(117,u117),(118,u118),(119,u119),(120,u120),(121,u121),(122,u122)])/\(Old w2 W)/\(d 0=true->u114=.agg #[x0_0,x0_1,x0_2,x0_3])/\(d 1=true->d 6=false->CR0 W u115)/\(d 2=true->u116=x1_)/\(d 3=true->d 6=false->CR1 W u117)/\(d 4=true->u118=.agg #[x2_0])/\(d 5=true->d 6=false->CR2 W u119)/\(d 6=true->u120=.tuple #[.agg g0,g1]/\w2.heap.size<=lo/\hi<=W.heap.size/\g0.size=2/\g0.all (·.oneCell')=true/\RES W lo hi g0 g1)/\(d 7=true->u113=.tuple #[.agg g0,g1])/\(d 8=true->u121=.agg g0)/\(d 9=true->u122=g1)/\(d 10=true->u18=.pointer (some ⟨k0,0,none⟩)/\w2.heap.size<=k0/\k0<W.heap.size)/\(d 10=true->d 11=false->W.heap[k0]? = some (.cells #[.bool false,.slice none 0 0] 31 (0,0)))/\(d 11=true->W.heap[k0]? = some (.cells g0 31 (0,0)))/\(d 10=true->d 6=true->(k0<lo∨hi<=k0))/\(d 12=true->u19=g1)/\(d 7=true->d 6=true)/\(d 8=true->d 6=true)/\(d 11=true->d 6=true)/\(d 11=true->d 10=true)/\(d 9=true->d 6=true)/\(d 12=true->d 6=true)) rfl (by decide +kernel) (by decide +kernel) ?_ ⟨?_,?_,?_,?_,?_,?_,?_,?_,?_,?_,?_,?_,?_,trivial⟩ ?_
 ·exact ⟨_,_,_,_,_,_,_,_,_,_,_,_,0,0,0,#[],undef,(Qe4 a0 [18,19,113,114,115,116,117,118,119,120,121,122] (by intro s hs;simp at hs;omega)).symm,Below.drew (Old.refl w2),(fun h=>by cases h),(fun h=>by cases h),(fun h=>by cases h),(fun h=>by cases h),(fun h=>by cases h),(fun h=>by cases h),(fun h=>by cases h),(fun h=>by cases h),(fun h=>by cases h),(fun h=>by cases h),(fun h=>by cases h),(fun h=>by cases h),(fun h=>by cases h),(fun h=>by cases h),(fun h=>by cases h),(fun h=>by cases h),(fun h=>by cases h),(fun h=>by cases h),(fun h=>by cases h),(fun h=>by cases h),(fun h=>by cases h)⟩
 ·rintro d a W ⟨u18,u19,u113,u114,u115,u116,u117,u118,u119,u120,u121,u122,k0,lo,hi,g0,g1,hfr,fold,fL0,fC0,fL1,fC1,fL2,fC2,fF,fM,fE0,fE1,fB0,fZ0,fS0,fX0,fA1,fO7_6,fO8_6,fO11_6,fO11_10,fO9_6,fO12_6⟩ hi_ hd;simp [Region.binds] at hd;refine Qbx (k:=kb0) (by rw [hfr,e3];exact ha3) (fold.block _ (lt_of_some b0) |>.trans b0) Tryz.underlying24 rfl (by kernel_rfl) ?_
  exact ⟨u18,u19,u113,.agg #[x0_0,x0_1,x0_2,x0_3],u115,u116,u117,u118,u119,u120,u121,u122,k0,lo,hi,g0,g1,(by rw [hfr];exact Qan a0 _ _ _ rfl),(fold),
   (fun _=>rfl),
   (fun h0 h1=>fC0 h0 h1),
   (fun h0=>fL1 h0),
   (fun h0 h1=>fC1 h0 h1),
   (fun h0=>fL2 h0),
   (fun h0 h1=>fC2 h0 h1),
   (fun h0=>fF h0),
   (fun h0=>fM h0),
   (fun h0=>fE0 h0),
   (fun h0=>fE1 h0),
   (fun h0=>fB0 h0),
   (fun h0 h1=>fZ0 h0 h1),
   (fun h0=>fS0 h0),
   (fun h0 h1=>fX0 h0 h1),
   (fun h0=>fA1 h0),
   (fun h=>fO7_6 h),
   (fun h=>fO8_6 h),
   (fun h=>fO11_6 h),
   (fun h=>fO11_10 h),
   (fun h=>fO9_6 h),
   (fun h=>fO12_6 h)⟩
 ·rintro d a W ⟨u18,u19,u113,u114,u115,u116,u117,u118,u119,u120,u121,u122,k0,lo,hi,g0,g1,hfr,fold,fL0,fC0,fL1,fC1,fL2,fC2,fF,fM,fE0,fE1,fB0,fZ0,fS0,fX0,fA1,fO7_6,fO8_6,fO11_6,fO11_10,fO9_6,fO12_6⟩ hi_ hd;simp [Region.binds] at hd;have HD0:d 0=true:=by simp only [hd]
  clear hd;have hv:=fL0 HD0;refine Qag Tryz.call11 (vs:=#[.agg #[x0_0,x0_1,x0_2,x0_3]]) (by simp [hfr,e114,Qay,hv]) (c0 W fold) ?_
  rintro v W' ⟨g,hcr⟩
  exact ⟨u18,u19,u113,u114,v,u116,u117,u118,u119,u120,u121,u122,k0,lo,hi,g0,g1,(by rw [hfr];exact Qan a0 _ _ _ rfl),(Old.trans fold g),
   (fun h0=>fL0 h0),
   (fun _ _=>hcr),
   (fun h0=>fL1 h0),
   (fun h0 h1=>hCR1 _ _ _ (fC1 h0 h1) g),
   (fun h0=>fL2 h0),
   (fun h0 h1=>hCR2 _ _ _ (fC2 h0 h1) g),
   (fun h0=>by obtain ⟨e1,e2,e3,z0,y0,e9⟩:=fF h0;exact ⟨e1,e2,Nat.le_trans e3 g.size,z0,y0,far _ _ _ _ _ _ e9 (fun b _ hb=>g.block b (by omega)) g.size⟩),
   (fun h0=>fM h0),
   (fun h0=>fE0 h0),
   (fun h0=>fE1 h0),
   (fun h0=>by obtain ⟨e1,e2,e3⟩:=fB0 h0;exact ⟨e1,e2,Nat.lt_of_lt_of_le e3 g.size⟩),
   (fun h0 h1=>(g.block _ (lt_of_some (fZ0 h0 h1))).trans (fZ0 h0 h1)),
   (fun h0=>(g.block _ (lt_of_some (fS0 h0))).trans (fS0 h0)),
   (fun h0 h1=>fX0 h0 h1),
   (fun h0=>fA1 h0),
   (fun h=>fO7_6 h),
   (fun h=>fO8_6 h),
   (fun h=>fO11_6 h),
   (fun h=>fO11_10 h),
   (fun h=>fO9_6 h),
   (fun h=>fO12_6 h)⟩
 ·rintro d a W ⟨u18,u19,u113,u114,u115,u116,u117,u118,u119,u120,u121,u122,k0,lo,hi,g0,g1,hfr,fold,fL0,fC0,fL1,fC1,fL2,fC2,fF,fM,fE0,fE1,fB0,fZ0,fS0,fX0,fA1,fO7_6,fO8_6,fO11_6,fO11_10,fO9_6,fO12_6⟩ hi_ hd;simp [Region.binds] at hd;refine Qca ?_
  rw [show a.eval (.tmp 1)=x1_ by rw [hfr,e1];exact ha1]
  exact ⟨u18,u19,u113,u114,u115,x1_,u117,u118,u119,u120,u121,u122,k0,lo,hi,g0,g1,(by rw [hfr];exact Qan a0 _ _ _ rfl),(fold),
   (fun h0=>fL0 h0),
   (fun h0 h1=>fC0 h0 h1),
   (fun _=>rfl),
   (fun h0 h1=>fC1 h0 h1),
   (fun h0=>fL2 h0),
   (fun h0 h1=>fC2 h0 h1),
   (fun h0=>fF h0),
   (fun h0=>fM h0),
   (fun h0=>fE0 h0),
   (fun h0=>fE1 h0),
   (fun h0=>fB0 h0),
   (fun h0 h1=>fZ0 h0 h1),
   (fun h0=>fS0 h0),
   (fun h0 h1=>fX0 h0 h1),
   (fun h0=>fA1 h0),
   (fun h=>fO7_6 h),
   (fun h=>fO8_6 h),
   (fun h=>fO11_6 h),
   (fun h=>fO11_10 h),
   (fun h=>fO9_6 h),
   (fun h=>fO12_6 h)⟩
 ·rintro d a W ⟨u18,u19,u113,u114,u115,u116,u117,u118,u119,u120,u121,u122,k0,lo,hi,g0,g1,hfr,fold,fL0,fC0,fL1,fC1,fL2,fC2,fF,fM,fE0,fE1,fB0,fZ0,fS0,fX0,fA1,fO7_6,fO8_6,fO11_6,fO11_10,fO9_6,fO12_6⟩ hi_ hd;simp [Region.binds] at hd;have HD2:d 2=true:=by simp only [hd]
  clear hd;have hv:=fL1 HD2;refine Qag Tryz.call12 (vs:=#[x1_]) (by simp [hfr,e116,Qay,hv]) (c1 W fold) ?_
  rintro v W' ⟨g,hcr⟩
  exact ⟨u18,u19,u113,u114,u115,u116,v,u118,u119,u120,u121,u122,k0,lo,hi,g0,g1,(by rw [hfr];exact Qan a0 _ _ _ rfl),(Old.trans fold g),
   (fun h0=>fL0 h0),
   (fun h0 h1=>hCR0 _ _ _ (fC0 h0 h1) g),
   (fun h0=>fL1 h0),
   (fun _ _=>hcr),
   (fun h0=>fL2 h0),
   (fun h0 h1=>hCR2 _ _ _ (fC2 h0 h1) g),
   (fun h0=>by obtain ⟨e1,e2,e3,z0,y0,e9⟩:=fF h0;exact ⟨e1,e2,Nat.le_trans e3 g.size,z0,y0,far _ _ _ _ _ _ e9 (fun b _ hb=>g.block b (by omega)) g.size⟩),
   (fun h0=>fM h0),
   (fun h0=>fE0 h0),
   (fun h0=>fE1 h0),
   (fun h0=>by obtain ⟨e1,e2,e3⟩:=fB0 h0;exact ⟨e1,e2,Nat.lt_of_lt_of_le e3 g.size⟩),
   (fun h0 h1=>(g.block _ (lt_of_some (fZ0 h0 h1))).trans (fZ0 h0 h1)),
   (fun h0=>(g.block _ (lt_of_some (fS0 h0))).trans (fS0 h0)),
   (fun h0 h1=>fX0 h0 h1),
   (fun h0=>fA1 h0),
   (fun h=>fO7_6 h),
   (fun h=>fO8_6 h),
   (fun h=>fO11_6 h),
   (fun h=>fO11_10 h),
   (fun h=>fO9_6 h),
   (fun h=>fO12_6 h)⟩
 ·rintro d a W ⟨u18,u19,u113,u114,u115,u116,u117,u118,u119,u120,u121,u122,k0,lo,hi,g0,g1,hfr,fold,fL0,fC0,fL1,fC1,fL2,fC2,fF,fM,fE0,fE1,fB0,fZ0,fS0,fX0,fA1,fO7_6,fO8_6,fO11_6,fO11_10,fO9_6,fO12_6⟩ hi_ hd;simp [Region.binds] at hd;refine Qbx (k:=kb2) (by rw [hfr,e5];exact ha5) (fold.block _ (lt_of_some b2) |>.trans b2) Tryz.underlying27 rfl (by kernel_rfl) ?_
  exact ⟨u18,u19,u113,u114,u115,u116,u117,.agg #[x2_0],u119,u120,u121,u122,k0,lo,hi,g0,g1,(by rw [hfr];exact Qan a0 _ _ _ rfl),(fold),
   (fun h0=>fL0 h0),
   (fun h0 h1=>fC0 h0 h1),
   (fun h0=>fL1 h0),
   (fun h0 h1=>fC1 h0 h1),
   (fun _=>rfl),
   (fun h0 h1=>fC2 h0 h1),
   (fun h0=>fF h0),
   (fun h0=>fM h0),
   (fun h0=>fE0 h0),
   (fun h0=>fE1 h0),
   (fun h0=>fB0 h0),
   (fun h0 h1=>fZ0 h0 h1),
   (fun h0=>fS0 h0),
   (fun h0 h1=>fX0 h0 h1),
   (fun h0=>fA1 h0),
   (fun h=>fO7_6 h),
   (fun h=>fO8_6 h),
   (fun h=>fO11_6 h),
   (fun h=>fO11_10 h),
   (fun h=>fO9_6 h),
   (fun h=>fO12_6 h)⟩
 ·rintro d a W ⟨u18,u19,u113,u114,u115,u116,u117,u118,u119,u120,u121,u122,k0,lo,hi,g0,g1,hfr,fold,fL0,fC0,fL1,fC1,fL2,fC2,fF,fM,fE0,fE1,fB0,fZ0,fS0,fX0,fA1,fO7_6,fO8_6,fO11_6,fO11_10,fO9_6,fO12_6⟩ hi_ hd;simp [Region.binds] at hd;have HD4:d 4=true:=by simp only [hd]
  clear hd;have hv:=fL2 HD4;refine Qag Tryz.call13 (vs:=#[.agg #[x2_0]]) (by simp [hfr,e118,Qay,hv]) (c2 W fold) ?_
  rintro v W' ⟨g,hcr⟩
  exact ⟨u18,u19,u113,u114,u115,u116,u117,u118,v,u120,u121,u122,k0,lo,hi,g0,g1,(by rw [hfr];exact Qan a0 _ _ _ rfl),(Old.trans fold g),
   (fun h0=>fL0 h0),
   (fun h0 h1=>hCR0 _ _ _ (fC0 h0 h1) g),
   (fun h0=>fL1 h0),
   (fun h0 h1=>hCR1 _ _ _ (fC1 h0 h1) g),
   (fun h0=>fL2 h0),
   (fun _ _=>hcr),
   (fun h0=>by obtain ⟨e1,e2,e3,z0,y0,e9⟩:=fF h0;exact ⟨e1,e2,Nat.le_trans e3 g.size,z0,y0,far _ _ _ _ _ _ e9 (fun b _ hb=>g.block b (by omega)) g.size⟩),
   (fun h0=>fM h0),
   (fun h0=>fE0 h0),
   (fun h0=>fE1 h0),
   (fun h0=>by obtain ⟨e1,e2,e3⟩:=fB0 h0;exact ⟨e1,e2,Nat.lt_of_lt_of_le e3 g.size⟩),
   (fun h0 h1=>(g.block _ (lt_of_some (fZ0 h0 h1))).trans (fZ0 h0 h1)),
   (fun h0=>(g.block _ (lt_of_some (fS0 h0))).trans (fS0 h0)),
   (fun h0 h1=>fX0 h0 h1),
   (fun h0=>fA1 h0),
   (fun h=>fO7_6 h),
   (fun h=>fO8_6 h),
   (fun h=>fO11_6 h),
   (fun h=>fO11_10 h),
   (fun h=>fO9_6 h),
   (fun h=>fO12_6 h)⟩
 ·rintro d a W ⟨u18,u19,u113,u114,u115,u116,u117,u118,u119,u120,u121,u122,k0,lo,hi,g0,g1,hfr,fold,fL0,fC0,fL1,fC1,fL2,fC2,fF,fM,fE0,fE1,fB0,fZ0,fS0,fX0,fA1,fO7_6,fO8_6,fO11_6,fO11_10,fO9_6,fO12_6⟩ hi_ hd;simp [Region.binds] at hd;have HD1:d 1=true:=by simp only [hd]
  have HD3:d 3=true:=by simp only [hd]
  have HD5:d 5=true:=by simp only [hd]
  clear hd;refine Qag (R:=fun v w'=>∃(g0:Array Value) (g1:Value),v=.tuple #[.agg g0,g1]/\Old W w'/\g0.size=2/\g0.all (·.oneCell')=true/\RES w' W.heap.size w'.heap.size g0 g1) Tryz.call14 (vs:=#[u115,u117,u119]) (by simp [hfr,e115,e117,e119,Qay]) ((cf W _ _ _ fold (fC0 HD1 hi_) (fC1 HD3 hi_) (fC2 HD5 hi_)).mono (fun e w' h=>by obtain ⟨g0,g1,rfl,h⟩:=h;exact ⟨_,rfl,g0,g1,rfl,h⟩)) ?_
  rintro v W' ⟨r0,r1,rfl,g,z0,y0,hres⟩
  exact ⟨u18,u19,u113,u114,u115,u116,u117,u118,u119,.tuple #[.agg r0,r1],u121,u122,k0,W.heap.size,W'.heap.size,r0,r1,(by rw [hfr];exact Qan a0 _ _ _ rfl),(Old.trans fold g),
   (fun h0=>fL0 h0),
   (fun h0 h1=>by cases h1),
   (fun h0=>fL1 h0),
   (fun h0 h1=>by cases h1),
   (fun h0=>fL2 h0),
   (fun h0 h1=>by cases h1),
   (fun _=>⟨rfl,(fold.size),Nat.le_refl _,z0,y0,hres⟩),
   (fun h0=>by have hx_:=fO7_6 h0;rw [hi_] at hx_;cases hx_),
   (fun h0=>by have hx_:=fO8_6 h0;rw [hi_] at hx_;cases hx_),
   (fun h0=>by have hx_:=fO9_6 h0;rw [hi_] at hx_;cases hx_),
   (fun h0=>by obtain ⟨e1,e2,e3⟩:=fB0 h0;exact ⟨e1,e2,Nat.lt_of_lt_of_le e3 g.size⟩),
   (fun h0 h1=>(g.block _ (lt_of_some (fZ0 h0 h1))).trans (fZ0 h0 h1)),
   (fun h0=>by have hx_:=fO11_6 h0;rw [hi_] at hx_;cases hx_),
   (fun hb _=>Or.inl (fB0 hb).2.2),
   (fun h0=>by have hx_:=fO12_6 h0;rw [hi_] at hx_;cases hx_),
   (fun _=>rfl),
   (fun _=>rfl),
   (fun _=>rfl),
   (fun h=>fO11_10 h),
   (fun _=>rfl),
   (fun _=>rfl)⟩
 ·rintro d a W ⟨u18,u19,u113,u114,u115,u116,u117,u118,u119,u120,u121,u122,k0,lo,hi,g0,g1,hfr,fold,fL0,fC0,fL1,fC1,fL2,fC2,fF,fM,fE0,fE1,fB0,fZ0,fS0,fX0,fA1,fO7_6,fO8_6,fO11_6,fO11_10,fO9_6,fO12_6⟩ hi_ hd;simp [Region.binds] at hd;have HD6:d 6=true:=by simp only [hd]
  clear hd;have hv:=(fF HD6).1;refine Qca ?_
  rw [show a.eval (.tmp 120)=.tuple #[.agg g0,g1] by rw [hfr,e120];exact hv]
  exact ⟨u18,u19,.tuple #[.agg g0,g1],u114,u115,u116,u117,u118,u119,u120,u121,u122,k0,lo,hi,g0,g1,(by rw [hfr];exact Qan a0 _ _ _ rfl),(fold),
   (fun h0=>fL0 h0),
   (fun h0 h1=>fC0 h0 h1),
   (fun h0=>fL1 h0),
   (fun h0 h1=>fC1 h0 h1),
   (fun h0=>fL2 h0),
   (fun h0 h1=>fC2 h0 h1),
   (fun h0=>fF h0),
   (fun _=>rfl),
   (fun h0=>fE0 h0),
   (fun h0=>fE1 h0),
   (fun h0=>fB0 h0),
   (fun h0 h1=>fZ0 h0 h1),
   (fun h0=>fS0 h0),
   (fun h0 h1=>fX0 h0 h1),
   (fun h0=>fA1 h0),
   (fun _=>HD6),
   (fun h=>fO8_6 h),
   (fun h=>fO11_6 h),
   (fun h=>fO11_10 h),
   (fun h=>fO9_6 h),
   (fun h=>fO12_6 h)⟩
 ·rintro d a W ⟨u18,u19,u113,u114,u115,u116,u117,u118,u119,u120,u121,u122,k0,lo,hi,g0,g1,hfr,fold,fL0,fC0,fL1,fC1,fL2,fC2,fF,fM,fE0,fE1,fB0,fZ0,fS0,fX0,fA1,fO7_6,fO8_6,fO11_6,fO11_10,fO9_6,fO12_6⟩ hi_ hd;simp [Region.binds] at hd;have HD7:d 7=true:=by simp only [hd]
  have HD6:d 6=true:=fO7_6 HD7;clear hd;have hv:=fM HD7;refine Qen (by rw [hfr,e113];exact hv) rfl ?_
  exact ⟨u18,u19,u113,u114,u115,u116,u117,u118,u119,u120,.agg g0,u122,k0,lo,hi,g0,g1,(by rw [hfr];exact Qan a0 _ _ _ rfl),(fold),
   (fun h0=>fL0 h0),
   (fun h0 h1=>fC0 h0 h1),
   (fun h0=>fL1 h0),
   (fun h0 h1=>fC1 h0 h1),
   (fun h0=>fL2 h0),
   (fun h0 h1=>fC2 h0 h1),
   (fun h0=>fF h0),
   (fun h0=>fM h0),
   (fun _=>rfl),
   (fun h0=>fE1 h0),
   (fun h0=>fB0 h0),
   (fun h0 h1=>fZ0 h0 h1),
   (fun h0=>fS0 h0),
   (fun h0 h1=>fX0 h0 h1),
   (fun h0=>fA1 h0),
   (fun h=>fO7_6 h),
   (fun _=>HD6),
   (fun h=>fO11_6 h),
   (fun h=>fO11_10 h),
   (fun h=>fO9_6 h),
   (fun h=>fO12_6 h)⟩
 ·rintro d a W ⟨u18,u19,u113,u114,u115,u116,u117,u118,u119,u120,u121,u122,k0,lo,hi,g0,g1,hfr,fold,fL0,fC0,fL1,fC1,fL2,fC2,fF,fM,fE0,fE1,fB0,fZ0,fS0,fX0,fA1,fO7_6,fO8_6,fO11_6,fO11_10,fO9_6,fO12_6⟩ hi_ hd;simp [Region.binds] at hd;have HD7:d 7=true:=by simp only [hd]
  have HD6:d 6=true:=fO7_6 HD7;clear hd;have hv:=fM HD7;refine Qen (by rw [hfr,e113];exact hv) rfl ?_
  exact ⟨u18,u19,u113,u114,u115,u116,u117,u118,u119,u120,u121,g1,k0,lo,hi,g0,g1,(by rw [hfr];exact Qan a0 _ _ _ rfl),(fold),
   (fun h0=>fL0 h0),
   (fun h0 h1=>fC0 h0 h1),
   (fun h0=>fL1 h0),
   (fun h0 h1=>fC1 h0 h1),
   (fun h0=>fL2 h0),
   (fun h0 h1=>fC2 h0 h1),
   (fun h0=>fF h0),
   (fun h0=>fM h0),
   (fun h0=>fE0 h0),
   (fun _=>rfl),
   (fun h0=>fB0 h0),
   (fun h0 h1=>fZ0 h0 h1),
   (fun h0=>fS0 h0),
   (fun h0 h1=>fX0 h0 h1),
   (fun h0=>fA1 h0),
   (fun h=>fO7_6 h),
   (fun h=>fO8_6 h),
   (fun h=>fO11_6 h),
   (fun h=>fO11_10 h),
   (fun _=>HD6),
   (fun h=>fO12_6 h)⟩
 ·rintro d a W ⟨u18,u19,u113,u114,u115,u116,u117,u118,u119,u120,u121,u122,k0,lo,hi,g0,g1,hfr,fold,fL0,fC0,fL1,fC1,fL2,fC2,fF,fM,fE0,fE1,fB0,fZ0,fS0,fX0,fA1,fO7_6,fO8_6,fO11_6,fO11_10,fO9_6,fO12_6⟩ hi_ hd;simp [Region.binds] at hd;refine Qpa (z:=.agg #[.bool false,.slice none 0 0]) (by kernel_rfl) ?_
  have g:Old W (W.alloc (.cells #[.bool false,.slice none 0 0] 31)):=(Old.refl W).alloc _
  exact ⟨.pointer (some ⟨W.heap.size,0,none⟩),u19,u113,u114,u115,u116,u117,u118,u119,u120,u121,u122,W.heap.size,lo,hi,g0,g1,(by rw [hfr];exact Qan a0 _ _ _ rfl),(Old.trans fold g),
   (fun h0=>fL0 h0),
   (fun h0 h1=>hCR0 _ _ _ (fC0 h0 h1) g),
   (fun h0=>fL1 h0),
   (fun h0 h1=>hCR1 _ _ _ (fC1 h0 h1) g),
   (fun h0=>fL2 h0),
   (fun h0 h1=>hCR2 _ _ _ (fC2 h0 h1) g),
   (fun h0=>by obtain ⟨e1,e2,e3,z0,y0,e9⟩:=fF h0;exact ⟨e1,e2,Nat.le_trans e3 g.size,z0,y0,far _ _ _ _ _ _ e9 (fun b _ hb=>g.block b (by omega)) g.size⟩),
   (fun h0=>fM h0),
   (fun h0=>fE0 h0),
   (fun h0=>fE1 h0),
   (fun _=>⟨rfl,fold.size,by simp⟩),
   (fun _ _=>heap_alloc_new W _),
   (fun h0=>by have hx_:=fO11_10 h0;rw [hi_] at hx_;cases hx_),
   (fun _ hf=>Or.inr (fF hf).2.2.1),
   (fun h0=>fA1 h0),
   (fun h=>fO7_6 h),
   (fun h=>fO8_6 h),
   (fun h=>fO11_6 h),
   (fun _=>rfl),
   (fun h=>fO9_6 h),
   (fun h=>fO12_6 h)⟩
 ·rintro d a W ⟨u18,u19,u113,u114,u115,u116,u117,u118,u119,u120,u121,u122,k0,lo,hi,g0,g1,hfr,fold,fL0,fC0,fL1,fC1,fL2,fC2,fF,fM,fE0,fE1,fB0,fZ0,fS0,fX0,fA1,fO7_6,fO8_6,fO11_6,fO11_10,fO9_6,fO12_6⟩ hi_ hd;simp [Region.binds] at hd;have HD6:d 6=true:=by simp only [hd]
  have HD8:d 8=true:=by simp only [hd]
  have HD10:d 10=true:=by simp only [hd]
  clear hd;obtain ⟨hp,hlo,hlt⟩:=fB0 HD10;have hv:=fE0 HD8;have hz:=fZ0 HD10 hi_;obtain ⟨eF,lF,hF,z0,y0,rF⟩:=fF HD6;have hx:=fX0 HD10 HD6;refine Qjx (k:=k0) (by rw [hfr,e18];exact hp) (by rw [hfr,e121];exact hv) hz (by rw [z0];kernel_rfl) (by rw [z0];rfl) y0 ?_
  have hsz2:(W.setRow k0 g0).heap.size=W.heap.size:=size_setRow _ _ _;have hot:∀b,b≠k0->(W.setRow k0 g0).heap[b]? = W.heap[b]?:=fun b hb=>Qbk _ _ _ _ hb
  exact ⟨u18,u19,u113,u114,u115,u116,u117,u118,u119,u120,u121,u122,k0,lo,hi,g0,g1,hfr,(Qf0 fold hlo _),
   (fun h0=>fL0 h0),
   (fun h0 h1=>by have hx_ : d 6=false:=h1;rw [HD6] at hx_;cases hx_),
   (fun h0=>fL1 h0),
   (fun h0 h1=>by have hx_ : d 6=false:=h1;rw [HD6] at hx_;cases hx_),
   (fun h0=>fL2 h0),
   (fun h0 h1=>by have hx_ : d 6=false:=h1;rw [HD6] at hx_;cases hx_),
   (fun h0=>⟨eF,lF,by rw [hsz2];exact hF,z0,y0,far _ _ _ _ _ _ rF (fun b h1 h2=>hot b (by omega)) (by rw [hsz2];exact Nat.le_refl _)⟩),
   (fun h0=>fM h0),
   (fun h0=>fE0 h0),
   (fun h0=>fE1 h0),
   (fun h0=>⟨hp,hlo,by rw [hsz2];exact hlt⟩),
   (fun h0 h1=>by cases h1),
   (fun _=>Qcw hz),
   (fun h0 h1=>fX0 h0 h1),
   (fun h0=>fA1 h0),
   (fun h=>fO7_6 h),
   (fun h=>fO8_6 h),
   (fun _=>HD6),
   (fun _=>HD10),
   (fun h=>fO9_6 h),
   (fun h=>fO12_6 h)⟩
 ·rintro d a W ⟨u18,u19,u113,u114,u115,u116,u117,u118,u119,u120,u121,u122,k0,lo,hi,g0,g1,hfr,fold,fL0,fC0,fL1,fC1,fL2,fC2,fF,fM,fE0,fE1,fB0,fZ0,fS0,fX0,fA1,fO7_6,fO8_6,fO11_6,fO11_10,fO9_6,fO12_6⟩ hi_ hd;simp [Region.binds] at hd;have HD6:d 6=true:=by simp only [hd]
  have HD9:d 9=true:=by simp only [hd]
  clear hd;have hv:=fE1 HD9;refine Qb6 ?_
  rw [show a.eval (.tmp 122)=g1 by rw [hfr,e122];exact hv]
  exact ⟨u18,g1,u113,u114,u115,u116,u117,u118,u119,u120,u121,u122,k0,lo,hi,g0,g1,(by rw [hfr];exact Qan a0 _ _ _ rfl),(fold),
   (fun h0=>fL0 h0),
   (fun h0 h1=>fC0 h0 h1),
   (fun h0=>fL1 h0),
   (fun h0 h1=>fC1 h0 h1),
   (fun h0=>fL2 h0),
   (fun h0 h1=>fC2 h0 h1),
   (fun h0=>fF h0),
   (fun h0=>fM h0),
   (fun h0=>fE0 h0),
   (fun h0=>fE1 h0),
   (fun h0=>fB0 h0),
   (fun h0 h1=>fZ0 h0 h1),
   (fun h0=>fS0 h0),
   (fun h0 h1=>fX0 h0 h1),
   (fun _=>rfl),
   (fun h=>fO7_6 h),
   (fun h=>fO8_6 h),
   (fun h=>fO11_6 h),
   (fun h=>fO11_10 h),
   (fun h=>fO9_6 h),
   (fun _=>HD6)⟩
 ·rintro d a W hd ⟨u18,u19,u113,u114,u115,u116,u117,u118,u119,u120,u121,u122,k0,lo,hi,g0,g1,hfr,fold,fL0,fC0,fL1,fC1,fL2,fC2,fF,fM,fE0,fE1,fB0,fZ0,fS0,fX0,fA1,fO7_6,fO8_6,fO11_6,fO11_10,fO9_6,fO12_6⟩;have hd2:∀i,i<13→d i=true:=hd
  clear hd;have HD0:d 0=true:=hd2 0 (by omega);have HD1:d 1=true:=hd2 1 (by omega);have HD2:d 2=true:=hd2 2 (by omega);have HD3:d 3=true:=hd2 3 (by omega);have HD4:d 4=true:=hd2 4 (by omega);have HD5:d 5=true:=hd2 5 (by omega);have HD6:d 6=true:=hd2 6 (by omega);have HD7:d 7=true:=hd2 7 (by omega);have HD8:d 8=true:=hd2 8 (by omega);have HD9:d 9=true:=hd2 9 (by omega);have HD10:d 10=true:=hd2 10 (by omega);have HD11:d 11=true:=hd2 11 (by omega);have HD12:d 12=true:=hd2 12 (by omega);obtain ⟨eF,lF,hF,z0,y0,rF⟩:=fF HD6;obtain ⟨hp0,hlo0,hlt0⟩:=fB0 HD10;rw [hp0] at hfr;have ha_1:=fA1 HD12;rw [ha_1] at hfr
  show K a W
  rw [hfr];exact HK.out k0 lo hi g0 g1 u113 u114 u115 u116 u117 u118 u119 u120 u121 u122 W fold lF hF rF (fS0 HD11) hlo0 hlt0 (fX0 HD10 HD6)
end Go.Proofs.YtejhpljichmmpaaGreatDoor
