/- Proved: what its theorems say. -/
import Derived.Test.YtjjohooeehjjcaaGreatDoorMu03
import Derived.Test.YtjjohooeehjjcaaGreatDoorMu02
set_option linter.unusedVariables false
set_option linter.unusedSimpArgs false
set_option maxHeartbeats 8000000
set_option maxRecDepth 100000
namespace Go.Proofs.YtjjohooeehjjcaaGreatDoor
open Go.ChangeShapes Go.WideShapes Go.ChangeAt Go.RowKit
def Qa9 (n:Nat):Code->Option Code
 | .region i ops b=>if i=n then some (.region i ops b) else none
 | .seq a b=>match Qa9 n a with
   | some c=>some c
   | none=>Qa9 n b
 | .block _ c=>Qa9 n c
 | _=>none
theorem Qgk (w2:World) (x0_0 x0_1 x0_2 x0_3:Value) (kb0:Nat) (x1_0:Value) (kb1:Nat) (x2_0:Value) (kb2:Nat)
  (CR0:World->Value->Prop) (hCR0:∀W W' v,CR0 W v->Old W W'->CR0 W' v)
  (c0:∀W,Old w2 W->Calls Tryz.prog 7 #[.agg #[x0_0,x0_1,x0_2,x0_3]] W fun e w'=>∃v,e=.returned v/\Old W w'/\CR0 w' v)
  (b0:w2.heap[kb0]? = some (.cells #[x0_0,x0_1,x0_2,x0_3] 24 (0,0)))
  (CR1:World->Value->Prop) (hCR1:∀W W' v,CR1 W v->Old W W'->CR1 W' v)
  (c1:∀W,Old w2 W->Calls Tryz.prog 8 #[.agg #[x1_0]] W fun e w'=>∃v,e=.returned v/\Old W w'/\CR1 w' v)
  (b1:w2.heap[kb1]? = some (.cells #[x1_0] 27 (0,0)))
  (CR2:World->Value->Prop) (hCR2:∀W W' v,CR2 W v->Old W W'->CR2 W' v)
  (c2:∀W,Old w2 W->Calls Tryz.prog 8 #[.agg #[x2_0]] W fun e w'=>∃v,e=.returned v/\Old W w'/\CR2 w' v)
  (b2:w2.heap[kb2]? = some (.cells #[x2_0] 27 (0,0)))
  (RES:World->Nat->Nat->Array Value->Value->Prop) (far:∀W W' lo hi (g0:Array Value) (g1:Value),RES W lo hi g0 g1->(∀b,lo<=b->b<hi->W'.heap[b]? = W.heap[b]?)->W.heap.size<=W'.heap.size->RES W' lo hi g0 g1)
  (cf:∀W v0 v1 v2,Old w2 W->CR0 W v0->CR1 W v1->CR2 W v2->Calls Tryz.prog 6 #[v0,v1,v2] W fun e w'=>∃(g0:Array Value) (g1:Value),e=.returned (.tuple #[.agg g0,g1])/\Old W w'/\g0.size=1/\g0.all (·.oneCell')=true/\RES w' W.heap.size w'.heap.size g0 g1)
  (Q:Exit->Act->World->Prop) (K:Act->World->Prop) (a0:Act) (hsz:142<=a0.tmps.size) (ha3:a0.eval (.tmp 3)=.pointer (some ⟨kb0,0,none⟩)) (ha4:a0.eval (.tmp 4)=.pointer (some ⟨kb1,0,none⟩)) (ha5:a0.eval (.tmp 5)=.pointer (some ⟨kb2,0,none⟩))
  (HK:Hid (∀(k0 lo hi:Nat) (g0:Array Value) (g1:Value) (u35 u36 u37 u38 u39 u40 u41 u42 u43 u44:Value) (W:World),Old w2 W->w2.heap.size<=lo->hi<=W.heap.size->RES W lo hi g0 g1->W.heap[k0]? = some (.cells g0 30 (0,0))->w2.heap.size<=k0->k0<W.heap.size->(k0<lo∨hi<=k0)->K (Qal a0 [(8,.pointer (some ⟨k0,0,none⟩)),(9,g1),(35,u35),(36,u36),(37,u37),(38,u38),(39,u39),(40,u40),(41,u41),(42,u42),(43,u43),(44,u44)]) W)) :
  Code.wp Tryz.prog ((Tryz.f3.body.bind (Qa9 11)).getD .skip) (Exit.then K Q) a0 w2:=by
 conv=>arg 2;whnf
 have e3:∀l,(Qal a0 l).eval (.tmp 3)=(Qaz l 3).getD (a0.eval (.tmp 3)):=Qag a0 3 (by omega)
 have e4:∀l,(Qal a0 l).eval (.tmp 4)=(Qaz l 4).getD (a0.eval (.tmp 4)):=Qag a0 4 (by omega)
 have e5:∀l,(Qal a0 l).eval (.tmp 5)=(Qaz l 5).getD (a0.eval (.tmp 5)):=Qag a0 5 (by omega)
 have e8:∀l,(Qal a0 l).eval (.tmp 8)=(Qaz l 8).getD (a0.eval (.tmp 8)):=Qag a0 8 (by omega)
 have e9:∀l,(Qal a0 l).eval (.tmp 9)=(Qaz l 9).getD (a0.eval (.tmp 9)):=Qag a0 9 (by omega)
 have e35:∀l,(Qal a0 l).eval (.tmp 35)=(Qaz l 35).getD (a0.eval (.tmp 35)):=Qag a0 35 (by omega)
 have e36:∀l,(Qal a0 l).eval (.tmp 36)=(Qaz l 36).getD (a0.eval (.tmp 36)):=Qag a0 36 (by omega)
 have e37:∀l,(Qal a0 l).eval (.tmp 37)=(Qaz l 37).getD (a0.eval (.tmp 37)):=Qag a0 37 (by omega)
 have e38:∀l,(Qal a0 l).eval (.tmp 38)=(Qaz l 38).getD (a0.eval (.tmp 38)):=Qag a0 38 (by omega)
 have e39:∀l,(Qal a0 l).eval (.tmp 39)=(Qaz l 39).getD (a0.eval (.tmp 39)):=Qag a0 39 (by omega)
 have e40:∀l,(Qal a0 l).eval (.tmp 40)=(Qaz l 40).getD (a0.eval (.tmp 40)):=Qag a0 40 (by omega)
 have e41:∀l,(Qal a0 l).eval (.tmp 41)=(Qaz l 41).getD (a0.eval (.tmp 41)):=Qag a0 41 (by omega)
 have e42:∀l,(Qal a0 l).eval (.tmp 42)=(Qaz l 42).getD (a0.eval (.tmp 42)):=Qag a0 42 (by omega)
 have e43:∀l,(Qal a0 l).eval (.tmp 43)=(Qaz l 43).getD (a0.eval (.tmp 43)):=Qag a0 43 (by omega)
 have e44:∀l,(Qal a0 l).eval (.tmp 44)=(Qaz l 44).getD (a0.eval (.tmp 44)):=Qag a0 44 (by omega)
 refine Qd9 (fun d a W=>∃(u8 u9 u35 u36 u37 u38 u39 u40 u41 u42 u43 u44:Value) (k0 lo hi:Nat) (g0:Array Value) (g1:Value),a=(Qal a0 [(8,u8),(9,u9),(35,u35),(36,u36),(37,u37),(38,u38),(39,u39),(40,u40),(41,u41),(42,u42),(43,u43),(44,u44)])/\(Old w2 W)/\(d 0=true->u36=.agg #[x0_0,x0_1,x0_2,x0_3])/\(d 1=true->d 6=false->CR0 W u37)/\(d 2=true->u38=.agg #[x1_0])/\(d 3=true->d 6=false->CR1 W u39)/\(d 4=true->u40=.agg #[x2_0])/\(d 5=true->d 6=false->CR2 W u41)/\(d 6=true->u42=.tuple #[.agg g0,g1]/\w2.heap.size<=lo/\hi<=W.heap.size/\g0.size=1/\g0.all (·.oneCell')=true/\RES W lo hi g0 g1)/\(d 7=true->u35=.tuple #[.agg g0,g1])/\(d 8=true->u43=.agg g0)/\(d 9=true->u44=g1)/\(d 10=true->u8=.pointer (some ⟨k0,0,none⟩)/\w2.heap.size<=k0/\k0<W.heap.size)/\(d 10=true->d 11=false->W.heap[k0]? = some (.cells #[.slice none 0 0] 30 (0,0)))/\(d 11=true->W.heap[k0]? = some (.cells g0 30 (0,0)))/\(d 10=true->d 6=true->(k0<lo∨hi<=k0))/\(d 12=true->u9=g1)/\(d 7=true->d 6=true)/\(d 8=true->d 6=true)/\(d 11=true->d 6=true)/\(d 11=true->d 10=true)/\(d 9=true->d 6=true)/\(d 12=true->d 6=true)) rfl (by decide +kernel) (by decide +kernel) ?_ ⟨?_,?_,?_,?_,?_,?_,?_,?_,?_,?_,?_,?_,?_,trivial⟩ ?_
 ·exact ⟨_,_,_,_,_,_,_,_,_,_,_,_,0,0,0,#[],undef,(Qe4 a0 [8,9,35,36,37,38,39,40,41,42,43,44] (by intro s hs;simp at hs;omega)).symm,Below.drew (Old.refl w2),(fun h=>by cases h),(fun h=>by cases h),(fun h=>by cases h),(fun h=>by cases h),(fun h=>by cases h),(fun h=>by cases h),(fun h=>by cases h),(fun h=>by cases h),(fun h=>by cases h),(fun h=>by cases h),(fun h=>by cases h),(fun h=>by cases h),(fun h=>by cases h),(fun h=>by cases h),(fun h=>by cases h),(fun h=>by cases h),(fun h=>by cases h),(fun h=>by cases h),(fun h=>by cases h),(fun h=>by cases h),(fun h=>by cases h)⟩
 ·rintro d a W ⟨u8,u9,u35,u36,u37,u38,u39,u40,u41,u42,u43,u44,k0,lo,hi,g0,g1,hfr,fold,fL0,fC0,fL1,fC1,fL2,fC2,fF,fM,fE0,fE1,fB0,fZ0,fS0,fX0,fA1,fO7_6,fO8_6,fO11_6,fO11_10,fO9_6,fO12_6⟩ hi_ hd;simp [Region.binds] at hd;refine Qca (k:=kb0) (by rw [hfr,e3];exact ha3) (fold.block _ (lt_of_some b0) |>.trans b0) Tryz.underlying24 rfl (by kernel_rfl) ?_
  exact ⟨u8,u9,u35,.agg #[x0_0,x0_1,x0_2,x0_3],u37,u38,u39,u40,u41,u42,u43,u44,k0,lo,hi,g0,g1,(by rw [hfr];exact Qap a0 _ _ _ rfl),(fold),
   (fun _=>rfl),
   (fun h0 h1=>fC0 h0 h1),
   (fun h0=>fL1 h0),
   (fun h0 h1=>fC1 h0 h1),
   (fun h0=>fL2 h0),
   (fun h0 h1=>fC2 h0 h1),
   (fun h0=>fF h0),
   (fun h0=>fM h0),
   (fun h0=>fE0 h0),
   (fun h0=>fE1 h0),
   (fun h0=>fB0 h0),
   (fun h0 h1=>fZ0 h0 h1),
   (fun h0=>fS0 h0),
   (fun h0 h1=>fX0 h0 h1),
   (fun h0=>fA1 h0),
   (fun h=>fO7_6 h),
   (fun h=>fO8_6 h),
   (fun h=>fO11_6 h),
   (fun h=>fO11_10 h),
   (fun h=>fO9_6 h),
   (fun h=>fO12_6 h)⟩
 ·rintro d a W ⟨u8,u9,u35,u36,u37,u38,u39,u40,u41,u42,u43,u44,k0,lo,hi,g0,g1,hfr,fold,fL0,fC0,fL1,fC1,fL2,fC2,fF,fM,fE0,fE1,fB0,fZ0,fS0,fX0,fA1,fO7_6,fO8_6,fO11_6,fO11_10,fO9_6,fO12_6⟩ hi_ hd;simp [Region.binds] at hd;have HD0:d 0=true:=by simp only [hd]
  clear hd;have hv:=fL0 HD0;refine Qao Tryz.call7 (vs:=#[.agg #[x0_0,x0_1,x0_2,x0_3]]) (by simp [hfr,e36,Qaz,hv]) (c0 W fold) ?_
  rintro v W' ⟨g,hcr⟩
  exact ⟨u8,u9,u35,u36,v,u38,u39,u40,u41,u42,u43,u44,k0,lo,hi,g0,g1,(by rw [hfr];exact Qap a0 _ _ _ rfl),(Old.trans fold g),
   (fun h0=>fL0 h0),
   (fun _ _=>hcr),
   (fun h0=>fL1 h0),
   (fun h0 h1=>hCR1 _ _ _ (fC1 h0 h1) g),
   (fun h0=>fL2 h0),
   (fun h0 h1=>hCR2 _ _ _ (fC2 h0 h1) g),
   (fun h0=>by obtain ⟨e1,e2,e3,z0,y0,e9⟩:=fF h0;exact ⟨e1,e2,Nat.le_trans e3 g.size,z0,y0,far _ _ _ _ _ _ e9 (fun b _ hb=>g.block b (by omega)) g.size⟩),
   (fun h0=>fM h0),
   (fun h0=>fE0 h0),
   (fun h0=>fE1 h0),
   (fun h0=>by obtain ⟨e1,e2,e3⟩:=fB0 h0;exact ⟨e1,e2,Nat.lt_of_lt_of_le e3 g.size⟩),
   (fun h0 h1=>(g.block _ (lt_of_some (fZ0 h0 h1))).trans (fZ0 h0 h1)),
   (fun h0=>(g.block _ (lt_of_some (fS0 h0))).trans (fS0 h0)),
   (fun h0 h1=>fX0 h0 h1),
   (fun h0=>fA1 h0),
   (fun h=>fO7_6 h),
   (fun h=>fO8_6 h),
   (fun h=>fO11_6 h),
   (fun h=>fO11_10 h),
   (fun h=>fO9_6 h),
   (fun h=>fO12_6 h)⟩
 ·rintro d a W ⟨u8,u9,u35,u36,u37,u38,u39,u40,u41,u42,u43,u44,k0,lo,hi,g0,g1,hfr,fold,fL0,fC0,fL1,fC1,fL2,fC2,fF,fM,fE0,fE1,fB0,fZ0,fS0,fX0,fA1,fO7_6,fO8_6,fO11_6,fO11_10,fO9_6,fO12_6⟩ hi_ hd;simp [Region.binds] at hd;refine Qca (k:=kb1) (by rw [hfr,e4];exact ha4) (fold.block _ (lt_of_some b1) |>.trans b1) Tryz.underlying27 rfl (by kernel_rfl) ?_
  exact ⟨u8,u9,u35,u36,u37,.agg #[x1_0],u39,u40,u41,u42,u43,u44,k0,lo,hi,g0,g1,(by rw [hfr];exact Qap a0 _ _ _ rfl),(fold),
   (fun h0=>fL0 h0),
   (fun h0 h1=>fC0 h0 h1),
   (fun _=>rfl),
   (fun h0 h1=>fC1 h0 h1),
   (fun h0=>fL2 h0),
   (fun h0 h1=>fC2 h0 h1),
   (fun h0=>fF h0),
   (fun h0=>fM h0),
   (fun h0=>fE0 h0),
   (fun h0=>fE1 h0),
   (fun h0=>fB0 h0),
   (fun h0 h1=>fZ0 h0 h1),
   (fun h0=>fS0 h0),
   (fun h0 h1=>fX0 h0 h1),
   (fun h0=>fA1 h0),
   (fun h=>fO7_6 h),
   (fun h=>fO8_6 h),
   (fun h=>fO11_6 h),
   (fun h=>fO11_10 h),
   (fun h=>fO9_6 h),
   (fun h=>fO12_6 h)⟩
 ·rintro d a W ⟨u8,u9,u35,u36,u37,u38,u39,u40,u41,u42,u43,u44,k0,lo,hi,g0,g1,hfr,fold,fL0,fC0,fL1,fC1,fL2,fC2,fF,fM,fE0,fE1,fB0,fZ0,fS0,fX0,fA1,fO7_6,fO8_6,fO11_6,fO11_10,fO9_6,fO12_6⟩ hi_ hd;simp [Region.binds] at hd;have HD2:d 2=true:=by simp only [hd]
  clear hd;have hv:=fL1 HD2;refine Qao Tryz.call8 (vs:=#[.agg #[x1_0]]) (by simp [hfr,e38,Qaz,hv]) (c1 W fold) ?_
  rintro v W' ⟨g,hcr⟩
  exact ⟨u8,u9,u35,u36,u37,u38,v,u40,u41,u42,u43,u44,k0,lo,hi,g0,g1,(by rw [hfr];exact Qap a0 _ _ _ rfl),(Old.trans fold g),
   (fun h0=>fL0 h0),
   (fun h0 h1=>hCR0 _ _ _ (fC0 h0 h1) g),
   (fun h0=>fL1 h0),
   (fun _ _=>hcr),
   (fun h0=>fL2 h0),
   (fun h0 h1=>hCR2 _ _ _ (fC2 h0 h1) g),
   (fun h0=>by obtain ⟨e1,e2,e3,z0,y0,e9⟩:=fF h0;exact ⟨e1,e2,Nat.le_trans e3 g.size,z0,y0,far _ _ _ _ _ _ e9 (fun b _ hb=>g.block b (by omega)) g.size⟩),
   (fun h0=>fM h0),
   (fun h0=>fE0 h0),
   (fun h0=>fE1 h0),
   (fun h0=>by obtain ⟨e1,e2,e3⟩:=fB0 h0;exact ⟨e1,e2,Nat.lt_of_lt_of_le e3 g.size⟩),
   (fun h0 h1=>(g.block _ (lt_of_some (fZ0 h0 h1))).trans (fZ0 h0 h1)),
   (fun h0=>(g.block _ (lt_of_some (fS0 h0))).trans (fS0 h0)),
   (fun h0 h1=>fX0 h0 h1),
   (fun h0=>fA1 h0),
   (fun h=>fO7_6 h),
   (fun h=>fO8_6 h),
   (fun h=>fO11_6 h),
   (fun h=>fO11_10 h),
   (fun h=>fO9_6 h),
   (fun h=>fO12_6 h)⟩
 ·rintro d a W ⟨u8,u9,u35,u36,u37,u38,u39,u40,u41,u42,u43,u44,k0,lo,hi,g0,g1,hfr,fold,fL0,fC0,fL1,fC1,fL2,fC2,fF,fM,fE0,fE1,fB0,fZ0,fS0,fX0,fA1,fO7_6,fO8_6,fO11_6,fO11_10,fO9_6,fO12_6⟩ hi_ hd;simp [Region.binds] at hd;refine Qca (k:=kb2) (by rw [hfr,e5];exact ha5) (fold.block _ (lt_of_some b2) |>.trans b2) Tryz.underlying27 rfl (by kernel_rfl) ?_
  exact ⟨u8,u9,u35,u36,u37,u38,u39,.agg #[x2_0],u41,u42,u43,u44,k0,lo,hi,g0,g1,(by rw [hfr];exact Qap a0 _ _ _ rfl),(fold),
   (fun h0=>fL0 h0),
   (fun h0 h1=>fC0 h0 h1),
   (fun h0=>fL1 h0),
   (fun h0 h1=>fC1 h0 h1),
   (fun _=>rfl),
   (fun h0 h1=>fC2 h0 h1),
   (fun h0=>fF h0),
   (fun h0=>fM h0),
   (fun h0=>fE0 h0),
   (fun h0=>fE1 h0),
   (fun h0=>fB0 h0),
   (fun h0 h1=>fZ0 h0 h1),
   (fun h0=>fS0 h0),
   (fun h0 h1=>fX0 h0 h1),
   (fun h0=>fA1 h0),
   (fun h=>fO7_6 h),
   (fun h=>fO8_6 h),
   (fun h=>fO11_6 h),
   (fun h=>fO11_10 h),
   (fun h=>fO9_6 h),
   (fun h=>fO12_6 h)⟩
 ·rintro d a W ⟨u8,u9,u35,u36,u37,u38,u39,u40,u41,u42,u43,u44,k0,lo,hi,g0,g1,hfr,fold,fL0,fC0,fL1,fC1,fL2,fC2,fF,fM,fE0,fE1,fB0,fZ0,fS0,fX0,fA1,fO7_6,fO8_6,fO11_6,fO11_10,fO9_6,fO12_6⟩ hi_ hd;simp [Region.binds] at hd;have HD4:d 4=true:=by simp only [hd]
  clear hd;have hv:=fL2 HD4;refine Qao Tryz.call8 (vs:=#[.agg #[x2_0]]) (by simp [hfr,e40,Qaz,hv]) (c2 W fold) ?_
  rintro v W' ⟨g,hcr⟩
  exact ⟨u8,u9,u35,u36,u37,u38,u39,u40,v,u42,u43,u44,k0,lo,hi,g0,g1,(by rw [hfr];exact Qap a0 _ _ _ rfl),(Old.trans fold g),
   (fun h0=>fL0 h0),
   (fun h0 h1=>hCR0 _ _ _ (fC0 h0 h1) g),
   (fun h0=>fL1 h0),
   (fun h0 h1=>hCR1 _ _ _ (fC1 h0 h1) g),
   (fun h0=>fL2 h0),
   (fun _ _=>hcr),
   (fun h0=>by obtain ⟨e1,e2,e3,z0,y0,e9⟩:=fF h0;exact ⟨e1,e2,Nat.le_trans e3 g.size,z0,y0,far _ _ _ _ _ _ e9 (fun b _ hb=>g.block b (by omega)) g.size⟩),
   (fun h0=>fM h0),
   (fun h0=>fE0 h0),
   (fun h0=>fE1 h0),
   (fun h0=>by obtain ⟨e1,e2,e3⟩:=fB0 h0;exact ⟨e1,e2,Nat.lt_of_lt_of_le e3 g.size⟩),
   (fun h0 h1=>(g.block _ (lt_of_some (fZ0 h0 h1))).trans (fZ0 h0 h1)),
   (fun h0=>(g.block _ (lt_of_some (fS0 h0))).trans (fS0 h0)),
   (fun h0 h1=>fX0 h0 h1),
   (fun h0=>fA1 h0),
   (fun h=>fO7_6 h),
   (fun h=>fO8_6 h),
   (fun h=>fO11_6 h),
   (fun h=>fO11_10 h),
   (fun h=>fO9_6 h),
   (fun h=>fO12_6 h)⟩
 ·rintro d a W ⟨u8,u9,u35,u36,u37,u38,u39,u40,u41,u42,u43,u44,k0,lo,hi,g0,g1,hfr,fold,fL0,fC0,fL1,fC1,fL2,fC2,fF,fM,fE0,fE1,fB0,fZ0,fS0,fX0,fA1,fO7_6,fO8_6,fO11_6,fO11_10,fO9_6,fO12_6⟩ hi_ hd;simp [Region.binds] at hd;have HD1:d 1=true:=by simp only [hd]
  have HD3:d 3=true:=by simp only [hd]
  have HD5:d 5=true:=by simp only [hd]
  clear hd;refine Qao (R:=fun v w'=>∃(g0:Array Value) (g1:Value),v=.tuple #[.agg g0,g1]/\Old W w'/\g0.size=1/\g0.all (·.oneCell')=true/\RES w' W.heap.size w'.heap.size g0 g1) Tryz.call6 (vs:=#[u37,u39,u41]) (by simp [hfr,e37,e39,e41,Qaz]) ((cf W _ _ _ fold (fC0 HD1 hi_) (fC1 HD3 hi_) (fC2 HD5 hi_)).mono (fun e w' h=>by obtain ⟨g0,g1,rfl,h⟩:=h;exact ⟨_,rfl,g0,g1,rfl,h⟩)) ?_
  rintro v W' ⟨r0,r1,rfl,g,z0,y0,hres⟩
  exact ⟨u8,u9,u35,u36,u37,u38,u39,u40,u41,.tuple #[.agg r0,r1],u43,u44,k0,W.heap.size,W'.heap.size,r0,r1,(by rw [hfr];exact Qap a0 _ _ _ rfl),(Old.trans fold g),
   (fun h0=>fL0 h0),
   (fun h0 h1=>by cases h1),
   (fun h0=>fL1 h0),
   (fun h0 h1=>by cases h1),
   (fun h0=>fL2 h0),
   (fun h0 h1=>by cases h1),
   (fun _=>⟨rfl,(fold.size),Nat.le_refl _,z0,y0,hres⟩),
   (fun h0=>by have hx_:=fO7_6 h0;rw [hi_] at hx_;cases hx_),
   (fun h0=>by have hx_:=fO8_6 h0;rw [hi_] at hx_;cases hx_),
   (fun h0=>by have hx_:=fO9_6 h0;rw [hi_] at hx_;cases hx_),
   (fun h0=>by obtain ⟨e1,e2,e3⟩:=fB0 h0;exact ⟨e1,e2,Nat.lt_of_lt_of_le e3 g.size⟩),
   (fun h0 h1=>(g.block _ (lt_of_some (fZ0 h0 h1))).trans (fZ0 h0 h1)),
   (fun h0=>by have hx_:=fO11_6 h0;rw [hi_] at hx_;cases hx_),
   (fun hb _=>Or.inl (fB0 hb).2.2),
   (fun h0=>by have hx_:=fO12_6 h0;rw [hi_] at hx_;cases hx_),
   (fun _=>rfl),
   (fun _=>rfl),
   (fun _=>rfl),
   (fun h=>fO11_10 h),
   (fun _=>rfl),
   (fun _=>rfl)⟩
 ·rintro d a W ⟨u8,u9,u35,u36,u37,u38,u39,u40,u41,u42,u43,u44,k0,lo,hi,g0,g1,hfr,fold,fL0,fC0,fL1,fC1,fL2,fC2,fF,fM,fE0,fE1,fB0,fZ0,fS0,fX0,fA1,fO7_6,fO8_6,fO11_6,fO11_10,fO9_6,fO12_6⟩ hi_ hd;simp [Region.binds] at hd;have HD6:d 6=true:=by simp only [hd]
  clear hd;have hv:=(fF HD6).1;refine Qa0 ?_
  rw [show a.eval (.tmp 42)=.tuple #[.agg g0,g1] by rw [hfr,e42];exact hv]
  exact ⟨u8,u9,.tuple #[.agg g0,g1],u36,u37,u38,u39,u40,u41,u42,u43,u44,k0,lo,hi,g0,g1,(by rw [hfr];exact Qap a0 _ _ _ rfl),(fold),
   (fun h0=>fL0 h0),
   (fun h0 h1=>fC0 h0 h1),
   (fun h0=>fL1 h0),
   (fun h0 h1=>fC1 h0 h1),
   (fun h0=>fL2 h0),
   (fun h0 h1=>fC2 h0 h1),
   (fun h0=>fF h0),
   (fun _=>rfl),
   (fun h0=>fE0 h0),
   (fun h0=>fE1 h0),
   (fun h0=>fB0 h0),
   (fun h0 h1=>fZ0 h0 h1),
   (fun h0=>fS0 h0),
   (fun h0 h1=>fX0 h0 h1),
   (fun h0=>fA1 h0),
   (fun _=>HD6),
   (fun h=>fO8_6 h),
   (fun h=>fO11_6 h),
   (fun h=>fO11_10 h),
   (fun h=>fO9_6 h),
   (fun h=>fO12_6 h)⟩
 ·rintro d a W ⟨u8,u9,u35,u36,u37,u38,u39,u40,u41,u42,u43,u44,k0,lo,hi,g0,g1,hfr,fold,fL0,fC0,fL1,fC1,fL2,fC2,fF,fM,fE0,fE1,fB0,fZ0,fS0,fX0,fA1,fO7_6,fO8_6,fO11_6,fO11_10,fO9_6,fO12_6⟩ hi_ hd;simp [Region.binds] at hd;have HD7:d 7=true:=by simp only [hd]
  have HD6:d 6=true:=fO7_6 HD7;clear hd;have hv:=fM HD7;refine Qbo (by rw [hfr,e35];exact hv) rfl ?_
  exact ⟨u8,u9,u35,u36,u37,u38,u39,u40,u41,u42,.agg g0,u44,k0,lo,hi,g0,g1,(by rw [hfr];exact Qap a0 _ _ _ rfl),(fold),
   (fun h0=>fL0 h0),
   (fun h0 h1=>fC0 h0 h1),
   (fun h0=>fL1 h0),
   (fun h0 h1=>fC1 h0 h1),
   (fun h0=>fL2 h0),
   (fun h0 h1=>fC2 h0 h1),
   (fun h0=>fF h0),
   (fun h0=>fM h0),
   (fun _=>rfl),
   (fun h0=>fE1 h0),
   (fun h0=>fB0 h0),
   (fun h0 h1=>fZ0 h0 h1),
   (fun h0=>fS0 h0),
   (fun h0 h1=>fX0 h0 h1),
   (fun h0=>fA1 h0),
   (fun h=>fO7_6 h),
   (fun _=>HD6),
   (fun h=>fO11_6 h),
   (fun h=>fO11_10 h),
   (fun h=>fO9_6 h),
   (fun h=>fO12_6 h)⟩
 ·rintro d a W ⟨u8,u9,u35,u36,u37,u38,u39,u40,u41,u42,u43,u44,k0,lo,hi,g0,g1,hfr,fold,fL0,fC0,fL1,fC1,fL2,fC2,fF,fM,fE0,fE1,fB0,fZ0,fS0,fX0,fA1,fO7_6,fO8_6,fO11_6,fO11_10,fO9_6,fO12_6⟩ hi_ hd;simp [Region.binds] at hd;have HD7:d 7=true:=by simp only [hd]
  have HD6:d 6=true:=fO7_6 HD7;clear hd;have hv:=fM HD7;refine Qbo (by rw [hfr,e35];exact hv) rfl ?_
  exact ⟨u8,u9,u35,u36,u37,u38,u39,u40,u41,u42,u43,g1,k0,lo,hi,g0,g1,(by rw [hfr];exact Qap a0 _ _ _ rfl),(fold),
   (fun h0=>fL0 h0),
   (fun h0 h1=>fC0 h0 h1),
   (fun h0=>fL1 h0),
   (fun h0 h1=>fC1 h0 h1),
   (fun h0=>fL2 h0),
   (fun h0 h1=>fC2 h0 h1),
   (fun h0=>fF h0),
   (fun h0=>fM h0),
   (fun h0=>fE0 h0),
   (fun _=>rfl),
   (fun h0=>fB0 h0),
   (fun h0 h1=>fZ0 h0 h1),
   (fun h0=>fS0 h0),
   (fun h0 h1=>fX0 h0 h1),
   (fun h0=>fA1 h0),
   (fun h=>fO7_6 h),
   (fun h=>fO8_6 h),
   (fun h=>fO11_6 h),
   (fun h=>fO11_10 h),
   (fun _=>HD6),
   (fun h=>fO12_6 h)⟩
 ·rintro d a W ⟨u8,u9,u35,u36,u37,u38,u39,u40,u41,u42,u43,u44,k0,lo,hi,g0,g1,hfr,fold,fL0,fC0,fL1,fC1,fL2,fC2,fF,fM,fE0,fE1,fB0,fZ0,fS0,fX0,fA1,fO7_6,fO8_6,fO11_6,fO11_10,fO9_6,fO12_6⟩ hi_ hd;simp [Region.binds] at hd;refine Qjt (z:=.agg #[.slice none 0 0]) (by kernel_rfl) ?_
  have g:Old W (W.alloc (.cells #[.slice none 0 0] 30)):=(Old.refl W).alloc _
  exact ⟨.pointer (some ⟨W.heap.size,0,none⟩),u9,u35,u36,u37,u38,u39,u40,u41,u42,u43,u44,W.heap.size,lo,hi,g0,g1,(by rw [hfr];exact Qap a0 _ _ _ rfl),(Old.trans fold g),
   (fun h0=>fL0 h0),
   (fun h0 h1=>hCR0 _ _ _ (fC0 h0 h1) g),
   (fun h0=>fL1 h0),
   (fun h0 h1=>hCR1 _ _ _ (fC1 h0 h1) g),
   (fun h0=>fL2 h0),
   (fun h0 h1=>hCR2 _ _ _ (fC2 h0 h1) g),
   (fun h0=>by obtain ⟨e1,e2,e3,z0,y0,e9⟩:=fF h0;exact ⟨e1,e2,Nat.le_trans e3 g.size,z0,y0,far _ _ _ _ _ _ e9 (fun b _ hb=>g.block b (by omega)) g.size⟩),
   (fun h0=>fM h0),
   (fun h0=>fE0 h0),
   (fun h0=>fE1 h0),
   (fun _=>⟨rfl,fold.size,by simp⟩),
   (fun _ _=>heap_alloc_new W _),
   (fun h0=>by have hx_:=fO11_10 h0;rw [hi_] at hx_;cases hx_),
   (fun _ hf=>Or.inr (fF hf).2.2.1),
   (fun h0=>fA1 h0),
   (fun h=>fO7_6 h),
   (fun h=>fO8_6 h),
   (fun h=>fO11_6 h),
   (fun _=>rfl),
   (fun h=>fO9_6 h),
   (fun h=>fO12_6 h)⟩
 ·rintro d a W ⟨u8,u9,u35,u36,u37,u38,u39,u40,u41,u42,u43,u44,k0,lo,hi,g0,g1,hfr,fold,fL0,fC0,fL1,fC1,fL2,fC2,fF,fM,fE0,fE1,fB0,fZ0,fS0,fX0,fA1,fO7_6,fO8_6,fO11_6,fO11_10,fO9_6,fO12_6⟩ hi_ hd;simp [Region.binds] at hd;have HD6:d 6=true:=by simp only [hd]
  have HD8:d 8=true:=by simp only [hd]
  have HD10:d 10=true:=by simp only [hd]
  clear hd;obtain ⟨hp,hlo,hlt⟩:=fB0 HD10;have hv:=fE0 HD8;have hz:=fZ0 HD10 hi_;obtain ⟨eF,lF,hF,z0,y0,rF⟩:=fF HD6;have hx:=fX0 HD10 HD6;refine Qgo (k:=k0) (by rw [hfr,e8];exact hp) (by rw [hfr,e43];exact hv) hz (by rw [z0];kernel_rfl) (by rw [z0];rfl) y0 ?_
  have hsz2:(W.setRow k0 g0).heap.size=W.heap.size:=size_setRow _ _ _;have hot:∀b,b≠k0->(W.setRow k0 g0).heap[b]? = W.heap[b]?:=fun b hb=>Qa4 _ _ _ _ hb
  exact ⟨u8,u9,u35,u36,u37,u38,u39,u40,u41,u42,u43,u44,k0,lo,hi,g0,g1,hfr,(Qen fold hlo _),
   (fun h0=>fL0 h0),
   (fun h0 h1=>by have hx_ : d 6=false:=h1;rw [HD6] at hx_;cases hx_),
   (fun h0=>fL1 h0),
   (fun h0 h1=>by have hx_ : d 6=false:=h1;rw [HD6] at hx_;cases hx_),
   (fun h0=>fL2 h0),
   (fun h0 h1=>by have hx_ : d 6=false:=h1;rw [HD6] at hx_;cases hx_),
   (fun h0=>⟨eF,lF,by rw [hsz2];exact hF,z0,y0,far _ _ _ _ _ _ rF (fun b h1 h2=>hot b (by omega)) (by rw [hsz2];exact Nat.le_refl _)⟩),
   (fun h0=>fM h0),
   (fun h0=>fE0 h0),
   (fun h0=>fE1 h0),
   (fun h0=>⟨hp,hlo,by rw [hsz2];exact hlt⟩),
   (fun h0 h1=>by cases h1),
   (fun _=>Qbl hz),
   (fun h0 h1=>fX0 h0 h1),
   (fun h0=>fA1 h0),
   (fun h=>fO7_6 h),
   (fun h=>fO8_6 h),
   (fun _=>HD6),
   (fun _=>HD10),
   (fun h=>fO9_6 h),
   (fun h=>fO12_6 h)⟩
 ·rintro d a W ⟨u8,u9,u35,u36,u37,u38,u39,u40,u41,u42,u43,u44,k0,lo,hi,g0,g1,hfr,fold,fL0,fC0,fL1,fC1,fL2,fC2,fF,fM,fE0,fE1,fB0,fZ0,fS0,fX0,fA1,fO7_6,fO8_6,fO11_6,fO11_10,fO9_6,fO12_6⟩ hi_ hd;simp [Region.binds] at hd;have HD6:d 6=true:=by simp only [hd]
  have HD9:d 9=true:=by simp only [hd]
  clear hd;have hv:=fE1 HD9;refine Qea ?_
  rw [show a.eval (.tmp 44)=g1 by rw [hfr,e44];exact hv]
  exact ⟨u8,g1,u35,u36,u37,u38,u39,u40,u41,u42,u43,u44,k0,lo,hi,g0,g1,(by rw [hfr];exact Qap a0 _ _ _ rfl),(fold),
   (fun h0=>fL0 h0),
   (fun h0 h1=>fC0 h0 h1),
   (fun h0=>fL1 h0),
   (fun h0 h1=>fC1 h0 h1),
   (fun h0=>fL2 h0),
   (fun h0 h1=>fC2 h0 h1),
   (fun h0=>fF h0),
   (fun h0=>fM h0),
   (fun h0=>fE0 h0),
   (fun h0=>fE1 h0),
   (fun h0=>fB0 h0),
   (fun h0 h1=>fZ0 h0 h1),
   (fun h0=>fS0 h0),
   (fun h0 h1=>fX0 h0 h1),
   (fun _=>rfl),
   (fun h=>fO7_6 h),
   (fun h=>fO8_6 h),
   (fun h=>fO11_6 h),
   (fun h=>fO11_10 h),
   (fun h=>fO9_6 h),
   (fun _=>HD6)⟩
 ·rintro d a W hd ⟨u8,u9,u35,u36,u37,u38,u39,u40,u41,u42,u43,u44,k0,lo,hi,g0,g1,hfr,fold,fL0,fC0,fL1,fC1,fL2,fC2,fF,fM,fE0,fE1,fB0,fZ0,fS0,fX0,fA1,fO7_6,fO8_6,fO11_6,fO11_10,fO9_6,fO12_6⟩;have hd2:∀i,i<13→d i=true:=hd
  clear hd;have HD0:d 0=true:=hd2 0 (by omega);have HD1:d 1=true:=hd2 1 (by omega);have HD2:d 2=true:=hd2 2 (by omega);have HD3:d 3=true:=hd2 3 (by omega);have HD4:d 4=true:=hd2 4 (by omega);have HD5:d 5=true:=hd2 5 (by omega);have HD6:d 6=true:=hd2 6 (by omega);have HD7:d 7=true:=hd2 7 (by omega);have HD8:d 8=true:=hd2 8 (by omega);have HD9:d 9=true:=hd2 9 (by omega);have HD10:d 10=true:=hd2 10 (by omega);have HD11:d 11=true:=hd2 11 (by omega);have HD12:d 12=true:=hd2 12 (by omega);obtain ⟨eF,lF,hF,z0,y0,rF⟩:=fF HD6;obtain ⟨hp0,hlo0,hlt0⟩:=fB0 HD10;rw [hp0] at hfr;have ha_1:=fA1 HD12;rw [ha_1] at hfr
  show K a W
  rw [hfr];exact HK.out k0 lo hi g0 g1 u35 u36 u37 u38 u39 u40 u41 u42 u43 u44 W fold lF hF rF (fS0 HD11) hlo0 hlt0 (fX0 HD10 HD6)
def Qba (n:Nat):Code->Option Code
 | .region i ops b=>if i=n then some (.region i ops b) else none
 | .seq a b=>match Qba n a with
   | some c=>some c
   | none=>Qba n b
 | .block _ c=>Qba n c
 | _=>none
theorem Qgl (w2:World) (x0_0 x0_1 x0_2 x0_3:Value) (kb0:Nat) (x1_0:Value) (kb1:Nat) (x2_0:Value) (kb2:Nat)
  (CR0:World->Value->Prop) (hCR0:∀W W' v,CR0 W v->Old W W'->CR0 W' v)
  (c0:∀W,Old w2 W->Calls Tryz.prog 7 #[.agg #[x0_0,x0_1,x0_2,x0_3]] W fun e w'=>∃v,e=.returned v/\Old W w'/\CR0 w' v)
  (b0:w2.heap[kb0]? = some (.cells #[x0_0,x0_1,x0_2,x0_3] 24 (0,0)))
  (CR1:World->Value->Prop) (hCR1:∀W W' v,CR1 W v->Old W W'->CR1 W' v)
  (c1:∀W,Old w2 W->Calls Tryz.prog 8 #[.agg #[x1_0]] W fun e w'=>∃v,e=.returned v/\Old W w'/\CR1 w' v)
  (b1:w2.heap[kb1]? = some (.cells #[x1_0] 27 (0,0)))
  (CR2:World->Value->Prop) (hCR2:∀W W' v,CR2 W v->Old W W'->CR2 W' v)
  (c2:∀W,Old w2 W->Calls Tryz.prog 8 #[.agg #[x2_0]] W fun e w'=>∃v,e=.returned v/\Old W w'/\CR2 w' v)
  (b2:w2.heap[kb2]? = some (.cells #[x2_0] 27 (0,0)))
  (RES:World->Nat->Nat->Array Value->Value->Prop) (far:∀W W' lo hi (g0:Array Value) (g1:Value),RES W lo hi g0 g1->(∀b,lo<=b->b<hi->W'.heap[b]? = W.heap[b]?)->W.heap.size<=W'.heap.size->RES W' lo hi g0 g1)
  (cf:∀W v0 v1 v2,Old w2 W->CR0 W v0->CR1 W v1->CR2 W v2->Calls Tryz.prog 9 #[v0,v1,v2] W fun e w'=>∃(g0:Array Value) (g1:Value),e=.returned (.tuple #[.agg g0,g1])/\Old W w'/\g0.size=1/\g0.all (·.oneCell')=true/\RES w' W.heap.size w'.heap.size g0 g1)
  (Q:Exit->Act->World->Prop) (K:Act->World->Prop) (a0:Act) (hsz:142<=a0.tmps.size) (ha3:a0.eval (.tmp 3)=.pointer (some ⟨kb0,0,none⟩)) (ha4:a0.eval (.tmp 4)=.pointer (some ⟨kb1,0,none⟩)) (ha5:a0.eval (.tmp 5)=.pointer (some ⟨kb2,0,none⟩))
  (HK:Hid (∀(k0 lo hi:Nat) (g0:Array Value) (g1:Value) (u115 u116 u117 u118 u119 u120 u121 u122 u123 u124:Value) (W:World),Old w2 W->w2.heap.size<=lo->hi<=W.heap.size->RES W lo hi g0 g1->W.heap[k0]? = some (.cells g0 30 (0,0))->w2.heap.size<=k0->k0<W.heap.size->(k0<lo∨hi<=k0)->K (Qal a0 [(18,.pointer (some ⟨k0,0,none⟩)),(19,g1),(115,u115),(116,u116),(117,u117),(118,u118),(119,u119),(120,u120),(121,u121),(122,u122),(123,u123),(124,u124)]) W)) :
  Code.wp Tryz.prog ((Tryz.f3.body.bind (Qba 38)).getD .skip) (Exit.then K Q) a0 w2:=by
 conv=>arg 2;whnf
 have e3:∀l,(Qal a0 l).eval (.tmp 3)=(Qaz l 3).getD (a0.eval (.tmp 3)):=Qag a0 3 (by omega)
 have e4:∀l,(Qal a0 l).eval (.tmp 4)=(Qaz l 4).getD (a0.eval (.tmp 4)):=Qag a0 4 (by omega)
 have e5:∀l,(Qal a0 l).eval (.tmp 5)=(Qaz l 5).getD (a0.eval (.tmp 5)):=Qag a0 5 (by omega)
 have e18:∀l,(Qal a0 l).eval (.tmp 18)=(Qaz l 18).getD (a0.eval (.tmp 18)):=Qag a0 18 (by omega)
 have e19:∀l,(Qal a0 l).eval (.tmp 19)=(Qaz l 19).getD (a0.eval (.tmp 19)):=Qag a0 19 (by omega)
 have e115:∀l,(Qal a0 l).eval (.tmp 115)=(Qaz l 115).getD (a0.eval (.tmp 115)):=Qag a0 115 (by omega)
 have e116:∀l,(Qal a0 l).eval (.tmp 116)=(Qaz l 116).getD (a0.eval (.tmp 116)):=Qag a0 116 (by omega)
 have e117:∀l,(Qal a0 l).eval (.tmp 117)=(Qaz l 117).getD (a0.eval (.tmp 117)):=Qag a0 117 (by omega)
 have e118:∀l,(Qal a0 l).eval (.tmp 118)=(Qaz l 118).getD (a0.eval (.tmp 118)):=Qag a0 118 (by omega)
 have e119:∀l,(Qal a0 l).eval (.tmp 119)=(Qaz l 119).getD (a0.eval (.tmp 119)):=Qag a0 119 (by omega)
 have e120:∀l,(Qal a0 l).eval (.tmp 120)=(Qaz l 120).getD (a0.eval (.tmp 120)):=Qag a0 120 (by omega)
 have e121:∀l,(Qal a0 l).eval (.tmp 121)=(Qaz l 121).getD (a0.eval (.tmp 121)):=Qag a0 121 (by omega)
 have e122:∀l,(Qal a0 l).eval (.tmp 122)=(Qaz l 122).getD (a0.eval (.tmp 122)):=Qag a0 122 (by omega)
 have e123:∀l,(Qal a0 l).eval (.tmp 123)=(Qaz l 123).getD (a0.eval (.tmp 123)):=Qag a0 123 (by omega)
 have e124:∀l,(Qal a0 l).eval (.tmp 124)=(Qaz l 124).getD (a0.eval (.tmp 124)):=Qag a0 124 (by omega)
 refine Qd9 (fun d a W=>∃(u18 u19 u115 u116 u117 u118 u119 u120 u121 u122 u123 u124:Value) (k0 lo hi:Nat) (g0:Array Value) (g1:Value),a=(Qal a0 [(18,u18),(19,u19),(115,u115),(116,u116),(117,u117),(118,u118),(119,u119),(120,u120),(121,u121),(122,u122),(123,u123),(124,u124)])/\(Old w2 W)/\(d 0=true->u116=.agg #[x0_0,x0_1,x0_2,x0_3])/\(d 1=true->d 6=false->CR0 W u117)/\(d 2=true->u118=.agg #[x1_0])/\(d 3=true->d 6=false->CR1 W u119)/\(d 4=true->u120=.agg #[x2_0])/\(d 5=true->d 6=false->CR2 W u121)/\(d 6=true->u122=.tuple #[.agg g0,g1]/\w2.heap.size<=lo/\hi<=W.heap.size/\g0.size=1/\g0.all (·.oneCell')=true/\RES W lo hi g0 g1)/\(d 7=true->u115=.tuple #[.agg g0,g1])/\(d 8=true->u123=.agg g0)/\(d 9=true->u124=g1)/\(d 10=true->u18=.pointer (some ⟨k0,0,none⟩)/\w2.heap.size<=k0/\k0<W.heap.size)/\(d 10=true->d 11=false->W.heap[k0]? = some (.cells #[.slice none 0 0] 30 (0,0)))/\(d 11=true->W.heap[k0]? = some (.cells g0 30 (0,0)))/\(d 10=true->d 6=true->(k0<lo∨hi<=k0))/\(d 12=true->u19=g1)/\(d 7=true->d 6=true)/\(d 8=true->d 6=true)/\(d 11=true->d 6=true)/\(d 11=true->d 10=true)/\(d 9=true->d 6=true)/\(d 12=true->d 6=true)) rfl (by decide +kernel) (by decide +kernel) ?_ ⟨?_,?_,?_,?_,?_,?_,?_,?_,?_,?_,?_,?_,?_,trivial⟩ ?_
 ·exact ⟨_,_,_,_,_,_,_,_,_,_,_,_,0,0,0,#[],undef,(Qe4 a0 [18,19,115,116,117,118,119,120,121,122,123,124] (by intro s hs;simp at hs;omega)).symm,Below.drew (Old.refl w2),(fun h=>by cases h),(fun h=>by cases h),(fun h=>by cases h),(fun h=>by cases h),(fun h=>by cases h),(fun h=>by cases h),(fun h=>by cases h),(fun h=>by cases h),(fun h=>by cases h),(fun h=>by cases h),(fun h=>by cases h),(fun h=>by cases h),(fun h=>by cases h),(fun h=>by cases h),(fun h=>by cases h),(fun h=>by cases h),(fun h=>by cases h),(fun h=>by cases h),(fun h=>by cases h),(fun h=>by cases h),(fun h=>by cases h)⟩
 ·rintro d a W ⟨u18,u19,u115,u116,u117,u118,u119,u120,u121,u122,u123,u124,k0,lo,hi,g0,g1,hfr,fold,fL0,fC0,fL1,fC1,fL2,fC2,fF,fM,fE0,fE1,fB0,fZ0,fS0,fX0,fA1,fO7_6,fO8_6,fO11_6,fO11_10,fO9_6,fO12_6⟩ hi_ hd;simp [Region.binds] at hd;refine Qca (k:=kb0) (by rw [hfr,e3];exact ha3) (fold.block _ (lt_of_some b0) |>.trans b0) Tryz.underlying24 rfl (by kernel_rfl) ?_
  exact ⟨u18,u19,u115,.agg #[x0_0,x0_1,x0_2,x0_3],u117,u118,u119,u120,u121,u122,u123,u124,k0,lo,hi,g0,g1,(by rw [hfr];exact Qap a0 _ _ _ rfl),(fold),
   (fun _=>rfl),
   (fun h0 h1=>fC0 h0 h1),
   (fun h0=>fL1 h0),
   (fun h0 h1=>fC1 h0 h1),
   (fun h0=>fL2 h0),
   (fun h0 h1=>fC2 h0 h1),
   (fun h0=>fF h0),
   (fun h0=>fM h0),
   (fun h0=>fE0 h0),
   (fun h0=>fE1 h0),
   (fun h0=>fB0 h0),
   (fun h0 h1=>fZ0 h0 h1),
   (fun h0=>fS0 h0),
   (fun h0 h1=>fX0 h0 h1),
   (fun h0=>fA1 h0),
   (fun h=>fO7_6 h),
   (fun h=>fO8_6 h),
   (fun h=>fO11_6 h),
   (fun h=>fO11_10 h),
   (fun h=>fO9_6 h),
   (fun h=>fO12_6 h)⟩
 ·rintro d a W ⟨u18,u19,u115,u116,u117,u118,u119,u120,u121,u122,u123,u124,k0,lo,hi,g0,g1,hfr,fold,fL0,fC0,fL1,fC1,fL2,fC2,fF,fM,fE0,fE1,fB0,fZ0,fS0,fX0,fA1,fO7_6,fO8_6,fO11_6,fO11_10,fO9_6,fO12_6⟩ hi_ hd;simp [Region.binds] at hd;have HD0:d 0=true:=by simp only [hd]
  clear hd;have hv:=fL0 HD0;refine Qao Tryz.call7 (vs:=#[.agg #[x0_0,x0_1,x0_2,x0_3]]) (by simp [hfr,e116,Qaz,hv]) (c0 W fold) ?_
  rintro v W' ⟨g,hcr⟩
  exact ⟨u18,u19,u115,u116,v,u118,u119,u120,u121,u122,u123,u124,k0,lo,hi,g0,g1,(by rw [hfr];exact Qap a0 _ _ _ rfl),(Old.trans fold g),
   (fun h0=>fL0 h0),
   (fun _ _=>hcr),
   (fun h0=>fL1 h0),
   (fun h0 h1=>hCR1 _ _ _ (fC1 h0 h1) g),
   (fun h0=>fL2 h0),
   (fun h0 h1=>hCR2 _ _ _ (fC2 h0 h1) g),
   (fun h0=>by obtain ⟨e1,e2,e3,z0,y0,e9⟩:=fF h0;exact ⟨e1,e2,Nat.le_trans e3 g.size,z0,y0,far _ _ _ _ _ _ e9 (fun b _ hb=>g.block b (by omega)) g.size⟩),
   (fun h0=>fM h0),
   (fun h0=>fE0 h0),
   (fun h0=>fE1 h0),
   (fun h0=>by obtain ⟨e1,e2,e3⟩:=fB0 h0;exact ⟨e1,e2,Nat.lt_of_lt_of_le e3 g.size⟩),
   (fun h0 h1=>(g.block _ (lt_of_some (fZ0 h0 h1))).trans (fZ0 h0 h1)),
   (fun h0=>(g.block _ (lt_of_some (fS0 h0))).trans (fS0 h0)),
   (fun h0 h1=>fX0 h0 h1),
   (fun h0=>fA1 h0),
   (fun h=>fO7_6 h),
   (fun h=>fO8_6 h),
   (fun h=>fO11_6 h),
   (fun h=>fO11_10 h),
   (fun h=>fO9_6 h),
   (fun h=>fO12_6 h)⟩
 ·rintro d a W ⟨u18,u19,u115,u116,u117,u118,u119,u120,u121,u122,u123,u124,k0,lo,hi,g0,g1,hfr,fold,fL0,fC0,fL1,fC1,fL2,fC2,fF,fM,fE0,fE1,fB0,fZ0,fS0,fX0,fA1,fO7_6,fO8_6,fO11_6,fO11_10,fO9_6,fO12_6⟩ hi_ hd;simp [Region.binds] at hd;refine Qca (k:=kb1) (by rw [hfr,e4];exact ha4) (fold.block _ (lt_of_some b1) |>.trans b1) Tryz.underlying27 rfl (by kernel_rfl) ?_
  exact ⟨u18,u19,u115,u116,u117,.agg #[x1_0],u119,u120,u121,u122,u123,u124,k0,lo,hi,g0,g1,(by rw [hfr];exact Qap a0 _ _ _ rfl),(fold),
   (fun h0=>fL0 h0),
   (fun h0 h1=>fC0 h0 h1),
   (fun _=>rfl),
   (fun h0 h1=>fC1 h0 h1),
   (fun h0=>fL2 h0),
   (fun h0 h1=>fC2 h0 h1),
   (fun h0=>fF h0),
   (fun h0=>fM h0),
   (fun h0=>fE0 h0),
   (fun h0=>fE1 h0),
   (fun h0=>fB0 h0),
   (fun h0 h1=>fZ0 h0 h1),
   (fun h0=>fS0 h0),
   (fun h0 h1=>fX0 h0 h1),
   (fun h0=>fA1 h0),
   (fun h=>fO7_6 h),
   (fun h=>fO8_6 h),
   (fun h=>fO11_6 h),
   (fun h=>fO11_10 h),
   (fun h=>fO9_6 h),
   (fun h=>fO12_6 h)⟩
 ·rintro d a W ⟨u18,u19,u115,u116,u117,u118,u119,u120,u121,u122,u123,u124,k0,lo,hi,g0,g1,hfr,fold,fL0,fC0,fL1,fC1,fL2,fC2,fF,fM,fE0,fE1,fB0,fZ0,fS0,fX0,fA1,fO7_6,fO8_6,fO11_6,fO11_10,fO9_6,fO12_6⟩ hi_ hd;simp [Region.binds] at hd;have HD2:d 2=true:=by simp only [hd]
  clear hd;have hv:=fL1 HD2;refine Qao Tryz.call8 (vs:=#[.agg #[x1_0]]) (by simp [hfr,e118,Qaz,hv]) (c1 W fold) ?_
  rintro v W' ⟨g,hcr⟩
  exact ⟨u18,u19,u115,u116,u117,u118,v,u120,u121,u122,u123,u124,k0,lo,hi,g0,g1,(by rw [hfr];exact Qap a0 _ _ _ rfl),(Old.trans fold g),
   (fun h0=>fL0 h0),
   (fun h0 h1=>hCR0 _ _ _ (fC0 h0 h1) g),
   (fun h0=>fL1 h0),
   (fun _ _=>hcr),
   (fun h0=>fL2 h0),
   (fun h0 h1=>hCR2 _ _ _ (fC2 h0 h1) g),
   (fun h0=>by obtain ⟨e1,e2,e3,z0,y0,e9⟩:=fF h0;exact ⟨e1,e2,Nat.le_trans e3 g.size,z0,y0,far _ _ _ _ _ _ e9 (fun b _ hb=>g.block b (by omega)) g.size⟩),
   (fun h0=>fM h0),
   (fun h0=>fE0 h0),
   (fun h0=>fE1 h0),
   (fun h0=>by obtain ⟨e1,e2,e3⟩:=fB0 h0;exact ⟨e1,e2,Nat.lt_of_lt_of_le e3 g.size⟩),
   (fun h0 h1=>(g.block _ (lt_of_some (fZ0 h0 h1))).trans (fZ0 h0 h1)),
   (fun h0=>(g.block _ (lt_of_some (fS0 h0))).trans (fS0 h0)),
   (fun h0 h1=>fX0 h0 h1),
   (fun h0=>fA1 h0),
   (fun h=>fO7_6 h),
   (fun h=>fO8_6 h),
   (fun h=>fO11_6 h),
   (fun h=>fO11_10 h),
   (fun h=>fO9_6 h),
   (fun h=>fO12_6 h)⟩
 ·rintro d a W ⟨u18,u19,u115,u116,u117,u118,u119,u120,u121,u122,u123,u124,k0,lo,hi,g0,g1,hfr,fold,fL0,fC0,fL1,fC1,fL2,fC2,fF,fM,fE0,fE1,fB0,fZ0,fS0,fX0,fA1,fO7_6,fO8_6,fO11_6,fO11_10,fO9_6,fO12_6⟩ hi_ hd;simp [Region.binds] at hd;refine Qca (k:=kb2) (by rw [hfr,e5];exact ha5) (fold.block _ (lt_of_some b2) |>.trans b2) Tryz.underlying27 rfl (by kernel_rfl) ?_
  exact ⟨u18,u19,u115,u116,u117,u118,u119,.agg #[x2_0],u121,u122,u123,u124,k0,lo,hi,g0,g1,(by rw [hfr];exact Qap a0 _ _ _ rfl),(fold),
   (fun h0=>fL0 h0),
   (fun h0 h1=>fC0 h0 h1),
   (fun h0=>fL1 h0),
   (fun h0 h1=>fC1 h0 h1),
   (fun _=>rfl),
   (fun h0 h1=>fC2 h0 h1),
   (fun h0=>fF h0),
   (fun h0=>fM h0),
   (fun h0=>fE0 h0),
   (fun h0=>fE1 h0),
   (fun h0=>fB0 h0),
   (fun h0 h1=>fZ0 h0 h1),
   (fun h0=>fS0 h0),
   (fun h0 h1=>fX0 h0 h1),
   (fun h0=>fA1 h0),
   (fun h=>fO7_6 h),
   (fun h=>fO8_6 h),
   (fun h=>fO11_6 h),
   (fun h=>fO11_10 h),
   (fun h=>fO9_6 h),
   (fun h=>fO12_6 h)⟩
 ·rintro d a W ⟨u18,u19,u115,u116,u117,u118,u119,u120,u121,u122,u123,u124,k0,lo,hi,g0,g1,hfr,fold,fL0,fC0,fL1,fC1,fL2,fC2,fF,fM,fE0,fE1,fB0,fZ0,fS0,fX0,fA1,fO7_6,fO8_6,fO11_6,fO11_10,fO9_6,fO12_6⟩ hi_ hd;simp [Region.binds] at hd;have HD4:d 4=true:=by simp only [hd]
  clear hd;have hv:=fL2 HD4;refine Qao Tryz.call8 (vs:=#[.agg #[x2_0]]) (by simp [hfr,e120,Qaz,hv]) (c2 W fold) ?_
  rintro v W' ⟨g,hcr⟩
  exact ⟨u18,u19,u115,u116,u117,u118,u119,u120,v,u122,u123,u124,k0,lo,hi,g0,g1,(by rw [hfr];exact Qap a0 _ _ _ rfl),(Old.trans fold g),
   (fun h0=>fL0 h0),
   (fun h0 h1=>hCR0 _ _ _ (fC0 h0 h1) g),
   (fun h0=>fL1 h0),
   (fun h0 h1=>hCR1 _ _ _ (fC1 h0 h1) g),
   (fun h0=>fL2 h0),
   (fun _ _=>hcr),
   (fun h0=>by obtain ⟨e1,e2,e3,z0,y0,e9⟩:=fF h0;exact ⟨e1,e2,Nat.le_trans e3 g.size,z0,y0,far _ _ _ _ _ _ e9 (fun b _ hb=>g.block b (by omega)) g.size⟩),
   (fun h0=>fM h0),
   (fun h0=>fE0 h0),
   (fun h0=>fE1 h0),
   (fun h0=>by obtain ⟨e1,e2,e3⟩:=fB0 h0;exact ⟨e1,e2,Nat.lt_of_lt_of_le e3 g.size⟩),
   (fun h0 h1=>(g.block _ (lt_of_some (fZ0 h0 h1))).trans (fZ0 h0 h1)),
   (fun h0=>(g.block _ (lt_of_some (fS0 h0))).trans (fS0 h0)),
   (fun h0 h1=>fX0 h0 h1),
   (fun h0=>fA1 h0),
   (fun h=>fO7_6 h),
   (fun h=>fO8_6 h),
   (fun h=>fO11_6 h),
   (fun h=>fO11_10 h),
   (fun h=>fO9_6 h),
   (fun h=>fO12_6 h)⟩
 ·rintro d a W ⟨u18,u19,u115,u116,u117,u118,u119,u120,u121,u122,u123,u124,k0,lo,hi,g0,g1,hfr,fold,fL0,fC0,fL1,fC1,fL2,fC2,fF,fM,fE0,fE1,fB0,fZ0,fS0,fX0,fA1,fO7_6,fO8_6,fO11_6,fO11_10,fO9_6,fO12_6⟩ hi_ hd;simp [Region.binds] at hd;have HD1:d 1=true:=by simp only [hd]
  have HD3:d 3=true:=by simp only [hd]
  have HD5:d 5=true:=by simp only [hd]
  clear hd;refine Qao (R:=fun v w'=>∃(g0:Array Value) (g1:Value),v=.tuple #[.agg g0,g1]/\Old W w'/\g0.size=1/\g0.all (·.oneCell')=true/\RES w' W.heap.size w'.heap.size g0 g1) Tryz.call9 (vs:=#[u117,u119,u121]) (by simp [hfr,e117,e119,e121,Qaz]) ((cf W _ _ _ fold (fC0 HD1 hi_) (fC1 HD3 hi_) (fC2 HD5 hi_)).mono (fun e w' h=>by obtain ⟨g0,g1,rfl,h⟩:=h;exact ⟨_,rfl,g0,g1,rfl,h⟩)) ?_
  rintro v W' ⟨r0,r1,rfl,g,z0,y0,hres⟩
  exact ⟨u18,u19,u115,u116,u117,u118,u119,u120,u121,.tuple #[.agg r0,r1],u123,u124,k0,W.heap.size,W'.heap.size,r0,r1,(by rw [hfr];exact Qap a0 _ _ _ rfl),(Old.trans fold g),
   (fun h0=>fL0 h0),
   (fun h0 h1=>by cases h1),
   (fun h0=>fL1 h0),
   (fun h0 h1=>by cases h1),
   (fun h0=>fL2 h0),
   (fun h0 h1=>by cases h1),
   (fun _=>⟨rfl,(fold.size),Nat.le_refl _,z0,y0,hres⟩),
   (fun h0=>by have hx_:=fO7_6 h0;rw [hi_] at hx_;cases hx_),
   (fun h0=>by have hx_:=fO8_6 h0;rw [hi_] at hx_;cases hx_),
   (fun h0=>by have hx_:=fO9_6 h0;rw [hi_] at hx_;cases hx_),
   (fun h0=>by obtain ⟨e1,e2,e3⟩:=fB0 h0;exact ⟨e1,e2,Nat.lt_of_lt_of_le e3 g.size⟩),
   (fun h0 h1=>(g.block _ (lt_of_some (fZ0 h0 h1))).trans (fZ0 h0 h1)),
   (fun h0=>by have hx_:=fO11_6 h0;rw [hi_] at hx_;cases hx_),
   (fun hb _=>Or.inl (fB0 hb).2.2),
   (fun h0=>by have hx_:=fO12_6 h0;rw [hi_] at hx_;cases hx_),
   (fun _=>rfl),
   (fun _=>rfl),
   (fun _=>rfl),
   (fun h=>fO11_10 h),
   (fun _=>rfl),
   (fun _=>rfl)⟩
 ·rintro d a W ⟨u18,u19,u115,u116,u117,u118,u119,u120,u121,u122,u123,u124,k0,lo,hi,g0,g1,hfr,fold,fL0,fC0,fL1,fC1,fL2,fC2,fF,fM,fE0,fE1,fB0,fZ0,fS0,fX0,fA1,fO7_6,fO8_6,fO11_6,fO11_10,fO9_6,fO12_6⟩ hi_ hd;simp [Region.binds] at hd;have HD6:d 6=true:=by simp only [hd]
  clear hd;have hv:=(fF HD6).1;refine Qa0 ?_
  rw [show a.eval (.tmp 122)=.tuple #[.agg g0,g1] by rw [hfr,e122];exact hv]
  exact ⟨u18,u19,.tuple #[.agg g0,g1],u116,u117,u118,u119,u120,u121,u122,u123,u124,k0,lo,hi,g0,g1,(by rw [hfr];exact Qap a0 _ _ _ rfl),(fold),
   (fun h0=>fL0 h0),
   (fun h0 h1=>fC0 h0 h1),
   (fun h0=>fL1 h0),
   (fun h0 h1=>fC1 h0 h1),
   (fun h0=>fL2 h0),
   (fun h0 h1=>fC2 h0 h1),
   (fun h0=>fF h0),
   (fun _=>rfl),
   (fun h0=>fE0 h0),
   (fun h0=>fE1 h0),
   (fun h0=>fB0 h0),
   (fun h0 h1=>fZ0 h0 h1),
   (fun h0=>fS0 h0),
   (fun h0 h1=>fX0 h0 h1),
   (fun h0=>fA1 h0),
   (fun _=>HD6),
   (fun h=>fO8_6 h),
   (fun h=>fO11_6 h),
   (fun h=>fO11_10 h),
   (fun h=>fO9_6 h),
   (fun h=>fO12_6 h)⟩
 ·rintro d a W ⟨u18,u19,u115,u116,u117,u118,u119,u120,u121,u122,u123,u124,k0,lo,hi,g0,g1,hfr,fold,fL0,fC0,fL1,fC1,fL2,fC2,fF,fM,fE0,fE1,fB0,fZ0,fS0,fX0,fA1,fO7_6,fO8_6,fO11_6,fO11_10,fO9_6,fO12_6⟩ hi_ hd;simp [Region.binds] at hd;have HD7:d 7=true:=by simp only [hd]
  have HD6:d 6=true:=fO7_6 HD7;clear hd;have hv:=fM HD7;refine Qbo (by rw [hfr,e115];exact hv) rfl ?_
  exact ⟨u18,u19,u115,u116,u117,u118,u119,u120,u121,u122,.agg g0,u124,k0,lo,hi,g0,g1,(by rw [hfr];exact Qap a0 _ _ _ rfl),(fold),
   (fun h0=>fL0 h0),
   (fun h0 h1=>fC0 h0 h1),
   (fun h0=>fL1 h0),
   (fun h0 h1=>fC1 h0 h1),
   (fun h0=>fL2 h0),
   (fun h0 h1=>fC2 h0 h1),
   (fun h0=>fF h0),
   (fun h0=>fM h0),
   (fun _=>rfl),
   (fun h0=>fE1 h0),
   (fun h0=>fB0 h0),
   (fun h0 h1=>fZ0 h0 h1),
   (fun h0=>fS0 h0),
   (fun h0 h1=>fX0 h0 h1),
   (fun h0=>fA1 h0),
   (fun h=>fO7_6 h),
   (fun _=>HD6),
   (fun h=>fO11_6 h),
   (fun h=>fO11_10 h),
   (fun h=>fO9_6 h),
   (fun h=>fO12_6 h)⟩
 ·rintro d a W ⟨u18,u19,u115,u116,u117,u118,u119,u120,u121,u122,u123,u124,k0,lo,hi,g0,g1,hfr,fold,fL0,fC0,fL1,fC1,fL2,fC2,fF,fM,fE0,fE1,fB0,fZ0,fS0,fX0,fA1,fO7_6,fO8_6,fO11_6,fO11_10,fO9_6,fO12_6⟩ hi_ hd;simp [Region.binds] at hd;have HD7:d 7=true:=by simp only [hd]
  have HD6:d 6=true:=fO7_6 HD7;clear hd;have hv:=fM HD7;refine Qbo (by rw [hfr,e115];exact hv) rfl ?_
  exact ⟨u18,u19,u115,u116,u117,u118,u119,u120,u121,u122,u123,g1,k0,lo,hi,g0,g1,(by rw [hfr];exact Qap a0 _ _ _ rfl),(fold),
   (fun h0=>fL0 h0),
   (fun h0 h1=>fC0 h0 h1),
   (fun h0=>fL1 h0),
   (fun h0 h1=>fC1 h0 h1),
   (fun h0=>fL2 h0),
   (fun h0 h1=>fC2 h0 h1),
   (fun h0=>fF h0),
   (fun h0=>fM h0),
   (fun h0=>fE0 h0),
   (fun _=>rfl),
   (fun h0=>fB0 h0),
   (fun h0 h1=>fZ0 h0 h1),
   (fun h0=>fS0 h0),
   (fun h0 h1=>fX0 h0 h1),
   (fun h0=>fA1 h0),
   (fun h=>fO7_6 h),
   (fun h=>fO8_6 h),
   (fun h=>fO11_6 h),
   (fun h=>fO11_10 h),
   (fun _=>HD6),
   (fun h=>fO12_6 h)⟩
 ·rintro d a W ⟨u18,u19,u115,u116,u117,u118,u119,u120,u121,u122,u123,u124,k0,lo,hi,g0,g1,hfr,fold,fL0,fC0,fL1,fC1,fL2,fC2,fF,fM,fE0,fE1,fB0,fZ0,fS0,fX0,fA1,fO7_6,fO8_6,fO11_6,fO11_10,fO9_6,fO12_6⟩ hi_ hd;simp [Region.binds] at hd;refine Qjt (z:=.agg #[.slice none 0 0]) (by kernel_rfl) ?_
  have g:Old W (W.alloc (.cells #[.slice none 0 0] 30)):=(Old.refl W).alloc _
  exact ⟨.pointer (some ⟨W.heap.size,0,none⟩),u19,u115,u116,u117,u118,u119,u120,u121,u122,u123,u124,W.heap.size,lo,hi,g0,g1,(by rw [hfr];exact Qap a0 _ _ _ rfl),(Old.trans fold g),
   (fun h0=>fL0 h0),
   (fun h0 h1=>hCR0 _ _ _ (fC0 h0 h1) g),
   (fun h0=>fL1 h0),
   (fun h0 h1=>hCR1 _ _ _ (fC1 h0 h1) g),
   (fun h0=>fL2 h0),
   (fun h0 h1=>hCR2 _ _ _ (fC2 h0 h1) g),
   (fun h0=>by obtain ⟨e1,e2,e3,z0,y0,e9⟩:=fF h0;exact ⟨e1,e2,Nat.le_trans e3 g.size,z0,y0,far _ _ _ _ _ _ e9 (fun b _ hb=>g.block b (by omega)) g.size⟩),
   (fun h0=>fM h0),
   (fun h0=>fE0 h0),
   (fun h0=>fE1 h0),
   (fun _=>⟨rfl,fold.size,by simp⟩),
   (fun _ _=>heap_alloc_new W _),
   (fun h0=>by have hx_:=fO11_10 h0;rw [hi_] at hx_;cases hx_),
   (fun _ hf=>Or.inr (fF hf).2.2.1),
   (fun h0=>fA1 h0),
   (fun h=>fO7_6 h),
   (fun h=>fO8_6 h),
   (fun h=>fO11_6 h),
   (fun _=>rfl),
   (fun h=>fO9_6 h),
   (fun h=>fO12_6 h)⟩
 ·rintro d a W ⟨u18,u19,u115,u116,u117,u118,u119,u120,u121,u122,u123,u124,k0,lo,hi,g0,g1,hfr,fold,fL0,fC0,fL1,fC1,fL2,fC2,fF,fM,fE0,fE1,fB0,fZ0,fS0,fX0,fA1,fO7_6,fO8_6,fO11_6,fO11_10,fO9_6,fO12_6⟩ hi_ hd;simp [Region.binds] at hd;have HD6:d 6=true:=by simp only [hd]
  have HD8:d 8=true:=by simp only [hd]
  have HD10:d 10=true:=by simp only [hd]
  clear hd;obtain ⟨hp,hlo,hlt⟩:=fB0 HD10;have hv:=fE0 HD8;have hz:=fZ0 HD10 hi_;obtain ⟨eF,lF,hF,z0,y0,rF⟩:=fF HD6;have hx:=fX0 HD10 HD6;refine Qgo (k:=k0) (by rw [hfr,e18];exact hp) (by rw [hfr,e123];exact hv) hz (by rw [z0];kernel_rfl) (by rw [z0];rfl) y0 ?_
  have hsz2:(W.setRow k0 g0).heap.size=W.heap.size:=size_setRow _ _ _;have hot:∀b,b≠k0->(W.setRow k0 g0).heap[b]? = W.heap[b]?:=fun b hb=>Qa4 _ _ _ _ hb
  exact ⟨u18,u19,u115,u116,u117,u118,u119,u120,u121,u122,u123,u124,k0,lo,hi,g0,g1,hfr,(Qen fold hlo _),
   (fun h0=>fL0 h0),
   (fun h0 h1=>by have hx_ : d 6=false:=h1;rw [HD6] at hx_;cases hx_),
   (fun h0=>fL1 h0),
   (fun h0 h1=>by have hx_ : d 6=false:=h1;rw [HD6] at hx_;cases hx_),
   (fun h0=>fL2 h0),
   (fun h0 h1=>by have hx_ : d 6=false:=h1;rw [HD6] at hx_;cases hx_),
   (fun h0=>⟨eF,lF,by rw [hsz2];exact hF,z0,y0,far _ _ _ _ _ _ rF (fun b h1 h2=>hot b (by omega)) (by rw [hsz2];exact Nat.le_refl _)⟩),
   (fun h0=>fM h0),
   (fun h0=>fE0 h0),
   (fun h0=>fE1 h0),
   (fun h0=>⟨hp,hlo,by rw [hsz2];exact hlt⟩),
   (fun h0 h1=>by cases h1),
   (fun _=>Qbl hz),
   (fun h0 h1=>fX0 h0 h1),
   (fun h0=>fA1 h0),
   (fun h=>fO7_6 h),
   (fun h=>fO8_6 h),
   (fun _=>HD6),
   (fun _=>HD10),
   (fun h=>fO9_6 h),
   (fun h=>fO12_6 h)⟩
 ·rintro d a W ⟨u18,u19,u115,u116,u117,u118,u119,u120,u121,u122,u123,u124,k0,lo,hi,g0,g1,hfr,fold,fL0,fC0,fL1,fC1,fL2,fC2,fF,fM,fE0,fE1,fB0,fZ0,fS0,fX0,fA1,fO7_6,fO8_6,fO11_6,fO11_10,fO9_6,fO12_6⟩ hi_ hd;simp [Region.binds] at hd;have HD6:d 6=true:=by simp only [hd]
  have HD9:d 9=true:=by simp only [hd]
  clear hd;have hv:=fE1 HD9;refine Qea ?_
  rw [show a.eval (.tmp 124)=g1 by rw [hfr,e124];exact hv]
  exact ⟨u18,g1,u115,u116,u117,u118,u119,u120,u121,u122,u123,u124,k0,lo,hi,g0,g1,(by rw [hfr];exact Qap a0 _ _ _ rfl),(fold),
   (fun h0=>fL0 h0),
   (fun h0 h1=>fC0 h0 h1),
   (fun h0=>fL1 h0),
   (fun h0 h1=>fC1 h0 h1),
   (fun h0=>fL2 h0),
   (fun h0 h1=>fC2 h0 h1),
   (fun h0=>fF h0),
   (fun h0=>fM h0),
   (fun h0=>fE0 h0),
   (fun h0=>fE1 h0),
   (fun h0=>fB0 h0),
   (fun h0 h1=>fZ0 h0 h1),
   (fun h0=>fS0 h0),
   (fun h0 h1=>fX0 h0 h1),
   (fun _=>rfl),
   (fun h=>fO7_6 h),
   (fun h=>fO8_6 h),
   (fun h=>fO11_6 h),
   (fun h=>fO11_10 h),
   (fun h=>fO9_6 h),
   (fun _=>HD6)⟩
 ·rintro d a W hd ⟨u18,u19,u115,u116,u117,u118,u119,u120,u121,u122,u123,u124,k0,lo,hi,g0,g1,hfr,fold,fL0,fC0,fL1,fC1,fL2,fC2,fF,fM,fE0,fE1,fB0,fZ0,fS0,fX0,fA1,fO7_6,fO8_6,fO11_6,fO11_10,fO9_6,fO12_6⟩;have hd2:∀i,i<13→d i=true:=hd
  clear hd;have HD0:d 0=true:=hd2 0 (by omega);have HD1:d 1=true:=hd2 1 (by omega);have HD2:d 2=true:=hd2 2 (by omega);have HD3:d 3=true:=hd2 3 (by omega);have HD4:d 4=true:=hd2 4 (by omega);have HD5:d 5=true:=hd2 5 (by omega);have HD6:d 6=true:=hd2 6 (by omega);have HD7:d 7=true:=hd2 7 (by omega);have HD8:d 8=true:=hd2 8 (by omega);have HD9:d 9=true:=hd2 9 (by omega);have HD10:d 10=true:=hd2 10 (by omega);have HD11:d 11=true:=hd2 11 (by omega);have HD12:d 12=true:=hd2 12 (by omega);obtain ⟨eF,lF,hF,z0,y0,rF⟩:=fF HD6;obtain ⟨hp0,hlo0,hlt0⟩:=fB0 HD10;rw [hp0] at hfr;have ha_1:=fA1 HD12;rw [ha_1] at hfr
  show K a W
  rw [hfr];exact HK.out k0 lo hi g0 g1 u115 u116 u117 u118 u119 u120 u121 u122 u123 u124 W fold lF hF rF (fS0 HD11) hlo0 hlt0 (fX0 HD10 HD6)
end Go.Proofs.YtjjohooeehjjcaaGreatDoor
