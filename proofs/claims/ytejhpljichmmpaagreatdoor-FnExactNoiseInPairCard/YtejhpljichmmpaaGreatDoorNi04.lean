/- Proved: what its theorems say. -/
import Derived.Test.YtejhpljichmmpaaGreatDoorNi03
import Derived.Test.YtejhpljichmmpaaGreatDoorNi02
set_option linter.unusedVariables false
set_option linter.unusedSimpArgs false
set_option maxHeartbeats 8000000
set_option maxRecDepth 100000
namespace Go.Proofs.YtejhpljichmmpaaGreatDoor
open Go.ChangeShapes Go.WideShapes Go.ChangeAt Go.RowKit
def Qa1 (n:Nat):Code->Option Code
 | .region i ops b=>if i=n then some (.region i ops b) else none
 | .seq a b=>match Qa1 n a with
   | some c=>some c
   | none=>Qa1 n b
 | .block _ c=>Qa1 n c
 | _=>none
theorem Qfn (w2:World) (x0_0 x0_1 x0_2 x0_3:Value) (kb0:Nat) (x1_ : Value) (x2_0 x2_1:Value) (kb2:Nat) (x3_ : Value)
 (CR0:World->Value->Prop) (hCR0:∀W W' v,CR0 W v->Old W W'->CR0 W' v)
 (c0:∀W,Old w2 W->Calls Tryz.prog 11 #[.agg #[x0_0,x0_1,x0_2,x0_3]] W fun e w'=>∃v,e=.returned v/\Old W w'/\CR0 w' v)
 (b0:w2.heap[kb0]? = some (.cells #[x0_0,x0_1,x0_2,x0_3] 24 (0,0)))
 (CR1:World->Value->Prop) (hCR1:∀W W' v,CR1 W v->Old W W'->CR1 W' v)
 (c1:∀W,Old w2 W->Calls Tryz.prog 12 #[x1_] W fun e w'=>∃v,e=.returned v/\Old W w'/\CR1 w' v)
 (CR2:World->Value->Prop) (hCR2:∀W W' v,CR2 W v->Old W W'->CR2 W' v)
 (c2:∀W,Old w2 W->Calls Tryz.prog 33 #[.agg #[x2_0,x2_1]] W fun e w'=>∃v,e=.returned v/\Old W w'/\CR2 w' v)
 (b2:w2.heap[kb2]? = some (.cells #[x2_0,x2_1] 65 (0,0)))
 (CR3:World->Value->Prop) (hCR3:∀W W' v,CR3 W v->Old W W'->CR3 W' v)
 (c3:∀W,Old w2 W->Calls Tryz.prog 12 #[x3_] W fun e w'=>∃v,e=.returned v/\Old W w'/\CR3 w' v)
 (RES:World->Nat->Nat->Array Value->Value->Prop) (far:∀W W' lo hi (g0:Array Value) (g1:Value),RES W lo hi g0 g1->(∀b,lo<=b->b<hi->W'.heap[b]? = W.heap[b]?)->W.heap.size<=W'.heap.size->RES W' lo hi g0 g1)
 (cf:∀W v0 v1 v2 v3,Old w2 W->CR0 W v0->CR1 W v1->CR2 W v2->CR3 W v3->Calls Tryz.prog 32 #[v0,v1,v2,v3] W fun e w'=>∃(g0:Array Value) (g1:Value),e=.returned (.tuple #[.agg g0,g1])/\Old W w'/\g0.size=2/\g0.all (·.oneCell')=true/\RES w' W.heap.size w'.heap.size g0 g1)
 (Q:Exit->Act->World->Prop) (K:Act->World->Prop) (a0:Act) (hsz:161<=a0.tmps.size) (ha1:a0.eval (.tmp 1)=x1_) (ha3:a0.eval (.tmp 3)=x3_) (ha4:a0.eval (.tmp 4)=.pointer (some ⟨kb0,0,none⟩)) (ha6:a0.eval (.tmp 6)=.pointer (some ⟨kb2,0,none⟩))
 (HK:Hid (∀(k0 lo hi:Nat) (g0:Array Value) (g1:Value) (u39 u40 u41 u42 u43 u44 u45 u46 u47 u48 u49 u50:Value) (W:World),Old w2 W->w2.heap.size<=lo->hi<=W.heap.size->RES W lo hi g0 g1->W.heap[k0]? = some (.cells g0 31 (0,0))->w2.heap.size<=k0->k0<W.heap.size->(k0<lo∨hi<=k0)->K (Qah a0 [(10,.pointer (some ⟨k0,0,none⟩)),(11,g1),(39,u39),(40,u40),(41,u41),(42,u42),(43,u43),(44,u44),(45,u45),(46,u46),(47,u47),(48,u48),(49,u49),(50,u50)]) W)) :
 Code.wp Tryz.prog ((Tryz.f6.body.bind (Qa1 12)).getD .skip) (Exit.then K Q) a0 w2:=by
 conv=>arg 2;whnf
 have e1:∀l,(Qah a0 l).eval (.tmp 1)=(Qap l 1).getD (a0.eval (.tmp 1)):=Qaa a0 1 (by omega)
 have e3:∀l,(Qah a0 l).eval (.tmp 3)=(Qap l 3).getD (a0.eval (.tmp 3)):=Qaa a0 3 (by omega)
 have e4:∀l,(Qah a0 l).eval (.tmp 4)=(Qap l 4).getD (a0.eval (.tmp 4)):=Qaa a0 4 (by omega)
 have e6:∀l,(Qah a0 l).eval (.tmp 6)=(Qap l 6).getD (a0.eval (.tmp 6)):=Qaa a0 6 (by omega)
 have e10:∀l,(Qah a0 l).eval (.tmp 10)=(Qap l 10).getD (a0.eval (.tmp 10)):=Qaa a0 10 (by omega)
 have e11:∀l,(Qah a0 l).eval (.tmp 11)=(Qap l 11).getD (a0.eval (.tmp 11)):=Qaa a0 11 (by omega)
 have e39:∀l,(Qah a0 l).eval (.tmp 39)=(Qap l 39).getD (a0.eval (.tmp 39)):=Qaa a0 39 (by omega)
 have e40:∀l,(Qah a0 l).eval (.tmp 40)=(Qap l 40).getD (a0.eval (.tmp 40)):=Qaa a0 40 (by omega)
 have e41:∀l,(Qah a0 l).eval (.tmp 41)=(Qap l 41).getD (a0.eval (.tmp 41)):=Qaa a0 41 (by omega)
 have e42:∀l,(Qah a0 l).eval (.tmp 42)=(Qap l 42).getD (a0.eval (.tmp 42)):=Qaa a0 42 (by omega)
 have e43:∀l,(Qah a0 l).eval (.tmp 43)=(Qap l 43).getD (a0.eval (.tmp 43)):=Qaa a0 43 (by omega)
 have e44:∀l,(Qah a0 l).eval (.tmp 44)=(Qap l 44).getD (a0.eval (.tmp 44)):=Qaa a0 44 (by omega)
 have e45:∀l,(Qah a0 l).eval (.tmp 45)=(Qap l 45).getD (a0.eval (.tmp 45)):=Qaa a0 45 (by omega)
 have e46:∀l,(Qah a0 l).eval (.tmp 46)=(Qap l 46).getD (a0.eval (.tmp 46)):=Qaa a0 46 (by omega)
 have e47:∀l,(Qah a0 l).eval (.tmp 47)=(Qap l 47).getD (a0.eval (.tmp 47)):=Qaa a0 47 (by omega)
 have e48:∀l,(Qah a0 l).eval (.tmp 48)=(Qap l 48).getD (a0.eval (.tmp 48)):=Qaa a0 48 (by omega)
 have e49:∀l,(Qah a0 l).eval (.tmp 49)=(Qap l 49).getD (a0.eval (.tmp 49)):=Qaa a0 49 (by omega)
 have e50:∀l,(Qah a0 l).eval (.tmp 50)=(Qap l 50).getD (a0.eval (.tmp 50)):=Qaa a0 50 (by omega)
 refine Qb6 (fun d a W=>∃(u10 u11 u39 u40 u41 u42 u43 u44 u45 u46 u47 u48 u49 u50:Value) (k0 lo hi:Nat) (g0:Array Value) (g1:Value),a=(Qah a0 [(10,u10),(11,u11),(39,u39),(40,u40),(41,u41),(42,u42),(43,u43),(44,u44),(45,u45),(46,u46),(47,u47),(48,u48),(49,u49),(50,u50)])/\(Old w2 W)/\(d 0=true->u40=.agg #[x0_0,x0_1,x0_2,x0_3])/\(d 1=true->d 8=false->CR0 W u41)/\(d 2=true->u42=x1_)/\(d 3=true->d 8=false->CR1 W u43)/\(d 4=true->u44=.agg #[x2_0,x2_1])/\(d 5=true->d 8=false->CR2 W u45)/\(d 6=true->u46=x3_)/\(d 7=true->d 8=false->CR3 W u47)/\(d 8=true->u48=.tuple #[.agg g0,g1]/\w2.heap.size<=lo/\hi<=W.heap.size/\g0.size=2/\g0.all (·.oneCell')=true/\RES W lo hi g0 g1)/\(d 9=true->u39=.tuple #[.agg g0,g1])/\(d 10=true->u49=.agg g0)/\(d 11=true->u50=g1)/\(d 12=true->u10=.pointer (some ⟨k0,0,none⟩)/\w2.heap.size<=k0/\k0<W.heap.size)/\(d 12=true->d 13=false->W.heap[k0]? = some (.cells #[.bool false,.slice none 0 0] 31 (0,0)))/\(d 13=true->W.heap[k0]? = some (.cells g0 31 (0,0)))/\(d 12=true->d 8=true->(k0<lo∨hi<=k0))/\(d 14=true->u11=g1)/\(d 9=true->d 8=true)/\(d 10=true->d 8=true)/\(d 13=true->d 8=true)/\(d 13=true->d 12=true)/\(d 11=true->d 8=true)/\(d 14=true->d 8=true)) rfl (by decide +kernel) (by decide +kernel) ?_ ⟨?_,?_,?_,?_,?_,?_,?_,?_,?_,?_,?_,?_,?_,?_,?_,trivial⟩ ?_
 ·exact ⟨_,_,_,_,_,_,_,_,_,_,_,_,_,_,0,0,0,#[],undef,(Qep a0 [10,11,39,40,41,42,43,44,45,46,47,48,49,50] (by intro s hs;simp at hs;omega)).symm,Below.drew (Old.refl w2),(fun h=>by cases h),(fun h=>by cases h),(fun h=>by cases h),(fun h=>by cases h),(fun h=>by cases h),(fun h=>by cases h),(fun h=>by cases h),(fun h=>by cases h),(fun h=>by cases h),(fun h=>by cases h),(fun h=>by cases h),(fun h=>by cases h),(fun h=>by cases h),(fun h=>by cases h),(fun h=>by cases h),(fun h=>by cases h),(fun h=>by cases h),(fun h=>by cases h),(fun h=>by cases h),(fun h=>by cases h),(fun h=>by cases h),(fun h=>by cases h),(fun h=>by cases h)⟩
 ·rintro d a W ⟨u10,u11,u39,u40,u41,u42,u43,u44,u45,u46,u47,u48,u49,u50,k0,lo,hi,g0,g1,hfr,fold,fL0,fC0,fL1,fC1,fL2,fC2,fL3,fC3,fF,fM,fE0,fE1,fB0,fZ0,fS0,fX0,fA1,fO9_8,fO10_8,fO13_8,fO13_12,fO11_8,fO14_8⟩ hi_ hd;simp [Region.binds] at hd;refine Qb7 (k:=kb0) (by rw [hfr,e4];exact ha4) (fold.block _ (lt_of_some b0) |>.trans b0) Tryz.underlying24 rfl (by kernel_rfl) ?_
  exact ⟨u10,u11,u39,.agg #[x0_0,x0_1,x0_2,x0_3],u41,u42,u43,u44,u45,u46,u47,u48,u49,u50,k0,lo,hi,g0,g1,(by rw [hfr];exact Qaj a0 _ _ _ rfl),(fold),
   (fun _=>rfl),
   (fun h0 h1=>fC0 h0 h1),
   (fun h0=>fL1 h0),
   (fun h0 h1=>fC1 h0 h1),
   (fun h0=>fL2 h0),
   (fun h0 h1=>fC2 h0 h1),
   (fun h0=>fL3 h0),
   (fun h0 h1=>fC3 h0 h1),
   (fun h0=>fF h0),
   (fun h0=>fM h0),
   (fun h0=>fE0 h0),
   (fun h0=>fE1 h0),
   (fun h0=>fB0 h0),
   (fun h0 h1=>fZ0 h0 h1),
   (fun h0=>fS0 h0),
   (fun h0 h1=>fX0 h0 h1),
   (fun h0=>fA1 h0),
   (fun h=>fO9_8 h),
   (fun h=>fO10_8 h),
   (fun h=>fO13_8 h),
   (fun h=>fO13_12 h),
   (fun h=>fO11_8 h),
   (fun h=>fO14_8 h)⟩
 ·rintro d a W ⟨u10,u11,u39,u40,u41,u42,u43,u44,u45,u46,u47,u48,u49,u50,k0,lo,hi,g0,g1,hfr,fold,fL0,fC0,fL1,fC1,fL2,fC2,fL3,fC3,fF,fM,fE0,fE1,fB0,fZ0,fS0,fX0,fA1,fO9_8,fO10_8,fO13_8,fO13_12,fO11_8,fO14_8⟩ hi_ hd;simp [Region.binds] at hd;have HD0:d 0=true:=by simp only [hd]
  clear hd;have hv:=fL0 HD0;refine Qaf Tryz.call11 (vs:=#[.agg #[x0_0,x0_1,x0_2,x0_3]]) (by simp [hfr,e40,Qap,hv]) (c0 W fold) ?_
  rintro v W' ⟨g,hcr⟩
  exact ⟨u10,u11,u39,u40,v,u42,u43,u44,u45,u46,u47,u48,u49,u50,k0,lo,hi,g0,g1,(by rw [hfr];exact Qaj a0 _ _ _ rfl),(Old.trans fold g),
   (fun h0=>fL0 h0),
   (fun _ _=>hcr),
   (fun h0=>fL1 h0),
   (fun h0 h1=>hCR1 _ _ _ (fC1 h0 h1) g),
   (fun h0=>fL2 h0),
   (fun h0 h1=>hCR2 _ _ _ (fC2 h0 h1) g),
   (fun h0=>fL3 h0),
   (fun h0 h1=>hCR3 _ _ _ (fC3 h0 h1) g),
   (fun h0=>by obtain ⟨e1,e2,e3,z0,y0,e9⟩:=fF h0;exact ⟨e1,e2,Nat.le_trans e3 g.size,z0,y0,far _ _ _ _ _ _ e9 (fun b _ hb=>g.block b (by omega)) g.size⟩),
   (fun h0=>fM h0),
   (fun h0=>fE0 h0),
   (fun h0=>fE1 h0),
   (fun h0=>by obtain ⟨e1,e2,e3⟩:=fB0 h0;exact ⟨e1,e2,Nat.lt_of_lt_of_le e3 g.size⟩),
   (fun h0 h1=>(g.block _ (lt_of_some (fZ0 h0 h1))).trans (fZ0 h0 h1)),
   (fun h0=>(g.block _ (lt_of_some (fS0 h0))).trans (fS0 h0)),
   (fun h0 h1=>fX0 h0 h1),
   (fun h0=>fA1 h0),
   (fun h=>fO9_8 h),
   (fun h=>fO10_8 h),
   (fun h=>fO13_8 h),
   (fun h=>fO13_12 h),
   (fun h=>fO11_8 h),
   (fun h=>fO14_8 h)⟩
 ·rintro d a W ⟨u10,u11,u39,u40,u41,u42,u43,u44,u45,u46,u47,u48,u49,u50,k0,lo,hi,g0,g1,hfr,fold,fL0,fC0,fL1,fC1,fL2,fC2,fL3,fC3,fF,fM,fE0,fE1,fB0,fZ0,fS0,fX0,fA1,fO9_8,fO10_8,fO13_8,fO13_12,fO11_8,fO14_8⟩ hi_ hd;simp [Region.binds] at hd;refine Qch ?_
  rw [show a.eval (.tmp 1)=x1_ by rw [hfr,e1];exact ha1]
  exact ⟨u10,u11,u39,u40,u41,x1_,u43,u44,u45,u46,u47,u48,u49,u50,k0,lo,hi,g0,g1,(by rw [hfr];exact Qaj a0 _ _ _ rfl),(fold),
   (fun h0=>fL0 h0),
   (fun h0 h1=>fC0 h0 h1),
   (fun _=>rfl),
   (fun h0 h1=>fC1 h0 h1),
   (fun h0=>fL2 h0),
   (fun h0 h1=>fC2 h0 h1),
   (fun h0=>fL3 h0),
   (fun h0 h1=>fC3 h0 h1),
   (fun h0=>fF h0),
   (fun h0=>fM h0),
   (fun h0=>fE0 h0),
   (fun h0=>fE1 h0),
   (fun h0=>fB0 h0),
   (fun h0 h1=>fZ0 h0 h1),
   (fun h0=>fS0 h0),
   (fun h0 h1=>fX0 h0 h1),
   (fun h0=>fA1 h0),
   (fun h=>fO9_8 h),
   (fun h=>fO10_8 h),
   (fun h=>fO13_8 h),
   (fun h=>fO13_12 h),
   (fun h=>fO11_8 h),
   (fun h=>fO14_8 h)⟩
 ·rintro d a W ⟨u10,u11,u39,u40,u41,u42,u43,u44,u45,u46,u47,u48,u49,u50,k0,lo,hi,g0,g1,hfr,fold,fL0,fC0,fL1,fC1,fL2,fC2,fL3,fC3,fF,fM,fE0,fE1,fB0,fZ0,fS0,fX0,fA1,fO9_8,fO10_8,fO13_8,fO13_12,fO11_8,fO14_8⟩ hi_ hd;simp [Region.binds] at hd;have HD2:d 2=true:=by simp only [hd]
  clear hd;have hv:=fL1 HD2;refine Qaf Tryz.call12 (vs:=#[x1_]) (by simp [hfr,e42,Qap,hv]) (c1 W fold) ?_
  rintro v W' ⟨g,hcr⟩
  exact ⟨u10,u11,u39,u40,u41,u42,v,u44,u45,u46,u47,u48,u49,u50,k0,lo,hi,g0,g1,(by rw [hfr];exact Qaj a0 _ _ _ rfl),(Old.trans fold g),
   (fun h0=>fL0 h0),
   (fun h0 h1=>hCR0 _ _ _ (fC0 h0 h1) g),
   (fun h0=>fL1 h0),
   (fun _ _=>hcr),
   (fun h0=>fL2 h0),
   (fun h0 h1=>hCR2 _ _ _ (fC2 h0 h1) g),
   (fun h0=>fL3 h0),
   (fun h0 h1=>hCR3 _ _ _ (fC3 h0 h1) g),
   (fun h0=>by obtain ⟨e1,e2,e3,z0,y0,e9⟩:=fF h0;exact ⟨e1,e2,Nat.le_trans e3 g.size,z0,y0,far _ _ _ _ _ _ e9 (fun b _ hb=>g.block b (by omega)) g.size⟩),
   (fun h0=>fM h0),
   (fun h0=>fE0 h0),
   (fun h0=>fE1 h0),
   (fun h0=>by obtain ⟨e1,e2,e3⟩:=fB0 h0;exact ⟨e1,e2,Nat.lt_of_lt_of_le e3 g.size⟩),
   (fun h0 h1=>(g.block _ (lt_of_some (fZ0 h0 h1))).trans (fZ0 h0 h1)),
   (fun h0=>(g.block _ (lt_of_some (fS0 h0))).trans (fS0 h0)),
   (fun h0 h1=>fX0 h0 h1),
   (fun h0=>fA1 h0),
   (fun h=>fO9_8 h),
   (fun h=>fO10_8 h),
   (fun h=>fO13_8 h),
   (fun h=>fO13_12 h),
   (fun h=>fO11_8 h),
   (fun h=>fO14_8 h)⟩
 ·rintro d a W ⟨u10,u11,u39,u40,u41,u42,u43,u44,u45,u46,u47,u48,u49,u50,k0,lo,hi,g0,g1,hfr,fold,fL0,fC0,fL1,fC1,fL2,fC2,fL3,fC3,fF,fM,fE0,fE1,fB0,fZ0,fS0,fX0,fA1,fO9_8,fO10_8,fO13_8,fO13_12,fO11_8,fO14_8⟩ hi_ hd;simp [Region.binds] at hd;refine Qb7 (k:=kb2) (by rw [hfr,e6];exact ha6) (fold.block _ (lt_of_some b2) |>.trans b2) Tryz.underlying65 rfl (by kernel_rfl) ?_
  exact ⟨u10,u11,u39,u40,u41,u42,u43,.agg #[x2_0,x2_1],u45,u46,u47,u48,u49,u50,k0,lo,hi,g0,g1,(by rw [hfr];exact Qaj a0 _ _ _ rfl),(fold),
   (fun h0=>fL0 h0),
   (fun h0 h1=>fC0 h0 h1),
   (fun h0=>fL1 h0),
   (fun h0 h1=>fC1 h0 h1),
   (fun _=>rfl),
   (fun h0 h1=>fC2 h0 h1),
   (fun h0=>fL3 h0),
   (fun h0 h1=>fC3 h0 h1),
   (fun h0=>fF h0),
   (fun h0=>fM h0),
   (fun h0=>fE0 h0),
   (fun h0=>fE1 h0),
   (fun h0=>fB0 h0),
   (fun h0 h1=>fZ0 h0 h1),
   (fun h0=>fS0 h0),
   (fun h0 h1=>fX0 h0 h1),
   (fun h0=>fA1 h0),
   (fun h=>fO9_8 h),
   (fun h=>fO10_8 h),
   (fun h=>fO13_8 h),
   (fun h=>fO13_12 h),
   (fun h=>fO11_8 h),
   (fun h=>fO14_8 h)⟩
 ·rintro d a W ⟨u10,u11,u39,u40,u41,u42,u43,u44,u45,u46,u47,u48,u49,u50,k0,lo,hi,g0,g1,hfr,fold,fL0,fC0,fL1,fC1,fL2,fC2,fL3,fC3,fF,fM,fE0,fE1,fB0,fZ0,fS0,fX0,fA1,fO9_8,fO10_8,fO13_8,fO13_12,fO11_8,fO14_8⟩ hi_ hd;simp [Region.binds] at hd;have HD4:d 4=true:=by simp only [hd]
  clear hd;have hv:=fL2 HD4;refine Qaf Tryz.call33 (vs:=#[.agg #[x2_0,x2_1]]) (by simp [hfr,e44,Qap,hv]) (c2 W fold) ?_
  rintro v W' ⟨g,hcr⟩
  exact ⟨u10,u11,u39,u40,u41,u42,u43,u44,v,u46,u47,u48,u49,u50,k0,lo,hi,g0,g1,(by rw [hfr];exact Qaj a0 _ _ _ rfl),(Old.trans fold g),
   (fun h0=>fL0 h0),
   (fun h0 h1=>hCR0 _ _ _ (fC0 h0 h1) g),
   (fun h0=>fL1 h0),
   (fun h0 h1=>hCR1 _ _ _ (fC1 h0 h1) g),
   (fun h0=>fL2 h0),
   (fun _ _=>hcr),
   (fun h0=>fL3 h0),
   (fun h0 h1=>hCR3 _ _ _ (fC3 h0 h1) g),
   (fun h0=>by obtain ⟨e1,e2,e3,z0,y0,e9⟩:=fF h0;exact ⟨e1,e2,Nat.le_trans e3 g.size,z0,y0,far _ _ _ _ _ _ e9 (fun b _ hb=>g.block b (by omega)) g.size⟩),
   (fun h0=>fM h0),
   (fun h0=>fE0 h0),
   (fun h0=>fE1 h0),
   (fun h0=>by obtain ⟨e1,e2,e3⟩:=fB0 h0;exact ⟨e1,e2,Nat.lt_of_lt_of_le e3 g.size⟩),
   (fun h0 h1=>(g.block _ (lt_of_some (fZ0 h0 h1))).trans (fZ0 h0 h1)),
   (fun h0=>(g.block _ (lt_of_some (fS0 h0))).trans (fS0 h0)),
   (fun h0 h1=>fX0 h0 h1),
   (fun h0=>fA1 h0),
   (fun h=>fO9_8 h),
   (fun h=>fO10_8 h),
   (fun h=>fO13_8 h),
   (fun h=>fO13_12 h),
   (fun h=>fO11_8 h),
   (fun h=>fO14_8 h)⟩
 ·rintro d a W ⟨u10,u11,u39,u40,u41,u42,u43,u44,u45,u46,u47,u48,u49,u50,k0,lo,hi,g0,g1,hfr,fold,fL0,fC0,fL1,fC1,fL2,fC2,fL3,fC3,fF,fM,fE0,fE1,fB0,fZ0,fS0,fX0,fA1,fO9_8,fO10_8,fO13_8,fO13_12,fO11_8,fO14_8⟩ hi_ hd;simp [Region.binds] at hd;refine Qch ?_
  rw [show a.eval (.tmp 3)=x3_ by rw [hfr,e3];exact ha3]
  exact ⟨u10,u11,u39,u40,u41,u42,u43,u44,u45,x3_,u47,u48,u49,u50,k0,lo,hi,g0,g1,(by rw [hfr];exact Qaj a0 _ _ _ rfl),(fold),
   (fun h0=>fL0 h0),
   (fun h0 h1=>fC0 h0 h1),
   (fun h0=>fL1 h0),
   (fun h0 h1=>fC1 h0 h1),
   (fun h0=>fL2 h0),
   (fun h0 h1=>fC2 h0 h1),
   (fun _=>rfl),
   (fun h0 h1=>fC3 h0 h1),
   (fun h0=>fF h0),
   (fun h0=>fM h0),
   (fun h0=>fE0 h0),
   (fun h0=>fE1 h0),
   (fun h0=>fB0 h0),
   (fun h0 h1=>fZ0 h0 h1),
   (fun h0=>fS0 h0),
   (fun h0 h1=>fX0 h0 h1),
   (fun h0=>fA1 h0),
   (fun h=>fO9_8 h),
   (fun h=>fO10_8 h),
   (fun h=>fO13_8 h),
   (fun h=>fO13_12 h),
   (fun h=>fO11_8 h),
   (fun h=>fO14_8 h)⟩
 ·rintro d a W ⟨u10,u11,u39,u40,u41,u42,u43,u44,u45,u46,u47,u48,u49,u50,k0,lo,hi,g0,g1,hfr,fold,fL0,fC0,fL1,fC1,fL2,fC2,fL3,fC3,fF,fM,fE0,fE1,fB0,fZ0,fS0,fX0,fA1,fO9_8,fO10_8,fO13_8,fO13_12,fO11_8,fO14_8⟩ hi_ hd;simp [Region.binds] at hd;have HD6:d 6=true:=by simp only [hd]
  clear hd;have hv:=fL3 HD6;refine Qaf Tryz.call12 (vs:=#[x3_]) (by simp [hfr,e46,Qap,hv]) (c3 W fold) ?_
  rintro v W' ⟨g,hcr⟩
  exact ⟨u10,u11,u39,u40,u41,u42,u43,u44,u45,u46,v,u48,u49,u50,k0,lo,hi,g0,g1,(by rw [hfr];exact Qaj a0 _ _ _ rfl),(Old.trans fold g),
   (fun h0=>fL0 h0),
   (fun h0 h1=>hCR0 _ _ _ (fC0 h0 h1) g),
   (fun h0=>fL1 h0),
   (fun h0 h1=>hCR1 _ _ _ (fC1 h0 h1) g),
   (fun h0=>fL2 h0),
   (fun h0 h1=>hCR2 _ _ _ (fC2 h0 h1) g),
   (fun h0=>fL3 h0),
   (fun _ _=>hcr),
   (fun h0=>by obtain ⟨e1,e2,e3,z0,y0,e9⟩:=fF h0;exact ⟨e1,e2,Nat.le_trans e3 g.size,z0,y0,far _ _ _ _ _ _ e9 (fun b _ hb=>g.block b (by omega)) g.size⟩),
   (fun h0=>fM h0),
   (fun h0=>fE0 h0),
   (fun h0=>fE1 h0),
   (fun h0=>by obtain ⟨e1,e2,e3⟩:=fB0 h0;exact ⟨e1,e2,Nat.lt_of_lt_of_le e3 g.size⟩),
   (fun h0 h1=>(g.block _ (lt_of_some (fZ0 h0 h1))).trans (fZ0 h0 h1)),
   (fun h0=>(g.block _ (lt_of_some (fS0 h0))).trans (fS0 h0)),
   (fun h0 h1=>fX0 h0 h1),
   (fun h0=>fA1 h0),
   (fun h=>fO9_8 h),
   (fun h=>fO10_8 h),
   (fun h=>fO13_8 h),
   (fun h=>fO13_12 h),
   (fun h=>fO11_8 h),
   (fun h=>fO14_8 h)⟩
 ·rintro d a W ⟨u10,u11,u39,u40,u41,u42,u43,u44,u45,u46,u47,u48,u49,u50,k0,lo,hi,g0,g1,hfr,fold,fL0,fC0,fL1,fC1,fL2,fC2,fL3,fC3,fF,fM,fE0,fE1,fB0,fZ0,fS0,fX0,fA1,fO9_8,fO10_8,fO13_8,fO13_12,fO11_8,fO14_8⟩ hi_ hd;simp [Region.binds] at hd;have HD1:d 1=true:=by simp only [hd]
  have HD3:d 3=true:=by simp only [hd]
  have HD5:d 5=true:=by simp only [hd]
  have HD7:d 7=true:=by simp only [hd]
  clear hd;refine Qaf (R:=fun v w'=>∃(g0:Array Value) (g1:Value),v=.tuple #[.agg g0,g1]/\Old W w'/\g0.size=2/\g0.all (·.oneCell')=true/\RES w' W.heap.size w'.heap.size g0 g1) Tryz.call32 (vs:=#[u41,u43,u45,u47]) (by simp [hfr,e41,e43,e45,e47,Qap]) ((cf W _ _ _ _ fold (fC0 HD1 hi_) (fC1 HD3 hi_) (fC2 HD5 hi_) (fC3 HD7 hi_)).mono (fun e w' h=>by obtain ⟨g0,g1,rfl,h⟩:=h;exact ⟨_,rfl,g0,g1,rfl,h⟩)) ?_
  rintro v W' ⟨r0,r1,rfl,g,z0,y0,hres⟩
  exact ⟨u10,u11,u39,u40,u41,u42,u43,u44,u45,u46,u47,.tuple #[.agg r0,r1],u49,u50,k0,W.heap.size,W'.heap.size,r0,r1,(by rw [hfr];exact Qaj a0 _ _ _ rfl),(Old.trans fold g),
   (fun h0=>fL0 h0),
   (fun h0 h1=>by cases h1),
   (fun h0=>fL1 h0),
   (fun h0 h1=>by cases h1),
   (fun h0=>fL2 h0),
   (fun h0 h1=>by cases h1),
   (fun h0=>fL3 h0),
   (fun h0 h1=>by cases h1),
   (fun _=>⟨rfl,(fold.size),Nat.le_refl _,z0,y0,hres⟩),
   (fun h0=>by have hx_:=fO9_8 h0;rw [hi_] at hx_;cases hx_),
   (fun h0=>by have hx_:=fO10_8 h0;rw [hi_] at hx_;cases hx_),
   (fun h0=>by have hx_:=fO11_8 h0;rw [hi_] at hx_;cases hx_),
   (fun h0=>by obtain ⟨e1,e2,e3⟩:=fB0 h0;exact ⟨e1,e2,Nat.lt_of_lt_of_le e3 g.size⟩),
   (fun h0 h1=>(g.block _ (lt_of_some (fZ0 h0 h1))).trans (fZ0 h0 h1)),
   (fun h0=>by have hx_:=fO13_8 h0;rw [hi_] at hx_;cases hx_),
   (fun hb _=>Or.inl (fB0 hb).2.2),
   (fun h0=>by have hx_:=fO14_8 h0;rw [hi_] at hx_;cases hx_),
   (fun _=>rfl),
   (fun _=>rfl),
   (fun _=>rfl),
   (fun h=>fO13_12 h),
   (fun _=>rfl),
   (fun _=>rfl)⟩
 ·rintro d a W ⟨u10,u11,u39,u40,u41,u42,u43,u44,u45,u46,u47,u48,u49,u50,k0,lo,hi,g0,g1,hfr,fold,fL0,fC0,fL1,fC1,fL2,fC2,fL3,fC3,fF,fM,fE0,fE1,fB0,fZ0,fS0,fX0,fA1,fO9_8,fO10_8,fO13_8,fO13_12,fO11_8,fO14_8⟩ hi_ hd;simp [Region.binds] at hd;have HD8:d 8=true:=by simp only [hd]
  clear hd;have hv:=(fF HD8).1;refine Qch ?_
  rw [show a.eval (.tmp 48)=.tuple #[.agg g0,g1] by rw [hfr,e48];exact hv]
  exact ⟨u10,u11,.tuple #[.agg g0,g1],u40,u41,u42,u43,u44,u45,u46,u47,u48,u49,u50,k0,lo,hi,g0,g1,(by rw [hfr];exact Qaj a0 _ _ _ rfl),(fold),
   (fun h0=>fL0 h0),
   (fun h0 h1=>fC0 h0 h1),
   (fun h0=>fL1 h0),
   (fun h0 h1=>fC1 h0 h1),
   (fun h0=>fL2 h0),
   (fun h0 h1=>fC2 h0 h1),
   (fun h0=>fL3 h0),
   (fun h0 h1=>fC3 h0 h1),
   (fun h0=>fF h0),
   (fun _=>rfl),
   (fun h0=>fE0 h0),
   (fun h0=>fE1 h0),
   (fun h0=>fB0 h0),
   (fun h0 h1=>fZ0 h0 h1),
   (fun h0=>fS0 h0),
   (fun h0 h1=>fX0 h0 h1),
   (fun h0=>fA1 h0),
   (fun _=>HD8),
   (fun h=>fO10_8 h),
   (fun h=>fO13_8 h),
   (fun h=>fO13_12 h),
   (fun h=>fO11_8 h),
   (fun h=>fO14_8 h)⟩
 ·rintro d a W ⟨u10,u11,u39,u40,u41,u42,u43,u44,u45,u46,u47,u48,u49,u50,k0,lo,hi,g0,g1,hfr,fold,fL0,fC0,fL1,fC1,fL2,fC2,fL3,fC3,fF,fM,fE0,fE1,fB0,fZ0,fS0,fX0,fA1,fO9_8,fO10_8,fO13_8,fO13_12,fO11_8,fO14_8⟩ hi_ hd;simp [Region.binds] at hd;have HD9:d 9=true:=by simp only [hd]
  have HD8:d 8=true:=fO9_8 HD9;clear hd;have hv:=fM HD9;refine Qec (by rw [hfr,e39];exact hv) rfl ?_
  exact ⟨u10,u11,u39,u40,u41,u42,u43,u44,u45,u46,u47,u48,.agg g0,u50,k0,lo,hi,g0,g1,(by rw [hfr];exact Qaj a0 _ _ _ rfl),(fold),
   (fun h0=>fL0 h0),
   (fun h0 h1=>fC0 h0 h1),
   (fun h0=>fL1 h0),
   (fun h0 h1=>fC1 h0 h1),
   (fun h0=>fL2 h0),
   (fun h0 h1=>fC2 h0 h1),
   (fun h0=>fL3 h0),
   (fun h0 h1=>fC3 h0 h1),
   (fun h0=>fF h0),
   (fun h0=>fM h0),
   (fun _=>rfl),
   (fun h0=>fE1 h0),
   (fun h0=>fB0 h0),
   (fun h0 h1=>fZ0 h0 h1),
   (fun h0=>fS0 h0),
   (fun h0 h1=>fX0 h0 h1),
   (fun h0=>fA1 h0),
   (fun h=>fO9_8 h),
   (fun _=>HD8),
   (fun h=>fO13_8 h),
   (fun h=>fO13_12 h),
   (fun h=>fO11_8 h),
   (fun h=>fO14_8 h)⟩
 ·rintro d a W ⟨u10,u11,u39,u40,u41,u42,u43,u44,u45,u46,u47,u48,u49,u50,k0,lo,hi,g0,g1,hfr,fold,fL0,fC0,fL1,fC1,fL2,fC2,fL3,fC3,fF,fM,fE0,fE1,fB0,fZ0,fS0,fX0,fA1,fO9_8,fO10_8,fO13_8,fO13_12,fO11_8,fO14_8⟩ hi_ hd;simp [Region.binds] at hd;have HD9:d 9=true:=by simp only [hd]
  have HD8:d 8=true:=fO9_8 HD9;clear hd;have hv:=fM HD9;refine Qec (by rw [hfr,e39];exact hv) rfl ?_
  exact ⟨u10,u11,u39,u40,u41,u42,u43,u44,u45,u46,u47,u48,u49,g1,k0,lo,hi,g0,g1,(by rw [hfr];exact Qaj a0 _ _ _ rfl),(fold),
   (fun h0=>fL0 h0),
   (fun h0 h1=>fC0 h0 h1),
   (fun h0=>fL1 h0),
   (fun h0 h1=>fC1 h0 h1),
   (fun h0=>fL2 h0),
   (fun h0 h1=>fC2 h0 h1),
   (fun h0=>fL3 h0),
   (fun h0 h1=>fC3 h0 h1),
   (fun h0=>fF h0),
   (fun h0=>fM h0),
   (fun h0=>fE0 h0),
   (fun _=>rfl),
   (fun h0=>fB0 h0),
   (fun h0 h1=>fZ0 h0 h1),
   (fun h0=>fS0 h0),
   (fun h0 h1=>fX0 h0 h1),
   (fun h0=>fA1 h0),
   (fun h=>fO9_8 h),
   (fun h=>fO10_8 h),
   (fun h=>fO13_8 h),
   (fun h=>fO13_12 h),
   (fun _=>HD8),
   (fun h=>fO14_8 h)⟩
 ·rintro d a W ⟨u10,u11,u39,u40,u41,u42,u43,u44,u45,u46,u47,u48,u49,u50,k0,lo,hi,g0,g1,hfr,fold,fL0,fC0,fL1,fC1,fL2,fC2,fL3,fC3,fF,fM,fE0,fE1,fB0,fZ0,fS0,fX0,fA1,fO9_8,fO10_8,fO13_8,fO13_12,fO11_8,fO14_8⟩ hi_ hd;simp [Region.binds] at hd;refine Qoc (z:=.agg #[.bool false,.slice none 0 0]) (by kernel_rfl) ?_
  have g:Old W (W.alloc (.cells #[.bool false,.slice none 0 0] 31)):=(Old.refl W).alloc _
  exact ⟨.pointer (some ⟨W.heap.size,0,none⟩),u11,u39,u40,u41,u42,u43,u44,u45,u46,u47,u48,u49,u50,W.heap.size,lo,hi,g0,g1,(by rw [hfr];exact Qaj a0 _ _ _ rfl),(Old.trans fold g),
   (fun h0=>fL0 h0),
   (fun h0 h1=>hCR0 _ _ _ (fC0 h0 h1) g),
   (fun h0=>fL1 h0),
   (fun h0 h1=>hCR1 _ _ _ (fC1 h0 h1) g),
   (fun h0=>fL2 h0),
   (fun h0 h1=>hCR2 _ _ _ (fC2 h0 h1) g),
   (fun h0=>fL3 h0),
   (fun h0 h1=>hCR3 _ _ _ (fC3 h0 h1) g),
   (fun h0=>by obtain ⟨e1,e2,e3,z0,y0,e9⟩:=fF h0;exact ⟨e1,e2,Nat.le_trans e3 g.size,z0,y0,far _ _ _ _ _ _ e9 (fun b _ hb=>g.block b (by omega)) g.size⟩),
   (fun h0=>fM h0),
   (fun h0=>fE0 h0),
   (fun h0=>fE1 h0),
   (fun _=>⟨rfl,fold.size,by simp⟩),
   (fun _ _=>heap_alloc_new W _),
   (fun h0=>by have hx_:=fO13_12 h0;rw [hi_] at hx_;cases hx_),
   (fun _ hf=>Or.inr (fF hf).2.2.1),
   (fun h0=>fA1 h0),
   (fun h=>fO9_8 h),
   (fun h=>fO10_8 h),
   (fun h=>fO13_8 h),
   (fun _=>rfl),
   (fun h=>fO11_8 h),
   (fun h=>fO14_8 h)⟩
 ·rintro d a W ⟨u10,u11,u39,u40,u41,u42,u43,u44,u45,u46,u47,u48,u49,u50,k0,lo,hi,g0,g1,hfr,fold,fL0,fC0,fL1,fC1,fL2,fC2,fL3,fC3,fF,fM,fE0,fE1,fB0,fZ0,fS0,fX0,fA1,fO9_8,fO10_8,fO13_8,fO13_12,fO11_8,fO14_8⟩ hi_ hd;simp [Region.binds] at hd;have HD8:d 8=true:=by simp only [hd]
  have HD10:d 10=true:=by simp only [hd]
  have HD12:d 12=true:=by simp only [hd]
  clear hd;obtain ⟨hp,hlo,hlt⟩:=fB0 HD12;have hv:=fE0 HD10;have hz:=fZ0 HD12 hi_;obtain ⟨eF,lF,hF,z0,y0,rF⟩:=fF HD8;have hx:=fX0 HD12 HD8;refine Qjh (k:=k0) (by rw [hfr,e10];exact hp) (by rw [hfr,e49];exact hv) hz (by rw [z0];kernel_rfl) (by rw [z0];rfl) y0 ?_
  have hsz2:(W.setRow k0 g0).heap.size=W.heap.size:=size_setRow _ _ _;have hot:∀b,b≠k0->(W.setRow k0 g0).heap[b]? = W.heap[b]?:=fun b hb=>Qbu _ _ _ _ hb
  exact ⟨u10,u11,u39,u40,u41,u42,u43,u44,u45,u46,u47,u48,u49,u50,k0,lo,hi,g0,g1,hfr,(Qiq fold hlo _),
   (fun h0=>fL0 h0),
   (fun h0 h1=>by have hx_ : d 8=false:=h1;rw [HD8] at hx_;cases hx_),
   (fun h0=>fL1 h0),
   (fun h0 h1=>by have hx_ : d 8=false:=h1;rw [HD8] at hx_;cases hx_),
   (fun h0=>fL2 h0),
   (fun h0 h1=>by have hx_ : d 8=false:=h1;rw [HD8] at hx_;cases hx_),
   (fun h0=>fL3 h0),
   (fun h0 h1=>by have hx_ : d 8=false:=h1;rw [HD8] at hx_;cases hx_),
   (fun h0=>⟨eF,lF,by rw [hsz2];exact hF,z0,y0,far _ _ _ _ _ _ rF (fun b h1 h2=>hot b (by omega)) (by rw [hsz2];exact Nat.le_refl _)⟩),
   (fun h0=>fM h0),
   (fun h0=>fE0 h0),
   (fun h0=>fE1 h0),
   (fun h0=>⟨hp,hlo,by rw [hsz2];exact hlt⟩),
   (fun h0 h1=>by cases h1),
   (fun _=>Qdu hz),
   (fun h0 h1=>fX0 h0 h1),
   (fun h0=>fA1 h0),
   (fun h=>fO9_8 h),
   (fun h=>fO10_8 h),
   (fun _=>HD8),
   (fun _=>HD12),
   (fun h=>fO11_8 h),
   (fun h=>fO14_8 h)⟩
 ·rintro d a W ⟨u10,u11,u39,u40,u41,u42,u43,u44,u45,u46,u47,u48,u49,u50,k0,lo,hi,g0,g1,hfr,fold,fL0,fC0,fL1,fC1,fL2,fC2,fL3,fC3,fF,fM,fE0,fE1,fB0,fZ0,fS0,fX0,fA1,fO9_8,fO10_8,fO13_8,fO13_12,fO11_8,fO14_8⟩ hi_ hd;simp [Region.binds] at hd;have HD8:d 8=true:=by simp only [hd]
  have HD11:d 11=true:=by simp only [hd]
  clear hd;have hv:=fE1 HD11;refine Qcy ?_
  rw [show a.eval (.tmp 50)=g1 by rw [hfr,e50];exact hv]
  exact ⟨u10,g1,u39,u40,u41,u42,u43,u44,u45,u46,u47,u48,u49,u50,k0,lo,hi,g0,g1,(by rw [hfr];exact Qaj a0 _ _ _ rfl),(fold),
   (fun h0=>fL0 h0),
   (fun h0 h1=>fC0 h0 h1),
   (fun h0=>fL1 h0),
   (fun h0 h1=>fC1 h0 h1),
   (fun h0=>fL2 h0),
   (fun h0 h1=>fC2 h0 h1),
   (fun h0=>fL3 h0),
   (fun h0 h1=>fC3 h0 h1),
   (fun h0=>fF h0),
   (fun h0=>fM h0),
   (fun h0=>fE0 h0),
   (fun h0=>fE1 h0),
   (fun h0=>fB0 h0),
   (fun h0 h1=>fZ0 h0 h1),
   (fun h0=>fS0 h0),
   (fun h0 h1=>fX0 h0 h1),
   (fun _=>rfl),
   (fun h=>fO9_8 h),
   (fun h=>fO10_8 h),
   (fun h=>fO13_8 h),
   (fun h=>fO13_12 h),
   (fun h=>fO11_8 h),
   (fun _=>HD8)⟩
 ·rintro d a W hd ⟨u10,u11,u39,u40,u41,u42,u43,u44,u45,u46,u47,u48,u49,u50,k0,lo,hi,g0,g1,hfr,fold,fL0,fC0,fL1,fC1,fL2,fC2,fL3,fC3,fF,fM,fE0,fE1,fB0,fZ0,fS0,fX0,fA1,fO9_8,fO10_8,fO13_8,fO13_12,fO11_8,fO14_8⟩;have hd2:∀i,i<15→d i=true:=hd
  clear hd;have HD0:d 0=true:=hd2 0 (by omega);have HD1:d 1=true:=hd2 1 (by omega);have HD2:d 2=true:=hd2 2 (by omega);have HD3:d 3=true:=hd2 3 (by omega);have HD4:d 4=true:=hd2 4 (by omega);have HD5:d 5=true:=hd2 5 (by omega);have HD6:d 6=true:=hd2 6 (by omega);have HD7:d 7=true:=hd2 7 (by omega);have HD8:d 8=true:=hd2 8 (by omega);have HD9:d 9=true:=hd2 9 (by omega);have HD10:d 10=true:=hd2 10 (by omega);have HD11:d 11=true:=hd2 11 (by omega);have HD12:d 12=true:=hd2 12 (by omega);have HD13:d 13=true:=hd2 13 (by omega);have HD14:d 14=true:=hd2 14 (by omega);obtain ⟨eF,lF,hF,z0,y0,rF⟩:=fF HD8;obtain ⟨hp0,hlo0,hlt0⟩:=fB0 HD12;rw [hp0] at hfr;have ha_1:=fA1 HD14;rw [ha_1] at hfr
  show K a W
  rw [hfr];exact HK.out k0 lo hi g0 g1 u39 u40 u41 u42 u43 u44 u45 u46 u47 u48 u49 u50 W fold lF hF rF (fS0 HD13) hlo0 hlt0 (fX0 HD12 HD8)
def Qa2 (n:Nat):Code->Option Code
 | .region i ops b=>if i=n then some (.region i ops b) else none
 | .seq a b=>match Qa2 n a with
   | some c=>some c
   | none=>Qa2 n b
 | .block _ c=>Qa2 n c
 | _=>none
theorem Qfo (w2:World) (x0_0 x0_1 x0_2 x0_3:Value) (kb0:Nat) (x1_ : Value) (x2_0 x2_1:Value) (kb2:Nat) (x3_ : Value)
 (CR0:World->Value->Prop) (hCR0:∀W W' v,CR0 W v->Old W W'->CR0 W' v)
 (c0:∀W,Old w2 W->Calls Tryz.prog 11 #[.agg #[x0_0,x0_1,x0_2,x0_3]] W fun e w'=>∃v,e=.returned v/\Old W w'/\CR0 w' v)
 (b0:w2.heap[kb0]? = some (.cells #[x0_0,x0_1,x0_2,x0_3] 24 (0,0)))
 (CR1:World->Value->Prop) (hCR1:∀W W' v,CR1 W v->Old W W'->CR1 W' v)
 (c1:∀W,Old w2 W->Calls Tryz.prog 12 #[x1_] W fun e w'=>∃v,e=.returned v/\Old W w'/\CR1 w' v)
 (CR2:World->Value->Prop) (hCR2:∀W W' v,CR2 W v->Old W W'->CR2 W' v)
 (c2:∀W,Old w2 W->Calls Tryz.prog 33 #[.agg #[x2_0,x2_1]] W fun e w'=>∃v,e=.returned v/\Old W w'/\CR2 w' v)
 (b2:w2.heap[kb2]? = some (.cells #[x2_0,x2_1] 65 (0,0)))
 (CR3:World->Value->Prop) (hCR3:∀W W' v,CR3 W v->Old W W'->CR3 W' v)
 (c3:∀W,Old w2 W->Calls Tryz.prog 12 #[x3_] W fun e w'=>∃v,e=.returned v/\Old W w'/\CR3 w' v)
 (RES:World->Nat->Nat->Array Value->Value->Prop) (far:∀W W' lo hi (g0:Array Value) (g1:Value),RES W lo hi g0 g1->(∀b,lo<=b->b<hi->W'.heap[b]? = W.heap[b]?)->W.heap.size<=W'.heap.size->RES W' lo hi g0 g1)
 (cf:∀W v0 v1 v2 v3,Old w2 W->CR0 W v0->CR1 W v1->CR2 W v2->CR3 W v3->Calls Tryz.prog 34 #[v0,v1,v2,v3] W fun e w'=>∃(g0:Array Value) (g1:Value),e=.returned (.tuple #[.agg g0,g1])/\Old W w'/\g0.size=2/\g0.all (·.oneCell')=true/\RES w' W.heap.size w'.heap.size g0 g1)
 (Q:Exit->Act->World->Prop) (K:Act->World->Prop) (a0:Act) (hsz:161<=a0.tmps.size) (ha1:a0.eval (.tmp 1)=x1_) (ha3:a0.eval (.tmp 3)=x3_) (ha4:a0.eval (.tmp 4)=.pointer (some ⟨kb0,0,none⟩)) (ha6:a0.eval (.tmp 6)=.pointer (some ⟨kb2,0,none⟩))
 (HK:Hid (∀(k0 lo hi:Nat) (g0:Array Value) (g1:Value) (u132 u133 u134 u135 u136 u137 u138 u139 u140 u141 u142 u143:Value) (W:World),Old w2 W->w2.heap.size<=lo->hi<=W.heap.size->RES W lo hi g0 g1->W.heap[k0]? = some (.cells g0 31 (0,0))->w2.heap.size<=k0->k0<W.heap.size->(k0<lo∨hi<=k0)->K (Qah a0 [(21,.pointer (some ⟨k0,0,none⟩)),(22,g1),(132,u132),(133,u133),(134,u134),(135,u135),(136,u136),(137,u137),(138,u138),(139,u139),(140,u140),(141,u141),(142,u142),(143,u143)]) W)) :
 Code.wp Tryz.prog ((Tryz.f6.body.bind (Qa2 43)).getD .skip) (Exit.then K Q) a0 w2:=by
 conv=>arg 2;whnf
 have e1:∀l,(Qah a0 l).eval (.tmp 1)=(Qap l 1).getD (a0.eval (.tmp 1)):=Qaa a0 1 (by omega)
 have e3:∀l,(Qah a0 l).eval (.tmp 3)=(Qap l 3).getD (a0.eval (.tmp 3)):=Qaa a0 3 (by omega)
 have e4:∀l,(Qah a0 l).eval (.tmp 4)=(Qap l 4).getD (a0.eval (.tmp 4)):=Qaa a0 4 (by omega)
 have e6:∀l,(Qah a0 l).eval (.tmp 6)=(Qap l 6).getD (a0.eval (.tmp 6)):=Qaa a0 6 (by omega)
 have e21:∀l,(Qah a0 l).eval (.tmp 21)=(Qap l 21).getD (a0.eval (.tmp 21)):=Qaa a0 21 (by omega)
 have e22:∀l,(Qah a0 l).eval (.tmp 22)=(Qap l 22).getD (a0.eval (.tmp 22)):=Qaa a0 22 (by omega)
 have e132:∀l,(Qah a0 l).eval (.tmp 132)=(Qap l 132).getD (a0.eval (.tmp 132)):=Qaa a0 132 (by omega)
 have e133:∀l,(Qah a0 l).eval (.tmp 133)=(Qap l 133).getD (a0.eval (.tmp 133)):=Qaa a0 133 (by omega)
 have e134:∀l,(Qah a0 l).eval (.tmp 134)=(Qap l 134).getD (a0.eval (.tmp 134)):=Qaa a0 134 (by omega)
 have e135:∀l,(Qah a0 l).eval (.tmp 135)=(Qap l 135).getD (a0.eval (.tmp 135)):=Qaa a0 135 (by omega)
 have e136:∀l,(Qah a0 l).eval (.tmp 136)=(Qap l 136).getD (a0.eval (.tmp 136)):=Qaa a0 136 (by omega)
 have e137:∀l,(Qah a0 l).eval (.tmp 137)=(Qap l 137).getD (a0.eval (.tmp 137)):=Qaa a0 137 (by omega)
 have e138:∀l,(Qah a0 l).eval (.tmp 138)=(Qap l 138).getD (a0.eval (.tmp 138)):=Qaa a0 138 (by omega)
 have e139:∀l,(Qah a0 l).eval (.tmp 139)=(Qap l 139).getD (a0.eval (.tmp 139)):=Qaa a0 139 (by omega)
 have e140:∀l,(Qah a0 l).eval (.tmp 140)=(Qap l 140).getD (a0.eval (.tmp 140)):=Qaa a0 140 (by omega)
 have e141:∀l,(Qah a0 l).eval (.tmp 141)=(Qap l 141).getD (a0.eval (.tmp 141)):=Qaa a0 141 (by omega)
 have e142:∀l,(Qah a0 l).eval (.tmp 142)=(Qap l 142).getD (a0.eval (.tmp 142)):=Qaa a0 142 (by omega)
 have e143:∀l,(Qah a0 l).eval (.tmp 143)=(Qap l 143).getD (a0.eval (.tmp 143)):=Qaa a0 143 (by omega)
 refine Qb6 (fun d a W=>∃(u21 u22 u132 u133 u134 u135 u136 u137 u138 u139 u140 u141 u142 u143:Value) (k0 lo hi:Nat) (g0:Array Value) (g1:Value),a=(Qah a0 [(21,u21),(22,u22),(132,u132),(133,u133),(134,u134),(135,u135),(136,u136),(137,u137),(138,u138),(139,u139),(140,u140),(141,u141),(142,u142),(143,u143)])/\(Old w2 W)/\(d 0=true->u133=.agg #[x0_0,x0_1,x0_2,x0_3])/\(d 1=true->d 8=false->CR0 W u134)/\(d 2=true->u135=x1_)/\(d 3=true->d 8=false->CR1 W u136)/\(d 4=true->u137=.agg #[x2_0,x2_1])/\(d 5=true->d 8=false->CR2 W u138)/\(d 6=true->u139=x3_)/\(d 7=true->d 8=false->CR3 W u140)/\(d 8=true->u141=.tuple #[.agg g0,g1]/\w2.heap.size<=lo/\hi<=W.heap.size/\g0.size=2/\g0.all (·.oneCell')=true/\RES W lo hi g0 g1)/\(d 9=true->u132=.tuple #[.agg g0,g1])/\(d 10=true->u142=.agg g0)/\(d 11=true->u143=g1)/\(d 12=true->u21=.pointer (some ⟨k0,0,none⟩)/\w2.heap.size<=k0/\k0<W.heap.size)/\(d 12=true->d 13=false->W.heap[k0]? = some (.cells #[.bool false,.slice none 0 0] 31 (0,0)))/\(d 13=true->W.heap[k0]? = some (.cells g0 31 (0,0)))/\(d 12=true->d 8=true->(k0<lo∨hi<=k0))/\(d 14=true->u22=g1)/\(d 9=true->d 8=true)/\(d 10=true->d 8=true)/\(d 13=true->d 8=true)/\(d 13=true->d 12=true)/\(d 11=true->d 8=true)/\(d 14=true->d 8=true)) rfl (by decide +kernel) (by decide +kernel) ?_ ⟨?_,?_,?_,?_,?_,?_,?_,?_,?_,?_,?_,?_,?_,?_,?_,trivial⟩ ?_
 ·exact ⟨_,_,_,_,_,_,_,_,_,_,_,_,_,_,0,0,0,#[],undef,(Qep a0 [21,22,132,133,134,135,136,137,138,139,140,141,142,143] (by intro s hs;simp at hs;omega)).symm,Below.drew (Old.refl w2),(fun h=>by cases h),(fun h=>by cases h),(fun h=>by cases h),(fun h=>by cases h),(fun h=>by cases h),(fun h=>by cases h),(fun h=>by cases h),(fun h=>by cases h),(fun h=>by cases h),(fun h=>by cases h),(fun h=>by cases h),(fun h=>by cases h),(fun h=>by cases h),(fun h=>by cases h),(fun h=>by cases h),(fun h=>by cases h),(fun h=>by cases h),(fun h=>by cases h),(fun h=>by cases h),(fun h=>by cases h),(fun h=>by cases h),(fun h=>by cases h),(fun h=>by cases h)⟩
 ·rintro d a W ⟨u21,u22,u132,u133,u134,u135,u136,u137,u138,u139,u140,u141,u142,u143,k0,lo,hi,g0,g1,hfr,fold,fL0,fC0,fL1,fC1,fL2,fC2,fL3,fC3,fF,fM,fE0,fE1,fB0,fZ0,fS0,fX0,fA1,fO9_8,fO10_8,fO13_8,fO13_12,fO11_8,fO14_8⟩ hi_ hd;simp [Region.binds] at hd;refine Qb7 (k:=kb0) (by rw [hfr,e4];exact ha4) (fold.block _ (lt_of_some b0) |>.trans b0) Tryz.underlying24 rfl (by kernel_rfl) ?_
  exact ⟨u21,u22,u132,.agg #[x0_0,x0_1,x0_2,x0_3],u134,u135,u136,u137,u138,u139,u140,u141,u142,u143,k0,lo,hi,g0,g1,(by rw [hfr];exact Qaj a0 _ _ _ rfl),(fold),
   (fun _=>rfl),
   (fun h0 h1=>fC0 h0 h1),
   (fun h0=>fL1 h0),
   (fun h0 h1=>fC1 h0 h1),
   (fun h0=>fL2 h0),
   (fun h0 h1=>fC2 h0 h1),
   (fun h0=>fL3 h0),
   (fun h0 h1=>fC3 h0 h1),
   (fun h0=>fF h0),
   (fun h0=>fM h0),
   (fun h0=>fE0 h0),
   (fun h0=>fE1 h0),
   (fun h0=>fB0 h0),
   (fun h0 h1=>fZ0 h0 h1),
   (fun h0=>fS0 h0),
   (fun h0 h1=>fX0 h0 h1),
   (fun h0=>fA1 h0),
   (fun h=>fO9_8 h),
   (fun h=>fO10_8 h),
   (fun h=>fO13_8 h),
   (fun h=>fO13_12 h),
   (fun h=>fO11_8 h),
   (fun h=>fO14_8 h)⟩
 ·rintro d a W ⟨u21,u22,u132,u133,u134,u135,u136,u137,u138,u139,u140,u141,u142,u143,k0,lo,hi,g0,g1,hfr,fold,fL0,fC0,fL1,fC1,fL2,fC2,fL3,fC3,fF,fM,fE0,fE1,fB0,fZ0,fS0,fX0,fA1,fO9_8,fO10_8,fO13_8,fO13_12,fO11_8,fO14_8⟩ hi_ hd;simp [Region.binds] at hd;have HD0:d 0=true:=by simp only [hd]
  clear hd;have hv:=fL0 HD0;refine Qaf Tryz.call11 (vs:=#[.agg #[x0_0,x0_1,x0_2,x0_3]]) (by simp [hfr,e133,Qap,hv]) (c0 W fold) ?_
  rintro v W' ⟨g,hcr⟩
  exact ⟨u21,u22,u132,u133,v,u135,u136,u137,u138,u139,u140,u141,u142,u143,k0,lo,hi,g0,g1,(by rw [hfr];exact Qaj a0 _ _ _ rfl),(Old.trans fold g),
   (fun h0=>fL0 h0),
   (fun _ _=>hcr),
   (fun h0=>fL1 h0),
   (fun h0 h1=>hCR1 _ _ _ (fC1 h0 h1) g),
   (fun h0=>fL2 h0),
   (fun h0 h1=>hCR2 _ _ _ (fC2 h0 h1) g),
   (fun h0=>fL3 h0),
   (fun h0 h1=>hCR3 _ _ _ (fC3 h0 h1) g),
   (fun h0=>by obtain ⟨e1,e2,e3,z0,y0,e9⟩:=fF h0;exact ⟨e1,e2,Nat.le_trans e3 g.size,z0,y0,far _ _ _ _ _ _ e9 (fun b _ hb=>g.block b (by omega)) g.size⟩),
   (fun h0=>fM h0),
   (fun h0=>fE0 h0),
   (fun h0=>fE1 h0),
   (fun h0=>by obtain ⟨e1,e2,e3⟩:=fB0 h0;exact ⟨e1,e2,Nat.lt_of_lt_of_le e3 g.size⟩),
   (fun h0 h1=>(g.block _ (lt_of_some (fZ0 h0 h1))).trans (fZ0 h0 h1)),
   (fun h0=>(g.block _ (lt_of_some (fS0 h0))).trans (fS0 h0)),
   (fun h0 h1=>fX0 h0 h1),
   (fun h0=>fA1 h0),
   (fun h=>fO9_8 h),
   (fun h=>fO10_8 h),
   (fun h=>fO13_8 h),
   (fun h=>fO13_12 h),
   (fun h=>fO11_8 h),
   (fun h=>fO14_8 h)⟩
 ·rintro d a W ⟨u21,u22,u132,u133,u134,u135,u136,u137,u138,u139,u140,u141,u142,u143,k0,lo,hi,g0,g1,hfr,fold,fL0,fC0,fL1,fC1,fL2,fC2,fL3,fC3,fF,fM,fE0,fE1,fB0,fZ0,fS0,fX0,fA1,fO9_8,fO10_8,fO13_8,fO13_12,fO11_8,fO14_8⟩ hi_ hd;simp [Region.binds] at hd;refine Qch ?_
  rw [show a.eval (.tmp 1)=x1_ by rw [hfr,e1];exact ha1]
  exact ⟨u21,u22,u132,u133,u134,x1_,u136,u137,u138,u139,u140,u141,u142,u143,k0,lo,hi,g0,g1,(by rw [hfr];exact Qaj a0 _ _ _ rfl),(fold),
   (fun h0=>fL0 h0),
   (fun h0 h1=>fC0 h0 h1),
   (fun _=>rfl),
   (fun h0 h1=>fC1 h0 h1),
   (fun h0=>fL2 h0),
   (fun h0 h1=>fC2 h0 h1),
   (fun h0=>fL3 h0),
   (fun h0 h1=>fC3 h0 h1),
   (fun h0=>fF h0),
   (fun h0=>fM h0),
   (fun h0=>fE0 h0),
   (fun h0=>fE1 h0),
   (fun h0=>fB0 h0),
   (fun h0 h1=>fZ0 h0 h1),
   (fun h0=>fS0 h0),
   (fun h0 h1=>fX0 h0 h1),
   (fun h0=>fA1 h0),
   (fun h=>fO9_8 h),
   (fun h=>fO10_8 h),
   (fun h=>fO13_8 h),
   (fun h=>fO13_12 h),
   (fun h=>fO11_8 h),
   (fun h=>fO14_8 h)⟩
 ·rintro d a W ⟨u21,u22,u132,u133,u134,u135,u136,u137,u138,u139,u140,u141,u142,u143,k0,lo,hi,g0,g1,hfr,fold,fL0,fC0,fL1,fC1,fL2,fC2,fL3,fC3,fF,fM,fE0,fE1,fB0,fZ0,fS0,fX0,fA1,fO9_8,fO10_8,fO13_8,fO13_12,fO11_8,fO14_8⟩ hi_ hd;simp [Region.binds] at hd;have HD2:d 2=true:=by simp only [hd]
  clear hd;have hv:=fL1 HD2;refine Qaf Tryz.call12 (vs:=#[x1_]) (by simp [hfr,e135,Qap,hv]) (c1 W fold) ?_
  rintro v W' ⟨g,hcr⟩
  exact ⟨u21,u22,u132,u133,u134,u135,v,u137,u138,u139,u140,u141,u142,u143,k0,lo,hi,g0,g1,(by rw [hfr];exact Qaj a0 _ _ _ rfl),(Old.trans fold g),
   (fun h0=>fL0 h0),
   (fun h0 h1=>hCR0 _ _ _ (fC0 h0 h1) g),
   (fun h0=>fL1 h0),
   (fun _ _=>hcr),
   (fun h0=>fL2 h0),
   (fun h0 h1=>hCR2 _ _ _ (fC2 h0 h1) g),
   (fun h0=>fL3 h0),
   (fun h0 h1=>hCR3 _ _ _ (fC3 h0 h1) g),
   (fun h0=>by obtain ⟨e1,e2,e3,z0,y0,e9⟩:=fF h0;exact ⟨e1,e2,Nat.le_trans e3 g.size,z0,y0,far _ _ _ _ _ _ e9 (fun b _ hb=>g.block b (by omega)) g.size⟩),
   (fun h0=>fM h0),
   (fun h0=>fE0 h0),
   (fun h0=>fE1 h0),
   (fun h0=>by obtain ⟨e1,e2,e3⟩:=fB0 h0;exact ⟨e1,e2,Nat.lt_of_lt_of_le e3 g.size⟩),
   (fun h0 h1=>(g.block _ (lt_of_some (fZ0 h0 h1))).trans (fZ0 h0 h1)),
   (fun h0=>(g.block _ (lt_of_some (fS0 h0))).trans (fS0 h0)),
   (fun h0 h1=>fX0 h0 h1),
   (fun h0=>fA1 h0),
   (fun h=>fO9_8 h),
   (fun h=>fO10_8 h),
   (fun h=>fO13_8 h),
   (fun h=>fO13_12 h),
   (fun h=>fO11_8 h),
   (fun h=>fO14_8 h)⟩
 ·rintro d a W ⟨u21,u22,u132,u133,u134,u135,u136,u137,u138,u139,u140,u141,u142,u143,k0,lo,hi,g0,g1,hfr,fold,fL0,fC0,fL1,fC1,fL2,fC2,fL3,fC3,fF,fM,fE0,fE1,fB0,fZ0,fS0,fX0,fA1,fO9_8,fO10_8,fO13_8,fO13_12,fO11_8,fO14_8⟩ hi_ hd;simp [Region.binds] at hd;refine Qb7 (k:=kb2) (by rw [hfr,e6];exact ha6) (fold.block _ (lt_of_some b2) |>.trans b2) Tryz.underlying65 rfl (by kernel_rfl) ?_
  exact ⟨u21,u22,u132,u133,u134,u135,u136,.agg #[x2_0,x2_1],u138,u139,u140,u141,u142,u143,k0,lo,hi,g0,g1,(by rw [hfr];exact Qaj a0 _ _ _ rfl),(fold),
   (fun h0=>fL0 h0),
   (fun h0 h1=>fC0 h0 h1),
   (fun h0=>fL1 h0),
   (fun h0 h1=>fC1 h0 h1),
   (fun _=>rfl),
   (fun h0 h1=>fC2 h0 h1),
   (fun h0=>fL3 h0),
   (fun h0 h1=>fC3 h0 h1),
   (fun h0=>fF h0),
   (fun h0=>fM h0),
   (fun h0=>fE0 h0),
   (fun h0=>fE1 h0),
   (fun h0=>fB0 h0),
   (fun h0 h1=>fZ0 h0 h1),
   (fun h0=>fS0 h0),
   (fun h0 h1=>fX0 h0 h1),
   (fun h0=>fA1 h0),
   (fun h=>fO9_8 h),
   (fun h=>fO10_8 h),
   (fun h=>fO13_8 h),
   (fun h=>fO13_12 h),
   (fun h=>fO11_8 h),
   (fun h=>fO14_8 h)⟩
 ·rintro d a W ⟨u21,u22,u132,u133,u134,u135,u136,u137,u138,u139,u140,u141,u142,u143,k0,lo,hi,g0,g1,hfr,fold,fL0,fC0,fL1,fC1,fL2,fC2,fL3,fC3,fF,fM,fE0,fE1,fB0,fZ0,fS0,fX0,fA1,fO9_8,fO10_8,fO13_8,fO13_12,fO11_8,fO14_8⟩ hi_ hd;simp [Region.binds] at hd;have HD4:d 4=true:=by simp only [hd]
  clear hd;have hv:=fL2 HD4;refine Qaf Tryz.call33 (vs:=#[.agg #[x2_0,x2_1]]) (by simp [hfr,e137,Qap,hv]) (c2 W fold) ?_
  rintro v W' ⟨g,hcr⟩
  exact ⟨u21,u22,u132,u133,u134,u135,u136,u137,v,u139,u140,u141,u142,u143,k0,lo,hi,g0,g1,(by rw [hfr];exact Qaj a0 _ _ _ rfl),(Old.trans fold g),
   (fun h0=>fL0 h0),
   (fun h0 h1=>hCR0 _ _ _ (fC0 h0 h1) g),
   (fun h0=>fL1 h0),
   (fun h0 h1=>hCR1 _ _ _ (fC1 h0 h1) g),
   (fun h0=>fL2 h0),
   (fun _ _=>hcr),
   (fun h0=>fL3 h0),
   (fun h0 h1=>hCR3 _ _ _ (fC3 h0 h1) g),
   (fun h0=>by obtain ⟨e1,e2,e3,z0,y0,e9⟩:=fF h0;exact ⟨e1,e2,Nat.le_trans e3 g.size,z0,y0,far _ _ _ _ _ _ e9 (fun b _ hb=>g.block b (by omega)) g.size⟩),
   (fun h0=>fM h0),
   (fun h0=>fE0 h0),
   (fun h0=>fE1 h0),
   (fun h0=>by obtain ⟨e1,e2,e3⟩:=fB0 h0;exact ⟨e1,e2,Nat.lt_of_lt_of_le e3 g.size⟩),
   (fun h0 h1=>(g.block _ (lt_of_some (fZ0 h0 h1))).trans (fZ0 h0 h1)),
   (fun h0=>(g.block _ (lt_of_some (fS0 h0))).trans (fS0 h0)),
   (fun h0 h1=>fX0 h0 h1),
   (fun h0=>fA1 h0),
   (fun h=>fO9_8 h),
   (fun h=>fO10_8 h),
   (fun h=>fO13_8 h),
   (fun h=>fO13_12 h),
   (fun h=>fO11_8 h),
   (fun h=>fO14_8 h)⟩
 ·rintro d a W ⟨u21,u22,u132,u133,u134,u135,u136,u137,u138,u139,u140,u141,u142,u143,k0,lo,hi,g0,g1,hfr,fold,fL0,fC0,fL1,fC1,fL2,fC2,fL3,fC3,fF,fM,fE0,fE1,fB0,fZ0,fS0,fX0,fA1,fO9_8,fO10_8,fO13_8,fO13_12,fO11_8,fO14_8⟩ hi_ hd;simp [Region.binds] at hd;refine Qch ?_
  rw [show a.eval (.tmp 3)=x3_ by rw [hfr,e3];exact ha3]
  exact ⟨u21,u22,u132,u133,u134,u135,u136,u137,u138,x3_,u140,u141,u142,u143,k0,lo,hi,g0,g1,(by rw [hfr];exact Qaj a0 _ _ _ rfl),(fold),
   (fun h0=>fL0 h0),
   (fun h0 h1=>fC0 h0 h1),
   (fun h0=>fL1 h0),
   (fun h0 h1=>fC1 h0 h1),
   (fun h0=>fL2 h0),
   (fun h0 h1=>fC2 h0 h1),
   (fun _=>rfl),
   (fun h0 h1=>fC3 h0 h1),
   (fun h0=>fF h0),
   (fun h0=>fM h0),
   (fun h0=>fE0 h0),
   (fun h0=>fE1 h0),
   (fun h0=>fB0 h0),
   (fun h0 h1=>fZ0 h0 h1),
   (fun h0=>fS0 h0),
   (fun h0 h1=>fX0 h0 h1),
   (fun h0=>fA1 h0),
   (fun h=>fO9_8 h),
   (fun h=>fO10_8 h),
   (fun h=>fO13_8 h),
   (fun h=>fO13_12 h),
   (fun h=>fO11_8 h),
   (fun h=>fO14_8 h)⟩
 ·rintro d a W ⟨u21,u22,u132,u133,u134,u135,u136,u137,u138,u139,u140,u141,u142,u143,k0,lo,hi,g0,g1,hfr,fold,fL0,fC0,fL1,fC1,fL2,fC2,fL3,fC3,fF,fM,fE0,fE1,fB0,fZ0,fS0,fX0,fA1,fO9_8,fO10_8,fO13_8,fO13_12,fO11_8,fO14_8⟩ hi_ hd;simp [Region.binds] at hd;have HD6:d 6=true:=by simp only [hd]
  clear hd;have hv:=fL3 HD6;refine Qaf Tryz.call12 (vs:=#[x3_]) (by simp [hfr,e139,Qap,hv]) (c3 W fold) ?_
  rintro v W' ⟨g,hcr⟩
  exact ⟨u21,u22,u132,u133,u134,u135,u136,u137,u138,u139,v,u141,u142,u143,k0,lo,hi,g0,g1,(by rw [hfr];exact Qaj a0 _ _ _ rfl),(Old.trans fold g),
   (fun h0=>fL0 h0),
   (fun h0 h1=>hCR0 _ _ _ (fC0 h0 h1) g),
   (fun h0=>fL1 h0),
   (fun h0 h1=>hCR1 _ _ _ (fC1 h0 h1) g),
   (fun h0=>fL2 h0),
   (fun h0 h1=>hCR2 _ _ _ (fC2 h0 h1) g),
   (fun h0=>fL3 h0),
   (fun _ _=>hcr),
   (fun h0=>by obtain ⟨e1,e2,e3,z0,y0,e9⟩:=fF h0;exact ⟨e1,e2,Nat.le_trans e3 g.size,z0,y0,far _ _ _ _ _ _ e9 (fun b _ hb=>g.block b (by omega)) g.size⟩),
   (fun h0=>fM h0),
   (fun h0=>fE0 h0),
   (fun h0=>fE1 h0),
   (fun h0=>by obtain ⟨e1,e2,e3⟩:=fB0 h0;exact ⟨e1,e2,Nat.lt_of_lt_of_le e3 g.size⟩),
   (fun h0 h1=>(g.block _ (lt_of_some (fZ0 h0 h1))).trans (fZ0 h0 h1)),
   (fun h0=>(g.block _ (lt_of_some (fS0 h0))).trans (fS0 h0)),
   (fun h0 h1=>fX0 h0 h1),
   (fun h0=>fA1 h0),
   (fun h=>fO9_8 h),
   (fun h=>fO10_8 h),
   (fun h=>fO13_8 h),
   (fun h=>fO13_12 h),
   (fun h=>fO11_8 h),
   (fun h=>fO14_8 h)⟩
 ·rintro d a W ⟨u21,u22,u132,u133,u134,u135,u136,u137,u138,u139,u140,u141,u142,u143,k0,lo,hi,g0,g1,hfr,fold,fL0,fC0,fL1,fC1,fL2,fC2,fL3,fC3,fF,fM,fE0,fE1,fB0,fZ0,fS0,fX0,fA1,fO9_8,fO10_8,fO13_8,fO13_12,fO11_8,fO14_8⟩ hi_ hd;simp [Region.binds] at hd;have HD1:d 1=true:=by simp only [hd]
  have HD3:d 3=true:=by simp only [hd]
  have HD5:d 5=true:=by simp only [hd]
  have HD7:d 7=true:=by simp only [hd]
  clear hd;refine Qaf (R:=fun v w'=>∃(g0:Array Value) (g1:Value),v=.tuple #[.agg g0,g1]/\Old W w'/\g0.size=2/\g0.all (·.oneCell')=true/\RES w' W.heap.size w'.heap.size g0 g1) Tryz.call34 (vs:=#[u134,u136,u138,u140]) (by simp [hfr,e134,e136,e138,e140,Qap]) ((cf W _ _ _ _ fold (fC0 HD1 hi_) (fC1 HD3 hi_) (fC2 HD5 hi_) (fC3 HD7 hi_)).mono (fun e w' h=>by obtain ⟨g0,g1,rfl,h⟩:=h;exact ⟨_,rfl,g0,g1,rfl,h⟩)) ?_
  rintro v W' ⟨r0,r1,rfl,g,z0,y0,hres⟩
  exact ⟨u21,u22,u132,u133,u134,u135,u136,u137,u138,u139,u140,.tuple #[.agg r0,r1],u142,u143,k0,W.heap.size,W'.heap.size,r0,r1,(by rw [hfr];exact Qaj a0 _ _ _ rfl),(Old.trans fold g),
   (fun h0=>fL0 h0),
   (fun h0 h1=>by cases h1),
   (fun h0=>fL1 h0),
   (fun h0 h1=>by cases h1),
   (fun h0=>fL2 h0),
   (fun h0 h1=>by cases h1),
   (fun h0=>fL3 h0),
   (fun h0 h1=>by cases h1),
   (fun _=>⟨rfl,(fold.size),Nat.le_refl _,z0,y0,hres⟩),
   (fun h0=>by have hx_:=fO9_8 h0;rw [hi_] at hx_;cases hx_),
   (fun h0=>by have hx_:=fO10_8 h0;rw [hi_] at hx_;cases hx_),
   (fun h0=>by have hx_:=fO11_8 h0;rw [hi_] at hx_;cases hx_),
   (fun h0=>by obtain ⟨e1,e2,e3⟩:=fB0 h0;exact ⟨e1,e2,Nat.lt_of_lt_of_le e3 g.size⟩),
   (fun h0 h1=>(g.block _ (lt_of_some (fZ0 h0 h1))).trans (fZ0 h0 h1)),
   (fun h0=>by have hx_:=fO13_8 h0;rw [hi_] at hx_;cases hx_),
   (fun hb _=>Or.inl (fB0 hb).2.2),
   (fun h0=>by have hx_:=fO14_8 h0;rw [hi_] at hx_;cases hx_),
   (fun _=>rfl),
   (fun _=>rfl),
   (fun _=>rfl),
   (fun h=>fO13_12 h),
   (fun _=>rfl),
   (fun _=>rfl)⟩
 ·rintro d a W ⟨u21,u22,u132,u133,u134,u135,u136,u137,u138,u139,u140,u141,u142,u143,k0,lo,hi,g0,g1,hfr,fold,fL0,fC0,fL1,fC1,fL2,fC2,fL3,fC3,fF,fM,fE0,fE1,fB0,fZ0,fS0,fX0,fA1,fO9_8,fO10_8,fO13_8,fO13_12,fO11_8,fO14_8⟩ hi_ hd;simp [Region.binds] at hd;have HD8:d 8=true:=by simp only [hd]
  clear hd;have hv:=(fF HD8).1;refine Qch ?_
  rw [show a.eval (.tmp 141)=.tuple #[.agg g0,g1] by rw [hfr,e141];exact hv]
  exact ⟨u21,u22,.tuple #[.agg g0,g1],u133,u134,u135,u136,u137,u138,u139,u140,u141,u142,u143,k0,lo,hi,g0,g1,(by rw [hfr];exact Qaj a0 _ _ _ rfl),(fold),
   (fun h0=>fL0 h0),
   (fun h0 h1=>fC0 h0 h1),
   (fun h0=>fL1 h0),
   (fun h0 h1=>fC1 h0 h1),
   (fun h0=>fL2 h0),
   (fun h0 h1=>fC2 h0 h1),
   (fun h0=>fL3 h0),
   (fun h0 h1=>fC3 h0 h1),
   (fun h0=>fF h0),
   (fun _=>rfl),
   (fun h0=>fE0 h0),
   (fun h0=>fE1 h0),
   (fun h0=>fB0 h0),
   (fun h0 h1=>fZ0 h0 h1),
   (fun h0=>fS0 h0),
   (fun h0 h1=>fX0 h0 h1),
   (fun h0=>fA1 h0),
   (fun _=>HD8),
   (fun h=>fO10_8 h),
   (fun h=>fO13_8 h),
   (fun h=>fO13_12 h),
   (fun h=>fO11_8 h),
   (fun h=>fO14_8 h)⟩
 ·rintro d a W ⟨u21,u22,u132,u133,u134,u135,u136,u137,u138,u139,u140,u141,u142,u143,k0,lo,hi,g0,g1,hfr,fold,fL0,fC0,fL1,fC1,fL2,fC2,fL3,fC3,fF,fM,fE0,fE1,fB0,fZ0,fS0,fX0,fA1,fO9_8,fO10_8,fO13_8,fO13_12,fO11_8,fO14_8⟩ hi_ hd;simp [Region.binds] at hd;have HD9:d 9=true:=by simp only [hd]
  have HD8:d 8=true:=fO9_8 HD9;clear hd;have hv:=fM HD9;refine Qec (by rw [hfr,e132];exact hv) rfl ?_
  exact ⟨u21,u22,u132,u133,u134,u135,u136,u137,u138,u139,u140,u141,.agg g0,u143,k0,lo,hi,g0,g1,(by rw [hfr];exact Qaj a0 _ _ _ rfl),(fold),
   (fun h0=>fL0 h0),
   (fun h0 h1=>fC0 h0 h1),
   (fun h0=>fL1 h0),
   (fun h0 h1=>fC1 h0 h1),
   (fun h0=>fL2 h0),
   (fun h0 h1=>fC2 h0 h1),
   (fun h0=>fL3 h0),
   (fun h0 h1=>fC3 h0 h1),
   (fun h0=>fF h0),
   (fun h0=>fM h0),
   (fun _=>rfl),
   (fun h0=>fE1 h0),
   (fun h0=>fB0 h0),
   (fun h0 h1=>fZ0 h0 h1),
   (fun h0=>fS0 h0),
   (fun h0 h1=>fX0 h0 h1),
   (fun h0=>fA1 h0),
   (fun h=>fO9_8 h),
   (fun _=>HD8),
   (fun h=>fO13_8 h),
   (fun h=>fO13_12 h),
   (fun h=>fO11_8 h),
   (fun h=>fO14_8 h)⟩
 ·rintro d a W ⟨u21,u22,u132,u133,u134,u135,u136,u137,u138,u139,u140,u141,u142,u143,k0,lo,hi,g0,g1,hfr,fold,fL0,fC0,fL1,fC1,fL2,fC2,fL3,fC3,fF,fM,fE0,fE1,fB0,fZ0,fS0,fX0,fA1,fO9_8,fO10_8,fO13_8,fO13_12,fO11_8,fO14_8⟩ hi_ hd;simp [Region.binds] at hd;have HD9:d 9=true:=by simp only [hd]
  have HD8:d 8=true:=fO9_8 HD9;clear hd;have hv:=fM HD9;refine Qec (by rw [hfr,e132];exact hv) rfl ?_
  exact ⟨u21,u22,u132,u133,u134,u135,u136,u137,u138,u139,u140,u141,u142,g1,k0,lo,hi,g0,g1,(by rw [hfr];exact Qaj a0 _ _ _ rfl),(fold),
   (fun h0=>fL0 h0),
   (fun h0 h1=>fC0 h0 h1),
   (fun h0=>fL1 h0),
   (fun h0 h1=>fC1 h0 h1),
   (fun h0=>fL2 h0),
   (fun h0 h1=>fC2 h0 h1),
   (fun h0=>fL3 h0),
   (fun h0 h1=>fC3 h0 h1),
   (fun h0=>fF h0),
   (fun h0=>fM h0),
   (fun h0=>fE0 h0),
   (fun _=>rfl),
   (fun h0=>fB0 h0),
   (fun h0 h1=>fZ0 h0 h1),
   (fun h0=>fS0 h0),
   (fun h0 h1=>fX0 h0 h1),
   (fun h0=>fA1 h0),
   (fun h=>fO9_8 h),
   (fun h=>fO10_8 h),
   (fun h=>fO13_8 h),
   (fun h=>fO13_12 h),
   (fun _=>HD8),
   (fun h=>fO14_8 h)⟩
 ·rintro d a W ⟨u21,u22,u132,u133,u134,u135,u136,u137,u138,u139,u140,u141,u142,u143,k0,lo,hi,g0,g1,hfr,fold,fL0,fC0,fL1,fC1,fL2,fC2,fL3,fC3,fF,fM,fE0,fE1,fB0,fZ0,fS0,fX0,fA1,fO9_8,fO10_8,fO13_8,fO13_12,fO11_8,fO14_8⟩ hi_ hd;simp [Region.binds] at hd;refine Qoc (z:=.agg #[.bool false,.slice none 0 0]) (by kernel_rfl) ?_
  have g:Old W (W.alloc (.cells #[.bool false,.slice none 0 0] 31)):=(Old.refl W).alloc _
  exact ⟨.pointer (some ⟨W.heap.size,0,none⟩),u22,u132,u133,u134,u135,u136,u137,u138,u139,u140,u141,u142,u143,W.heap.size,lo,hi,g0,g1,(by rw [hfr];exact Qaj a0 _ _ _ rfl),(Old.trans fold g),
   (fun h0=>fL0 h0),
   (fun h0 h1=>hCR0 _ _ _ (fC0 h0 h1) g),
   (fun h0=>fL1 h0),
   (fun h0 h1=>hCR1 _ _ _ (fC1 h0 h1) g),
   (fun h0=>fL2 h0),
   (fun h0 h1=>hCR2 _ _ _ (fC2 h0 h1) g),
   (fun h0=>fL3 h0),
   (fun h0 h1=>hCR3 _ _ _ (fC3 h0 h1) g),
   (fun h0=>by obtain ⟨e1,e2,e3,z0,y0,e9⟩:=fF h0;exact ⟨e1,e2,Nat.le_trans e3 g.size,z0,y0,far _ _ _ _ _ _ e9 (fun b _ hb=>g.block b (by omega)) g.size⟩),
   (fun h0=>fM h0),
   (fun h0=>fE0 h0),
   (fun h0=>fE1 h0),
   (fun _=>⟨rfl,fold.size,by simp⟩),
   (fun _ _=>heap_alloc_new W _),
   (fun h0=>by have hx_:=fO13_12 h0;rw [hi_] at hx_;cases hx_),
   (fun _ hf=>Or.inr (fF hf).2.2.1),
   (fun h0=>fA1 h0),
   (fun h=>fO9_8 h),
   (fun h=>fO10_8 h),
   (fun h=>fO13_8 h),
   (fun _=>rfl),
   (fun h=>fO11_8 h),
   (fun h=>fO14_8 h)⟩
 ·rintro d a W ⟨u21,u22,u132,u133,u134,u135,u136,u137,u138,u139,u140,u141,u142,u143,k0,lo,hi,g0,g1,hfr,fold,fL0,fC0,fL1,fC1,fL2,fC2,fL3,fC3,fF,fM,fE0,fE1,fB0,fZ0,fS0,fX0,fA1,fO9_8,fO10_8,fO13_8,fO13_12,fO11_8,fO14_8⟩ hi_ hd;simp [Region.binds] at hd;have HD8:d 8=true:=by simp only [hd]
  have HD10:d 10=true:=by simp only [hd]
  have HD12:d 12=true:=by simp only [hd]
  clear hd;obtain ⟨hp,hlo,hlt⟩:=fB0 HD12;have hv:=fE0 HD10;have hz:=fZ0 HD12 hi_;obtain ⟨eF,lF,hF,z0,y0,rF⟩:=fF HD8;have hx:=fX0 HD12 HD8;refine Qjh (k:=k0) (by rw [hfr,e21];exact hp) (by rw [hfr,e142];exact hv) hz (by rw [z0];kernel_rfl) (by rw [z0];rfl) y0 ?_
  have hsz2:(W.setRow k0 g0).heap.size=W.heap.size:=size_setRow _ _ _;have hot:∀b,b≠k0->(W.setRow k0 g0).heap[b]? = W.heap[b]?:=fun b hb=>Qbu _ _ _ _ hb
  exact ⟨u21,u22,u132,u133,u134,u135,u136,u137,u138,u139,u140,u141,u142,u143,k0,lo,hi,g0,g1,hfr,(Qiq fold hlo _),
   (fun h0=>fL0 h0),
   (fun h0 h1=>by have hx_ : d 8=false:=h1;rw [HD8] at hx_;cases hx_),
   (fun h0=>fL1 h0),
   (fun h0 h1=>by have hx_ : d 8=false:=h1;rw [HD8] at hx_;cases hx_),
   (fun h0=>fL2 h0),
   (fun h0 h1=>by have hx_ : d 8=false:=h1;rw [HD8] at hx_;cases hx_),
   (fun h0=>fL3 h0),
   (fun h0 h1=>by have hx_ : d 8=false:=h1;rw [HD8] at hx_;cases hx_),
   (fun h0=>⟨eF,lF,by rw [hsz2];exact hF,z0,y0,far _ _ _ _ _ _ rF (fun b h1 h2=>hot b (by omega)) (by rw [hsz2];exact Nat.le_refl _)⟩),
   (fun h0=>fM h0),
   (fun h0=>fE0 h0),
   (fun h0=>fE1 h0),
   (fun h0=>⟨hp,hlo,by rw [hsz2];exact hlt⟩),
   (fun h0 h1=>by cases h1),
   (fun _=>Qdu hz),
   (fun h0 h1=>fX0 h0 h1),
   (fun h0=>fA1 h0),
   (fun h=>fO9_8 h),
   (fun h=>fO10_8 h),
   (fun _=>HD8),
   (fun _=>HD12),
   (fun h=>fO11_8 h),
   (fun h=>fO14_8 h)⟩
 ·rintro d a W ⟨u21,u22,u132,u133,u134,u135,u136,u137,u138,u139,u140,u141,u142,u143,k0,lo,hi,g0,g1,hfr,fold,fL0,fC0,fL1,fC1,fL2,fC2,fL3,fC3,fF,fM,fE0,fE1,fB0,fZ0,fS0,fX0,fA1,fO9_8,fO10_8,fO13_8,fO13_12,fO11_8,fO14_8⟩ hi_ hd;simp [Region.binds] at hd;have HD8:d 8=true:=by simp only [hd]
  have HD11:d 11=true:=by simp only [hd]
  clear hd;have hv:=fE1 HD11;refine Qcy ?_
  rw [show a.eval (.tmp 143)=g1 by rw [hfr,e143];exact hv]
  exact ⟨u21,g1,u132,u133,u134,u135,u136,u137,u138,u139,u140,u141,u142,u143,k0,lo,hi,g0,g1,(by rw [hfr];exact Qaj a0 _ _ _ rfl),(fold),
   (fun h0=>fL0 h0),
   (fun h0 h1=>fC0 h0 h1),
   (fun h0=>fL1 h0),
   (fun h0 h1=>fC1 h0 h1),
   (fun h0=>fL2 h0),
   (fun h0 h1=>fC2 h0 h1),
   (fun h0=>fL3 h0),
   (fun h0 h1=>fC3 h0 h1),
   (fun h0=>fF h0),
   (fun h0=>fM h0),
   (fun h0=>fE0 h0),
   (fun h0=>fE1 h0),
   (fun h0=>fB0 h0),
   (fun h0 h1=>fZ0 h0 h1),
   (fun h0=>fS0 h0),
   (fun h0 h1=>fX0 h0 h1),
   (fun _=>rfl),
   (fun h=>fO9_8 h),
   (fun h=>fO10_8 h),
   (fun h=>fO13_8 h),
   (fun h=>fO13_12 h),
   (fun h=>fO11_8 h),
   (fun _=>HD8)⟩
 ·rintro d a W hd ⟨u21,u22,u132,u133,u134,u135,u136,u137,u138,u139,u140,u141,u142,u143,k0,lo,hi,g0,g1,hfr,fold,fL0,fC0,fL1,fC1,fL2,fC2,fL3,fC3,fF,fM,fE0,fE1,fB0,fZ0,fS0,fX0,fA1,fO9_8,fO10_8,fO13_8,fO13_12,fO11_8,fO14_8⟩;have hd2:∀i,i<15→d i=true:=hd
  clear hd;have HD0:d 0=true:=hd2 0 (by omega);have HD1:d 1=true:=hd2 1 (by omega);have HD2:d 2=true:=hd2 2 (by omega);have HD3:d 3=true:=hd2 3 (by omega);have HD4:d 4=true:=hd2 4 (by omega);have HD5:d 5=true:=hd2 5 (by omega);have HD6:d 6=true:=hd2 6 (by omega);have HD7:d 7=true:=hd2 7 (by omega);have HD8:d 8=true:=hd2 8 (by omega);have HD9:d 9=true:=hd2 9 (by omega);have HD10:d 10=true:=hd2 10 (by omega);have HD11:d 11=true:=hd2 11 (by omega);have HD12:d 12=true:=hd2 12 (by omega);have HD13:d 13=true:=hd2 13 (by omega);have HD14:d 14=true:=hd2 14 (by omega);obtain ⟨eF,lF,hF,z0,y0,rF⟩:=fF HD8;obtain ⟨hp0,hlo0,hlt0⟩:=fB0 HD12;rw [hp0] at hfr;have ha_1:=fA1 HD14;rw [ha_1] at hfr
  show K a W
  rw [hfr];exact HK.out k0 lo hi g0 g1 u132 u133 u134 u135 u136 u137 u138 u139 u140 u141 u142 u143 W fold lF hF rF (fS0 HD13) hlo0 hlt0 (fX0 HD12 HD8)
end Go.Proofs.YtejhpljichmmpaaGreatDoor
