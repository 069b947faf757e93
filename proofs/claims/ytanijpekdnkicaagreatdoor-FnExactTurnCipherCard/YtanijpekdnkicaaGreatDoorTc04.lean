/- Proved: what its theorems say. -/
import Derived.Test.YtanijpekdnkicaaGreatDoorTc03
import Derived.Test.YtanijpekdnkicaaGreatDoorTc02
namespace Go.Proofs.YtanijpekdnkicaaGreatDoor
open Go.ChangeShapes Go.WideShapes Go.ChangeAt Go.RowKit
set_option linter.unusedVariables false
set_option linter.unusedSimpArgs false
def regionAtreg9_TurnCipherA (n:Nat):Code→Option Code
 | .region i ops b=>if i=n then some (.region i ops b) else none
 | .seq a b=>match regionAtreg9_TurnCipherA n a with
   | some c=>some c
   | none=>regionAtreg9_TurnCipherA n b
 | .block _ c=>regionAtreg9_TurnCipherA n c
 | _=>none
set_option maxRecDepth 100000 in
set_option maxHeartbeats 8000000 in
theorem reg9_TurnCipherA (w2:World) (x0_0 x0_1 x0_2 x0_3:Value) (kb0:Nat) (x1_0:Value) (kb1:Nat) (x3_ : Value) (Np2:Int)
 (CR0:World→Value→Prop) (hCR0:∀W W' v,CR0 W v→Old W W'→CR0 W' v)
 (c0:∀W,Old w2 W→Calls Tryz.prog 10 #[.agg #[x0_0,x0_1,x0_2,x0_3]] W fun e w'=>∃v,e=.returned v∧Old W w'∧CR0 w' v)
 (b0:w2.heap[kb0]? = some (.cells #[x0_0,x0_1,x0_2,x0_3] 24 (0,0)))
 (CR1:World→Value→Prop) (hCR1:∀W W' v,CR1 W v→Old W W'→CR1 W' v)
 (c1:∀W,Old w2 W→Calls Tryz.prog 11 #[.agg #[x1_0]] W fun e w'=>∃v,e=.returned v∧Old W w'∧CR1 w' v)
 (b1:w2.heap[kb1]? = some (.cells #[x1_0] 27 (0,0)))
 (CR2:World→Value→Prop) (hCR2:∀W W' v,CR2 W v→Old W W'→CR2 W' v)
 (c2:∀W,Old w2 W→Calls Tryz.prog 12 #[x3_] W fun e w'=>∃v,e=.returned v∧Old W w'∧CR2 w' v)
 (RES:World→Nat→Nat→Array Value→Value→Prop) (far:∀W W' lo hi (g0:Array Value) (g1:Value),RES W lo hi g0 g1→(∀b,lo≤b→b<hi→W'.heap[b]? = W.heap[b]?)→W.heap.size≤W'.heap.size→RES W' lo hi g0 g1)
 (cf:∀W v0 v1 v2,Old w2 W→CR0 W v0→CR1 W v1→CR2 W v2→Calls Tryz.prog 21 #[v0,v1,.int .i64 Np2,v2] W fun e w'=>∃(g0:Array Value) (g1:Value),e=.returned (.tuple #[.agg g0,g1])∧Old W w'∧g0.size=1∧g0.all (·.oneCell')=true∧RES w' W.heap.size w'.heap.size g0 g1)
 (Q:Exit→Act→World→Prop) (K:Act→World→Prop) (a0:Act) (hsz:147≤a0.tmps.size) (ha2:a0.eval (.tmp 2)=.int .i64 Np2) (ha3:a0.eval (.tmp 3)=x3_) (ha4:a0.eval (.tmp 4)=.pointer (some ⟨kb0,0,none⟩)) (ha5:a0.eval (.tmp 5)=.pointer (some ⟨kb1,0,none⟩))
 (HK:Hid (∀(k0 lo hi:Nat) (g0:Array Value) (g1:Value) (u37 u38 u39 u40 u41 u42 u43 u44 u45 u46 u47:Value) (W:World),Old w2 W→w2.heap.size≤lo→hi≤W.heap.size→RES W lo hi g0 g1→W.heap[k0]? = some (.cells g0 32 (0,0))→w2.heap.size≤k0→k0<W.heap.size→(k0<lo∨hi≤k0)→K (putAll a0 [(10,.pointer (some ⟨k0,0,none⟩)),(11,g1),(37,u37),(38,u38),(39,u39),(40,u40),(41,u41),(42,u42),(43,u43),(44,u44),(45,u45),(46,u46),(47,u47)]) W)) :
 Code.wp Tryz.prog ((Tryz.f4.body.bind (regionAtreg9_TurnCipherA 11)).getD .skip) (Exit.then K Q) a0 w2:=by
 conv=>arg 2;whnf
 have e2:∀l,(putAll a0 l).eval (.tmp 2)=(getKey l 2).getD (a0.eval (.tmp 2)):=eval_putAll a0 2 (by omega)
 have e3:∀l,(putAll a0 l).eval (.tmp 3)=(getKey l 3).getD (a0.eval (.tmp 3)):=eval_putAll a0 3 (by omega)
 have e4:∀l,(putAll a0 l).eval (.tmp 4)=(getKey l 4).getD (a0.eval (.tmp 4)):=eval_putAll a0 4 (by omega)
 have e5:∀l,(putAll a0 l).eval (.tmp 5)=(getKey l 5).getD (a0.eval (.tmp 5)):=eval_putAll a0 5 (by omega)
 have e10:∀l,(putAll a0 l).eval (.tmp 10)=(getKey l 10).getD (a0.eval (.tmp 10)):=eval_putAll a0 10 (by omega)
 have e11:∀l,(putAll a0 l).eval (.tmp 11)=(getKey l 11).getD (a0.eval (.tmp 11)):=eval_putAll a0 11 (by omega)
 have e37:∀l,(putAll a0 l).eval (.tmp 37)=(getKey l 37).getD (a0.eval (.tmp 37)):=eval_putAll a0 37 (by omega)
 have e38:∀l,(putAll a0 l).eval (.tmp 38)=(getKey l 38).getD (a0.eval (.tmp 38)):=eval_putAll a0 38 (by omega)
 have e39:∀l,(putAll a0 l).eval (.tmp 39)=(getKey l 39).getD (a0.eval (.tmp 39)):=eval_putAll a0 39 (by omega)
 have e40:∀l,(putAll a0 l).eval (.tmp 40)=(getKey l 40).getD (a0.eval (.tmp 40)):=eval_putAll a0 40 (by omega)
 have e41:∀l,(putAll a0 l).eval (.tmp 41)=(getKey l 41).getD (a0.eval (.tmp 41)):=eval_putAll a0 41 (by omega)
 have e42:∀l,(putAll a0 l).eval (.tmp 42)=(getKey l 42).getD (a0.eval (.tmp 42)):=eval_putAll a0 42 (by omega)
 have e43:∀l,(putAll a0 l).eval (.tmp 43)=(getKey l 43).getD (a0.eval (.tmp 43)):=eval_putAll a0 43 (by omega)
 have e44:∀l,(putAll a0 l).eval (.tmp 44)=(getKey l 44).getD (a0.eval (.tmp 44)):=eval_putAll a0 44 (by omega)
 have e45:∀l,(putAll a0 l).eval (.tmp 45)=(getKey l 45).getD (a0.eval (.tmp 45)):=eval_putAll a0 45 (by omega)
 have e46:∀l,(putAll a0 l).eval (.tmp 46)=(getKey l 46).getD (a0.eval (.tmp 46)):=eval_putAll a0 46 (by omega)
 have e47:∀l,(putAll a0 l).eval (.tmp 47)=(getKey l 47).getD (a0.eval (.tmp 47)):=eval_putAll a0 47 (by omega)
 refine wp_region_steps (fun d a W=>∃(u10 u11 u37 u38 u39 u40 u41 u42 u43 u44 u45 u46 u47:Value) (k0 lo hi:Nat) (g0:Array Value) (g1:Value),a=(putAll a0 [(10,u10),(11,u11),(37,u37),(38,u38),(39,u39),(40,u40),(41,u41),(42,u42),(43,u43),(44,u44),(45,u45),(46,u46),(47,u47)])∧(Old w2 W)∧(d 0=true→u38=.agg #[x0_0,x0_1,x0_2,x0_3])∧(d 1=true→d 7=false→CR0 W u39)∧(d 2=true→u40=.agg #[x1_0])∧(d 3=true→d 7=false→CR1 W u41)∧(d 5=true→u43=x3_)∧(d 6=true→d 7=false→CR2 W u44)∧(d 4=true→u42=.int .i64 Np2)∧(d 7=true→u45=.tuple #[.agg g0,g1]∧w2.heap.size≤lo∧hi≤W.heap.size∧g0.size=1∧g0.all (·.oneCell')=true∧RES W lo hi g0 g1)∧(d 8=true→u37=.tuple #[.agg g0,g1])∧(d 9=true→u46=.agg g0)∧(d 10=true→u47=g1)∧(d 11=true→u10=.pointer (some ⟨k0,0,none⟩)∧w2.heap.size≤k0∧k0<W.heap.size)∧(d 11=true→d 12=false→W.heap[k0]? = some (.cells #[.slice none 0 0] 32 (0,0)))∧(d 12=true→W.heap[k0]? = some (.cells g0 32 (0,0)))∧(d 11=true→d 7=true→(k0<lo∨hi≤k0))∧(d 13=true→u11=g1)∧(d 8=true→d 7=true)∧(d 9=true→d 7=true)∧(d 12=true→d 7=true)∧(d 12=true→d 11=true)∧(d 10=true→d 7=true)∧(d 13=true→d 7=true)) rfl (by decide +kernel) (by decide +kernel) ?_ ⟨?_,?_,?_,?_,?_,?_,?_,?_,?_,?_,?_,?_,?_,?_,trivial⟩ ?_
 ·exact ⟨_,_,_,_,_,_,_,_,_,_,_,_,_,0,0,0,#[],undef,(putAll_self a0 [10,11,37,38,39,40,41,42,43,44,45,46,47] (by intro s hs;simp at hs;omega)).symm,Below.drew (Old.refl w2),(fun h=>by cases h),(fun h=>by cases h),(fun h=>by cases h),(fun h=>by cases h),(fun h=>by cases h),(fun h=>by cases h),(fun h=>by cases h),(fun h=>by cases h),(fun h=>by cases h),(fun h=>by cases h),(fun h=>by cases h),(fun h=>by cases h),(fun h=>by cases h),(fun h=>by cases h),(fun h=>by cases h),(fun h=>by cases h),(fun h=>by cases h),(fun h=>by cases h),(fun h=>by cases h),(fun h=>by cases h),(fun h=>by cases h),(fun h=>by cases h)⟩
 ·rintro d a W ⟨u10,u11,u37,u38,u39,u40,u41,u42,u43,u44,u45,u46,u47,k0,lo,hi,g0,g1,hfr,fold,fL0,fC0,fL1,fC1,fL2,fC2,fI0,fF,fM,fE0,fE1,fB0,fZ0,fS0,fX0,fA1,fO8_7,fO9_7,fO12_7,fO12_11,fO10_7,fO13_7⟩ hi_ hd
  simp [Region.binds] at hd
  refine op_load (k:=kb0) (by rw [hfr,e4];exact ha4) (fold.block _ (lt_of_some b0) |>.trans b0) Tryz.underlying24 rfl (by kernel_rfl) ?_
  exact ⟨u10,u11,u37,.agg #[x0_0,x0_1,x0_2,x0_3],u39,u40,u41,u42,u43,u44,u45,u46,u47,k0,lo,hi,g0,g1,(by rw [hfr];exact putAll_put a0 _ _ _ rfl),(fold),
   (fun _=>rfl),
   (fun h0 h1=>fC0 h0 h1),
   (fun h0=>fL1 h0),
   (fun h0 h1=>fC1 h0 h1),
   (fun h0=>fL2 h0),
   (fun h0 h1=>fC2 h0 h1),
   (fun h0=>fI0 h0),
   (fun h0=>fF h0),
   (fun h0=>fM h0),
   (fun h0=>fE0 h0),
   (fun h0=>fE1 h0),
   (fun h0=>fB0 h0),
   (fun h0 h1=>fZ0 h0 h1),
   (fun h0=>fS0 h0),
   (fun h0 h1=>fX0 h0 h1),
   (fun h0=>fA1 h0),
   (fun h=>fO8_7 h),
   (fun h=>fO9_7 h),
   (fun h=>fO12_7 h),
   (fun h=>fO12_11 h),
   (fun h=>fO10_7 h),
   (fun h=>fO13_7 h)⟩
 ·rintro d a W ⟨u10,u11,u37,u38,u39,u40,u41,u42,u43,u44,u45,u46,u47,k0,lo,hi,g0,g1,hfr,fold,fL0,fC0,fL1,fC1,fL2,fC2,fI0,fF,fM,fE0,fE1,fB0,fZ0,fS0,fX0,fA1,fO8_7,fO9_7,fO12_7,fO12_11,fO10_7,fO13_7⟩ hi_ hd
  simp [Region.binds] at hd
  have HD0:d 0=true:=by simp only [hd]
  clear hd
  have hv:=fL0 HD0
  refine op_call_ret Tryz.call10 (vs:=#[.agg #[x0_0,x0_1,x0_2,x0_3]]) (by simp [hfr,e38,getKey,hv]) (c0 W fold) ?_
  rintro v W' ⟨g,hcr⟩
  exact ⟨u10,u11,u37,u38,v,u40,u41,u42,u43,u44,u45,u46,u47,k0,lo,hi,g0,g1,(by rw [hfr];exact putAll_put a0 _ _ _ rfl),(Old.trans fold g),
   (fun h0=>fL0 h0),
   (fun _ _=>hcr),
   (fun h0=>fL1 h0),
   (fun h0 h1=>hCR1 _ _ _ (fC1 h0 h1) g),
   (fun h0=>fL2 h0),
   (fun h0 h1=>hCR2 _ _ _ (fC2 h0 h1) g),
   (fun h0=>fI0 h0),
   (fun h0=>by obtain ⟨e1,e2,e3,z0,y0,e9⟩:=fF h0;exact ⟨e1,e2,Nat.le_trans e3 g.size,z0,y0,far _ _ _ _ _ _ e9 (fun b _ hb=>g.block b (by omega)) g.size⟩),
   (fun h0=>fM h0),
   (fun h0=>fE0 h0),
   (fun h0=>fE1 h0),
   (fun h0=>by obtain ⟨e1,e2,e3⟩:=fB0 h0;exact ⟨e1,e2,Nat.lt_of_lt_of_le e3 g.size⟩),
   (fun h0 h1=>(g.block _ (lt_of_some (fZ0 h0 h1))).trans (fZ0 h0 h1)),
   (fun h0=>(g.block _ (lt_of_some (fS0 h0))).trans (fS0 h0)),
   (fun h0 h1=>fX0 h0 h1),
   (fun h0=>fA1 h0),
   (fun h=>fO8_7 h),
   (fun h=>fO9_7 h),
   (fun h=>fO12_7 h),
   (fun h=>fO12_11 h),
   (fun h=>fO10_7 h),
   (fun h=>fO13_7 h)⟩
 ·rintro d a W ⟨u10,u11,u37,u38,u39,u40,u41,u42,u43,u44,u45,u46,u47,k0,lo,hi,g0,g1,hfr,fold,fL0,fC0,fL1,fC1,fL2,fC2,fI0,fF,fM,fE0,fE1,fB0,fZ0,fS0,fX0,fA1,fO8_7,fO9_7,fO12_7,fO12_11,fO10_7,fO13_7⟩ hi_ hd
  simp [Region.binds] at hd
  refine op_load (k:=kb1) (by rw [hfr,e5];exact ha5) (fold.block _ (lt_of_some b1) |>.trans b1) Tryz.underlying27 rfl (by kernel_rfl) ?_
  exact ⟨u10,u11,u37,u38,u39,.agg #[x1_0],u41,u42,u43,u44,u45,u46,u47,k0,lo,hi,g0,g1,(by rw [hfr];exact putAll_put a0 _ _ _ rfl),(fold),
   (fun h0=>fL0 h0),
   (fun h0 h1=>fC0 h0 h1),
   (fun _=>rfl),
   (fun h0 h1=>fC1 h0 h1),
   (fun h0=>fL2 h0),
   (fun h0 h1=>fC2 h0 h1),
   (fun h0=>fI0 h0),
   (fun h0=>fF h0),
   (fun h0=>fM h0),
   (fun h0=>fE0 h0),
   (fun h0=>fE1 h0),
   (fun h0=>fB0 h0),
   (fun h0 h1=>fZ0 h0 h1),
   (fun h0=>fS0 h0),
   (fun h0 h1=>fX0 h0 h1),
   (fun h0=>fA1 h0),
   (fun h=>fO8_7 h),
   (fun h=>fO9_7 h),
   (fun h=>fO12_7 h),
   (fun h=>fO12_11 h),
   (fun h=>fO10_7 h),
   (fun h=>fO13_7 h)⟩
 ·rintro d a W ⟨u10,u11,u37,u38,u39,u40,u41,u42,u43,u44,u45,u46,u47,k0,lo,hi,g0,g1,hfr,fold,fL0,fC0,fL1,fC1,fL2,fC2,fI0,fF,fM,fE0,fE1,fB0,fZ0,fS0,fX0,fA1,fO8_7,fO9_7,fO12_7,fO12_11,fO10_7,fO13_7⟩ hi_ hd
  simp [Region.binds] at hd
  have HD2:d 2=true:=by simp only [hd]
  clear hd
  have hv:=fL1 HD2
  refine op_call_ret Tryz.call11 (vs:=#[.agg #[x1_0]]) (by simp [hfr,e40,getKey,hv]) (c1 W fold) ?_
  rintro v W' ⟨g,hcr⟩
  exact ⟨u10,u11,u37,u38,u39,u40,v,u42,u43,u44,u45,u46,u47,k0,lo,hi,g0,g1,(by rw [hfr];exact putAll_put a0 _ _ _ rfl),(Old.trans fold g),
   (fun h0=>fL0 h0),
   (fun h0 h1=>hCR0 _ _ _ (fC0 h0 h1) g),
   (fun h0=>fL1 h0),
   (fun _ _=>hcr),
   (fun h0=>fL2 h0),
   (fun h0 h1=>hCR2 _ _ _ (fC2 h0 h1) g),
   (fun h0=>fI0 h0),
   (fun h0=>by obtain ⟨e1,e2,e3,z0,y0,e9⟩:=fF h0;exact ⟨e1,e2,Nat.le_trans e3 g.size,z0,y0,far _ _ _ _ _ _ e9 (fun b _ hb=>g.block b (by omega)) g.size⟩),
   (fun h0=>fM h0),
   (fun h0=>fE0 h0),
   (fun h0=>fE1 h0),
   (fun h0=>by obtain ⟨e1,e2,e3⟩:=fB0 h0;exact ⟨e1,e2,Nat.lt_of_lt_of_le e3 g.size⟩),
   (fun h0 h1=>(g.block _ (lt_of_some (fZ0 h0 h1))).trans (fZ0 h0 h1)),
   (fun h0=>(g.block _ (lt_of_some (fS0 h0))).trans (fS0 h0)),
   (fun h0 h1=>fX0 h0 h1),
   (fun h0=>fA1 h0),
   (fun h=>fO8_7 h),
   (fun h=>fO9_7 h),
   (fun h=>fO12_7 h),
   (fun h=>fO12_11 h),
   (fun h=>fO10_7 h),
   (fun h=>fO13_7 h)⟩
 ·rintro d a W ⟨u10,u11,u37,u38,u39,u40,u41,u42,u43,u44,u45,u46,u47,k0,lo,hi,g0,g1,hfr,fold,fL0,fC0,fL1,fC1,fL2,fC2,fI0,fF,fM,fE0,fE1,fB0,fZ0,fS0,fX0,fA1,fO8_7,fO9_7,fO12_7,fO12_11,fO10_7,fO13_7⟩ hi_ hd
  simp [Region.binds] at hd
  refine op_move ?_
  rw [show a.eval (.tmp 2)=.int .i64 Np2 by rw [hfr,e2];exact ha2]
  exact ⟨u10,u11,u37,u38,u39,u40,u41,.int .i64 Np2,u43,u44,u45,u46,u47,k0,lo,hi,g0,g1,(by rw [hfr];exact putAll_put a0 _ _ _ rfl),(fold),
   (fun h0=>fL0 h0),
   (fun h0 h1=>fC0 h0 h1),
   (fun h0=>fL1 h0),
   (fun h0 h1=>fC1 h0 h1),
   (fun h0=>fL2 h0),
   (fun h0 h1=>fC2 h0 h1),
   (fun _=>rfl),
   (fun h0=>fF h0),
   (fun h0=>fM h0),
   (fun h0=>fE0 h0),
   (fun h0=>fE1 h0),
   (fun h0=>fB0 h0),
   (fun h0 h1=>fZ0 h0 h1),
   (fun h0=>fS0 h0),
   (fun h0 h1=>fX0 h0 h1),
   (fun h0=>fA1 h0),
   (fun h=>fO8_7 h),
   (fun h=>fO9_7 h),
   (fun h=>fO12_7 h),
   (fun h=>fO12_11 h),
   (fun h=>fO10_7 h),
   (fun h=>fO13_7 h)⟩
 ·rintro d a W ⟨u10,u11,u37,u38,u39,u40,u41,u42,u43,u44,u45,u46,u47,k0,lo,hi,g0,g1,hfr,fold,fL0,fC0,fL1,fC1,fL2,fC2,fI0,fF,fM,fE0,fE1,fB0,fZ0,fS0,fX0,fA1,fO8_7,fO9_7,fO12_7,fO12_11,fO10_7,fO13_7⟩ hi_ hd
  simp [Region.binds] at hd
  refine op_move ?_
  rw [show a.eval (.tmp 3)=x3_ by rw [hfr,e3];exact ha3]
  exact ⟨u10,u11,u37,u38,u39,u40,u41,u42,x3_,u44,u45,u46,u47,k0,lo,hi,g0,g1,(by rw [hfr];exact putAll_put a0 _ _ _ rfl),(fold),
   (fun h0=>fL0 h0),
   (fun h0 h1=>fC0 h0 h1),
   (fun h0=>fL1 h0),
   (fun h0 h1=>fC1 h0 h1),
   (fun _=>rfl),
   (fun h0 h1=>fC2 h0 h1),
   (fun h0=>fI0 h0),
   (fun h0=>fF h0),
   (fun h0=>fM h0),
   (fun h0=>fE0 h0),
   (fun h0=>fE1 h0),
   (fun h0=>fB0 h0),
   (fun h0 h1=>fZ0 h0 h1),
   (fun h0=>fS0 h0),
   (fun h0 h1=>fX0 h0 h1),
   (fun h0=>fA1 h0),
   (fun h=>fO8_7 h),
   (fun h=>fO9_7 h),
   (fun h=>fO12_7 h),
   (fun h=>fO12_11 h),
   (fun h=>fO10_7 h),
   (fun h=>fO13_7 h)⟩
 ·rintro d a W ⟨u10,u11,u37,u38,u39,u40,u41,u42,u43,u44,u45,u46,u47,k0,lo,hi,g0,g1,hfr,fold,fL0,fC0,fL1,fC1,fL2,fC2,fI0,fF,fM,fE0,fE1,fB0,fZ0,fS0,fX0,fA1,fO8_7,fO9_7,fO12_7,fO12_11,fO10_7,fO13_7⟩ hi_ hd
  simp [Region.binds] at hd
  have HD5:d 5=true:=by simp only [hd]
  clear hd
  have hv:=fL2 HD5
  refine op_call_ret Tryz.call12 (vs:=#[x3_]) (by simp [hfr,e43,getKey,hv]) (c2 W fold) ?_
  rintro v W' ⟨g,hcr⟩
  exact ⟨u10,u11,u37,u38,u39,u40,u41,u42,u43,v,u45,u46,u47,k0,lo,hi,g0,g1,(by rw [hfr];exact putAll_put a0 _ _ _ rfl),(Old.trans fold g),
   (fun h0=>fL0 h0),
   (fun h0 h1=>hCR0 _ _ _ (fC0 h0 h1) g),
   (fun h0=>fL1 h0),
   (fun h0 h1=>hCR1 _ _ _ (fC1 h0 h1) g),
   (fun h0=>fL2 h0),
   (fun _ _=>hcr),
   (fun h0=>fI0 h0),
   (fun h0=>by obtain ⟨e1,e2,e3,z0,y0,e9⟩:=fF h0;exact ⟨e1,e2,Nat.le_trans e3 g.size,z0,y0,far _ _ _ _ _ _ e9 (fun b _ hb=>g.block b (by omega)) g.size⟩),
   (fun h0=>fM h0),
   (fun h0=>fE0 h0),
   (fun h0=>fE1 h0),
   (fun h0=>by obtain ⟨e1,e2,e3⟩:=fB0 h0;exact ⟨e1,e2,Nat.lt_of_lt_of_le e3 g.size⟩),
   (fun h0 h1=>(g.block _ (lt_of_some (fZ0 h0 h1))).trans (fZ0 h0 h1)),
   (fun h0=>(g.block _ (lt_of_some (fS0 h0))).trans (fS0 h0)),
   (fun h0 h1=>fX0 h0 h1),
   (fun h0=>fA1 h0),
   (fun h=>fO8_7 h),
   (fun h=>fO9_7 h),
   (fun h=>fO12_7 h),
   (fun h=>fO12_11 h),
   (fun h=>fO10_7 h),
   (fun h=>fO13_7 h)⟩
 ·rintro d a W ⟨u10,u11,u37,u38,u39,u40,u41,u42,u43,u44,u45,u46,u47,k0,lo,hi,g0,g1,hfr,fold,fL0,fC0,fL1,fC1,fL2,fC2,fI0,fF,fM,fE0,fE1,fB0,fZ0,fS0,fX0,fA1,fO8_7,fO9_7,fO12_7,fO12_11,fO10_7,fO13_7⟩ hi_ hd
  simp [Region.binds] at hd
  have HD1:d 1=true:=by simp only [hd]
  have HD3:d 3=true:=by simp only [hd]
  have HD4:d 4=true:=by simp only [hd]
  have HD6:d 6=true:=by simp only [hd]
  clear hd
  have hvI0:=fI0 HD4
  refine op_call_ret (R:=fun v w'=>∃(g0:Array Value) (g1:Value),v=.tuple #[.agg g0,g1]∧Old W w'∧g0.size=1∧g0.all (·.oneCell')=true∧RES w' W.heap.size w'.heap.size g0 g1) Tryz.call21 (vs:=#[u39,u41,.int .i64 Np2,u44]) (by simp [hfr,e39,e41,e44,e42,hvI0,getKey]) ((cf W _ _ _ fold (fC0 HD1 hi_) (fC1 HD3 hi_) (fC2 HD6 hi_)).mono (fun e w' h=>by obtain ⟨g0,g1,rfl,h⟩:=h;exact ⟨_,rfl,g0,g1,rfl,h⟩)) ?_
  rintro v W' ⟨r0,r1,rfl,g,z0,y0,hres⟩
  exact ⟨u10,u11,u37,u38,u39,u40,u41,u42,u43,u44,.tuple #[.agg r0,r1],u46,u47,k0,W.heap.size,W'.heap.size,r0,r1,(by rw [hfr];exact putAll_put a0 _ _ _ rfl),(Old.trans fold g),
   (fun h0=>fL0 h0),
   (fun h0 h1=>by cases h1),
   (fun h0=>fL1 h0),
   (fun h0 h1=>by cases h1),
   (fun h0=>fL2 h0),
   (fun h0 h1=>by cases h1),
   (fun h0=>fI0 h0),
   (fun _=>⟨rfl,(fold.size),Nat.le_refl _,z0,y0,hres⟩),
   (fun h0=>by have hx_:=fO8_7 h0;rw [hi_] at hx_;cases hx_),
   (fun h0=>by have hx_:=fO9_7 h0;rw [hi_] at hx_;cases hx_),
   (fun h0=>by have hx_:=fO10_7 h0;rw [hi_] at hx_;cases hx_),
   (fun h0=>by obtain ⟨e1,e2,e3⟩:=fB0 h0;exact ⟨e1,e2,Nat.lt_of_lt_of_le e3 g.size⟩),
   (fun h0 h1=>(g.block _ (lt_of_some (fZ0 h0 h1))).trans (fZ0 h0 h1)),
   (fun h0=>by have hx_:=fO12_7 h0;rw [hi_] at hx_;cases hx_),
   (fun hb _=>Or.inl (fB0 hb).2.2),
   (fun h0=>by have hx_:=fO13_7 h0;rw [hi_] at hx_;cases hx_),
   (fun _=>rfl),
   (fun _=>rfl),
   (fun _=>rfl),
   (fun h=>fO12_11 h),
   (fun _=>rfl),
   (fun _=>rfl)⟩
 ·rintro d a W ⟨u10,u11,u37,u38,u39,u40,u41,u42,u43,u44,u45,u46,u47,k0,lo,hi,g0,g1,hfr,fold,fL0,fC0,fL1,fC1,fL2,fC2,fI0,fF,fM,fE0,fE1,fB0,fZ0,fS0,fX0,fA1,fO8_7,fO9_7,fO12_7,fO12_11,fO10_7,fO13_7⟩ hi_ hd
  simp [Region.binds] at hd
  have HD7:d 7=true:=by simp only [hd]
  clear hd
  have hv:=(fF HD7).1
  refine op_move ?_
  rw [show a.eval (.tmp 45)=.tuple #[.agg g0,g1] by rw [hfr,e45];exact hv]
  exact ⟨u10,u11,.tuple #[.agg g0,g1],u38,u39,u40,u41,u42,u43,u44,u45,u46,u47,k0,lo,hi,g0,g1,(by rw [hfr];exact putAll_put a0 _ _ _ rfl),(fold),
   (fun h0=>fL0 h0),
   (fun h0 h1=>fC0 h0 h1),
   (fun h0=>fL1 h0),
   (fun h0 h1=>fC1 h0 h1),
   (fun h0=>fL2 h0),
   (fun h0 h1=>fC2 h0 h1),
   (fun h0=>fI0 h0),
   (fun h0=>fF h0),
   (fun _=>rfl),
   (fun h0=>fE0 h0),
   (fun h0=>fE1 h0),
   (fun h0=>fB0 h0),
   (fun h0 h1=>fZ0 h0 h1),
   (fun h0=>fS0 h0),
   (fun h0 h1=>fX0 h0 h1),
   (fun h0=>fA1 h0),
   (fun _=>HD7),
   (fun h=>fO9_7 h),
   (fun h=>fO12_7 h),
   (fun h=>fO12_11 h),
   (fun h=>fO10_7 h),
   (fun h=>fO13_7 h)⟩
 ·rintro d a W ⟨u10,u11,u37,u38,u39,u40,u41,u42,u43,u44,u45,u46,u47,k0,lo,hi,g0,g1,hfr,fold,fL0,fC0,fL1,fC1,fL2,fC2,fI0,fF,fM,fE0,fE1,fB0,fZ0,fS0,fX0,fA1,fO8_7,fO9_7,fO12_7,fO12_11,fO10_7,fO13_7⟩ hi_ hd
  simp [Region.binds] at hd
  have HD8:d 8=true:=by simp only [hd]
  have HD7:d 7=true:=fO8_7 HD8
  clear hd
  have hv:=fM HD8
  refine op_extract (by rw [hfr,e37];exact hv) rfl ?_
  exact ⟨u10,u11,u37,u38,u39,u40,u41,u42,u43,u44,u45,.agg g0,u47,k0,lo,hi,g0,g1,(by rw [hfr];exact putAll_put a0 _ _ _ rfl),(fold),
   (fun h0=>fL0 h0),
   (fun h0 h1=>fC0 h0 h1),
   (fun h0=>fL1 h0),
   (fun h0 h1=>fC1 h0 h1),
   (fun h0=>fL2 h0),
   (fun h0 h1=>fC2 h0 h1),
   (fun h0=>fI0 h0),
   (fun h0=>fF h0),
   (fun h0=>fM h0),
   (fun _=>rfl),
   (fun h0=>fE1 h0),
   (fun h0=>fB0 h0),
   (fun h0 h1=>fZ0 h0 h1),
   (fun h0=>fS0 h0),
   (fun h0 h1=>fX0 h0 h1),
   (fun h0=>fA1 h0),
   (fun h=>fO8_7 h),
   (fun _=>HD7),
   (fun h=>fO12_7 h),
   (fun h=>fO12_11 h),
   (fun h=>fO10_7 h),
   (fun h=>fO13_7 h)⟩
 ·rintro d a W ⟨u10,u11,u37,u38,u39,u40,u41,u42,u43,u44,u45,u46,u47,k0,lo,hi,g0,g1,hfr,fold,fL0,fC0,fL1,fC1,fL2,fC2,fI0,fF,fM,fE0,fE1,fB0,fZ0,fS0,fX0,fA1,fO8_7,fO9_7,fO12_7,fO12_11,fO10_7,fO13_7⟩ hi_ hd
  simp [Region.binds] at hd
  have HD8:d 8=true:=by simp only [hd]
  have HD7:d 7=true:=fO8_7 HD8
  clear hd
  have hv:=fM HD8
  refine op_extract (by rw [hfr,e37];exact hv) rfl ?_
  exact ⟨u10,u11,u37,u38,u39,u40,u41,u42,u43,u44,u45,u46,g1,k0,lo,hi,g0,g1,(by rw [hfr];exact putAll_put a0 _ _ _ rfl),(fold),
   (fun h0=>fL0 h0),
   (fun h0 h1=>fC0 h0 h1),
   (fun h0=>fL1 h0),
   (fun h0 h1=>fC1 h0 h1),
   (fun h0=>fL2 h0),
   (fun h0 h1=>fC2 h0 h1),
   (fun h0=>fI0 h0),
   (fun h0=>fF h0),
   (fun h0=>fM h0),
   (fun h0=>fE0 h0),
   (fun _=>rfl),
   (fun h0=>fB0 h0),
   (fun h0 h1=>fZ0 h0 h1),
   (fun h0=>fS0 h0),
   (fun h0 h1=>fX0 h0 h1),
   (fun h0=>fA1 h0),
   (fun h=>fO8_7 h),
   (fun h=>fO9_7 h),
   (fun h=>fO12_7 h),
   (fun h=>fO12_11 h),
   (fun _=>HD7),
   (fun h=>fO13_7 h)⟩
 ·rintro d a W ⟨u10,u11,u37,u38,u39,u40,u41,u42,u43,u44,u45,u46,u47,k0,lo,hi,g0,g1,hfr,fold,fL0,fC0,fL1,fC1,fL2,fC2,fI0,fF,fM,fE0,fE1,fB0,fZ0,fS0,fX0,fA1,fO8_7,fO9_7,fO12_7,fO12_11,fO10_7,fO13_7⟩ hi_ hd
  simp [Region.binds] at hd
  refine op_alloc (z:=.agg #[.slice none 0 0]) (by kernel_rfl) ?_
  have g:Old W (W.alloc (.cells #[.slice none 0 0] 32)):=(Old.refl W).alloc _
  exact ⟨.pointer (some ⟨W.heap.size,0,none⟩),u11,u37,u38,u39,u40,u41,u42,u43,u44,u45,u46,u47,W.heap.size,lo,hi,g0,g1,(by rw [hfr];exact putAll_put a0 _ _ _ rfl),(Old.trans fold g),
   (fun h0=>fL0 h0),
   (fun h0 h1=>hCR0 _ _ _ (fC0 h0 h1) g),
   (fun h0=>fL1 h0),
   (fun h0 h1=>hCR1 _ _ _ (fC1 h0 h1) g),
   (fun h0=>fL2 h0),
   (fun h0 h1=>hCR2 _ _ _ (fC2 h0 h1) g),
   (fun h0=>fI0 h0),
   (fun h0=>by obtain ⟨e1,e2,e3,z0,y0,e9⟩:=fF h0;exact ⟨e1,e2,Nat.le_trans e3 g.size,z0,y0,far _ _ _ _ _ _ e9 (fun b _ hb=>g.block b (by omega)) g.size⟩),
   (fun h0=>fM h0),
   (fun h0=>fE0 h0),
   (fun h0=>fE1 h0),
   (fun _=>⟨rfl,fold.size,by simp⟩),
   (fun _ _=>heap_alloc_new W _),
   (fun h0=>by have hx_:=fO12_11 h0;rw [hi_] at hx_;cases hx_),
   (fun _ hf=>Or.inr (fF hf).2.2.1),
   (fun h0=>fA1 h0),
   (fun h=>fO8_7 h),
   (fun h=>fO9_7 h),
   (fun h=>fO12_7 h),
   (fun _=>rfl),
   (fun h=>fO10_7 h),
   (fun h=>fO13_7 h)⟩
 ·rintro d a W ⟨u10,u11,u37,u38,u39,u40,u41,u42,u43,u44,u45,u46,u47,k0,lo,hi,g0,g1,hfr,fold,fL0,fC0,fL1,fC1,fL2,fC2,fI0,fF,fM,fE0,fE1,fB0,fZ0,fS0,fX0,fA1,fO8_7,fO9_7,fO12_7,fO12_11,fO10_7,fO13_7⟩ hi_ hd
  simp [Region.binds] at hd
  have HD7:d 7=true:=by simp only [hd]
  have HD9:d 9=true:=by simp only [hd]
  have HD11:d 11=true:=by simp only [hd]
  clear hd
  obtain ⟨hp,hlo,hlt⟩:=fB0 HD11
  have hv:=fE0 HD9
  have hz:=fZ0 HD11 hi_
  obtain ⟨eF,lF,hF,z0,y0,rF⟩:=fF HD7
  have hx:=fX0 HD11 HD7
  refine op_store (k:=k0) (by rw [hfr,e10];exact hp) (by rw [hfr,e46];exact hv) hz (by rw [z0];kernel_rfl) (by rw [z0];rfl) y0 ?_
  have hsz2:(W.setRow k0 g0).heap.size=W.heap.size:=size_setRow _ _ _
  have hot:∀b,b≠k0→(W.setRow k0 g0).heap[b]? = W.heap[b]?:=fun b hb=>heap_setRow_other _ _ _ _ hb
  exact ⟨u10,u11,u37,u38,u39,u40,u41,u42,u43,u44,u45,u46,u47,k0,lo,hi,g0,g1,hfr,(old_setRow fold hlo _),
   (fun h0=>fL0 h0),
   (fun h0 h1=>by have hx_ : d 7=false:=h1;rw [HD7] at hx_;cases hx_),
   (fun h0=>fL1 h0),
   (fun h0 h1=>by have hx_ : d 7=false:=h1;rw [HD7] at hx_;cases hx_),
   (fun h0=>fL2 h0),
   (fun h0 h1=>by have hx_ : d 7=false:=h1;rw [HD7] at hx_;cases hx_),
   (fun h0=>fI0 h0),
   (fun h0=>⟨eF,lF,by rw [hsz2];exact hF,z0,y0,far _ _ _ _ _ _ rF (fun b h1 h2=>hot b (by omega)) (by rw [hsz2];exact Nat.le_refl _)⟩),
   (fun h0=>fM h0),
   (fun h0=>fE0 h0),
   (fun h0=>fE1 h0),
   (fun h0=>⟨hp,hlo,by rw [hsz2];exact hlt⟩),
   (fun h0 h1=>by cases h1),
   (fun _=>heap_setRow_same hz),
   (fun h0 h1=>fX0 h0 h1),
   (fun h0=>fA1 h0),
   (fun h=>fO8_7 h),
   (fun h=>fO9_7 h),
   (fun _=>HD7),
   (fun _=>HD11),
   (fun h=>fO10_7 h),
   (fun h=>fO13_7 h)⟩
 ·rintro d a W ⟨u10,u11,u37,u38,u39,u40,u41,u42,u43,u44,u45,u46,u47,k0,lo,hi,g0,g1,hfr,fold,fL0,fC0,fL1,fC1,fL2,fC2,fI0,fF,fM,fE0,fE1,fB0,fZ0,fS0,fX0,fA1,fO8_7,fO9_7,fO12_7,fO12_11,fO10_7,fO13_7⟩ hi_ hd
  simp [Region.binds] at hd
  have HD7:d 7=true:=by simp only [hd]
  have HD10:d 10=true:=by simp only [hd]
  clear hd
  have hv:=fE1 HD10
  refine op_assign ?_
  rw [show a.eval (.tmp 47)=g1 by rw [hfr,e47];exact hv]
  exact ⟨u10,g1,u37,u38,u39,u40,u41,u42,u43,u44,u45,u46,u47,k0,lo,hi,g0,g1,(by rw [hfr];exact putAll_put a0 _ _ _ rfl),(fold),
   (fun h0=>fL0 h0),
   (fun h0 h1=>fC0 h0 h1),
   (fun h0=>fL1 h0),
   (fun h0 h1=>fC1 h0 h1),
   (fun h0=>fL2 h0),
   (fun h0 h1=>fC2 h0 h1),
   (fun h0=>fI0 h0),
   (fun h0=>fF h0),
   (fun h0=>fM h0),
   (fun h0=>fE0 h0),
   (fun h0=>fE1 h0),
   (fun h0=>fB0 h0),
   (fun h0 h1=>fZ0 h0 h1),
   (fun h0=>fS0 h0),
   (fun h0 h1=>fX0 h0 h1),
   (fun _=>rfl),
   (fun h=>fO8_7 h),
   (fun h=>fO9_7 h),
   (fun h=>fO12_7 h),
   (fun h=>fO12_11 h),
   (fun h=>fO10_7 h),
   (fun _=>HD7)⟩
 ·rintro d a W hd ⟨u10,u11,u37,u38,u39,u40,u41,u42,u43,u44,u45,u46,u47,k0,lo,hi,g0,g1,hfr,fold,fL0,fC0,fL1,fC1,fL2,fC2,fI0,fF,fM,fE0,fE1,fB0,fZ0,fS0,fX0,fA1,fO8_7,fO9_7,fO12_7,fO12_11,fO10_7,fO13_7⟩
  have hd2:∀i,i<14→d i=true:=hd
  clear hd
  have HD0:d 0=true:=hd2 0 (by omega)
  have HD1:d 1=true:=hd2 1 (by omega)
  have HD2:d 2=true:=hd2 2 (by omega)
  have HD3:d 3=true:=hd2 3 (by omega)
  have HD4:d 4=true:=hd2 4 (by omega)
  have HD5:d 5=true:=hd2 5 (by omega)
  have HD6:d 6=true:=hd2 6 (by omega)
  have HD7:d 7=true:=hd2 7 (by omega)
  have HD8:d 8=true:=hd2 8 (by omega)
  have HD9:d 9=true:=hd2 9 (by omega)
  have HD10:d 10=true:=hd2 10 (by omega)
  have HD11:d 11=true:=hd2 11 (by omega)
  have HD12:d 12=true:=hd2 12 (by omega)
  have HD13:d 13=true:=hd2 13 (by omega)
  obtain ⟨eF,lF,hF,z0,y0,rF⟩:=fF HD7
  obtain ⟨hp0,hlo0,hlt0⟩:=fB0 HD11
  rw [hp0] at hfr
  have ha_1:=fA1 HD13
  rw [ha_1] at hfr
  show K a W
  rw [hfr]
  exact HK.out k0 lo hi g0 g1 u37 u38 u39 u40 u41 u42 u43 u44 u45 u46 u47 W fold lF hF rF (fS0 HD12) hlo0 hlt0 (fX0 HD11 HD7)
def regionAtreg9_TurnCipherB (n:Nat):Code→Option Code
 | .region i ops b=>if i=n then some (.region i ops b) else none
 | .seq a b=>match regionAtreg9_TurnCipherB n a with
   | some c=>some c
   | none=>regionAtreg9_TurnCipherB n b
 | .block _ c=>regionAtreg9_TurnCipherB n c
 | _=>none
set_option maxRecDepth 100000 in
set_option maxHeartbeats 8000000 in
theorem reg9_TurnCipherB (w2:World) (x0_0 x0_1 x0_2 x0_3:Value) (kb0:Nat) (x1_0:Value) (kb1:Nat) (x3_ : Value) (Np2:Int)
 (CR0:World→Value→Prop) (hCR0:∀W W' v,CR0 W v→Old W W'→CR0 W' v)
 (c0:∀W,Old w2 W→Calls Tryz.prog 10 #[.agg #[x0_0,x0_1,x0_2,x0_3]] W fun e w'=>∃v,e=.returned v∧Old W w'∧CR0 w' v)
 (b0:w2.heap[kb0]? = some (.cells #[x0_0,x0_1,x0_2,x0_3] 24 (0,0)))
 (CR1:World→Value→Prop) (hCR1:∀W W' v,CR1 W v→Old W W'→CR1 W' v)
 (c1:∀W,Old w2 W→Calls Tryz.prog 11 #[.agg #[x1_0]] W fun e w'=>∃v,e=.returned v∧Old W w'∧CR1 w' v)
 (b1:w2.heap[kb1]? = some (.cells #[x1_0] 27 (0,0)))
 (CR2:World→Value→Prop) (hCR2:∀W W' v,CR2 W v→Old W W'→CR2 W' v)
 (c2:∀W,Old w2 W→Calls Tryz.prog 12 #[x3_] W fun e w'=>∃v,e=.returned v∧Old W w'∧CR2 w' v)
 (RES:World→Nat→Nat→Array Value→Value→Prop) (far:∀W W' lo hi (g0:Array Value) (g1:Value),RES W lo hi g0 g1→(∀b,lo≤b→b<hi→W'.heap[b]? = W.heap[b]?)→W.heap.size≤W'.heap.size→RES W' lo hi g0 g1)
 (cf:∀W v0 v1 v2,Old w2 W→CR0 W v0→CR1 W v1→CR2 W v2→Calls Tryz.prog 22 #[v0,v1,.int .i64 Np2,v2] W fun e w'=>∃(g0:Array Value) (g1:Value),e=.returned (.tuple #[.agg g0,g1])∧Old W w'∧g0.size=1∧g0.all (·.oneCell')=true∧RES w' W.heap.size w'.heap.size g0 g1)
 (Q:Exit→Act→World→Prop) (K:Act→World→Prop) (a0:Act) (hsz:147≤a0.tmps.size) (ha2:a0.eval (.tmp 2)=.int .i64 Np2) (ha3:a0.eval (.tmp 3)=x3_) (ha4:a0.eval (.tmp 4)=.pointer (some ⟨kb0,0,none⟩)) (ha5:a0.eval (.tmp 5)=.pointer (some ⟨kb1,0,none⟩))
 (HK:Hid (∀(k0 lo hi:Nat) (g0:Array Value) (g1:Value) (u119 u120 u121 u122 u123 u124 u125 u126 u127 u128 u129:Value) (W:World),Old w2 W→w2.heap.size≤lo→hi≤W.heap.size→RES W lo hi g0 g1→W.heap[k0]? = some (.cells g0 32 (0,0))→w2.heap.size≤k0→k0<W.heap.size→(k0<lo∨hi≤k0)→K (putAll a0 [(20,.pointer (some ⟨k0,0,none⟩)),(21,g1),(119,u119),(120,u120),(121,u121),(122,u122),(123,u123),(124,u124),(125,u125),(126,u126),(127,u127),(128,u128),(129,u129)]) W)) :
 Code.wp Tryz.prog ((Tryz.f4.body.bind (regionAtreg9_TurnCipherB 38)).getD .skip) (Exit.then K Q) a0 w2:=by
 conv=>arg 2;whnf
 have e2:∀l,(putAll a0 l).eval (.tmp 2)=(getKey l 2).getD (a0.eval (.tmp 2)):=eval_putAll a0 2 (by omega)
 have e3:∀l,(putAll a0 l).eval (.tmp 3)=(getKey l 3).getD (a0.eval (.tmp 3)):=eval_putAll a0 3 (by omega)
 have e4:∀l,(putAll a0 l).eval (.tmp 4)=(getKey l 4).getD (a0.eval (.tmp 4)):=eval_putAll a0 4 (by omega)
 have e5:∀l,(putAll a0 l).eval (.tmp 5)=(getKey l 5).getD (a0.eval (.tmp 5)):=eval_putAll a0 5 (by omega)
 have e20:∀l,(putAll a0 l).eval (.tmp 20)=(getKey l 20).getD (a0.eval (.tmp 20)):=eval_putAll a0 20 (by omega)
 have e21:∀l,(putAll a0 l).eval (.tmp 21)=(getKey l 21).getD (a0.eval (.tmp 21)):=eval_putAll a0 21 (by omega)
 have e119:∀l,(putAll a0 l).eval (.tmp 119)=(getKey l 119).getD (a0.eval (.tmp 119)):=eval_putAll a0 119 (by omega)
 have e120:∀l,(putAll a0 l).eval (.tmp 120)=(getKey l 120).getD (a0.eval (.tmp 120)):=eval_putAll a0 120 (by omega)
 have e121:∀l,(putAll a0 l).eval (.tmp 121)=(getKey l 121).getD (a0.eval (.tmp 121)):=eval_putAll a0 121 (by omega)
 have e122:∀l,(putAll a0 l).eval (.tmp 122)=(getKey l 122).getD (a0.eval (.tmp 122)):=eval_putAll a0 122 (by omega)
 have e123:∀l,(putAll a0 l).eval (.tmp 123)=(getKey l 123).getD (a0.eval (.tmp 123)):=eval_putAll a0 123 (by omega)
 have e124:∀l,(putAll a0 l).eval (.tmp 124)=(getKey l 124).getD (a0.eval (.tmp 124)):=eval_putAll a0 124 (by omega)
 have e125:∀l,(putAll a0 l).eval (.tmp 125)=(getKey l 125).getD (a0.eval (.tmp 125)):=eval_putAll a0 125 (by omega)
 have e126:∀l,(putAll a0 l).eval (.tmp 126)=(getKey l 126).getD (a0.eval (.tmp 126)):=eval_putAll a0 126 (by omega)
 have e127:∀l,(putAll a0 l).eval (.tmp 127)=(getKey l 127).getD (a0.eval (.tmp 127)):=eval_putAll a0 127 (by omega)
 have e128:∀l,(putAll a0 l).eval (.tmp 128)=(getKey l 128).getD (a0.eval (.tmp 128)):=eval_putAll a0 128 (by omega)
 have e129:∀l,(putAll a0 l).eval (.tmp 129)=(getKey l 129).getD (a0.eval (.tmp 129)):=eval_putAll a0 129 (by omega)
 refine wp_region_steps (fun d a W=>∃(u20 u21 u119 u120 u121 u122 u123 u124 u125 u126 u127 u128 u129:Value) (k0 lo hi:Nat) (g0:Array Value) (g1:Value),a=(putAll a0 [(20,u20),(21,u21),(119,u119),(120,u120),(121,u121),(122,u122),(123,u123),(124,u124),(125,u125),(126,u126),(127,u127),(128,u128),(129,u129)])∧(Old w2 W)∧(d 0=true→u120=.agg #[x0_0,x0_1,x0_2,x0_3])∧(d 1=true→d 7=false→CR0 W u121)∧(d 2=true→u122=.agg #[x1_0])∧(d 3=true→d 7=false→CR1 W u123)∧(d 5=true→u125=x3_)∧(d 6=true→d 7=false→CR2 W u126)∧(d 4=true→u124=.int .i64 Np2)∧(d 7=true→u127=.tuple #[.agg g0,g1]∧w2.heap.size≤lo∧hi≤W.heap.size∧g0.size=1∧g0.all (·.oneCell')=true∧RES W lo hi g0 g1)∧(d 8=true→u119=.tuple #[.agg g0,g1])∧(d 9=true→u128=.agg g0)∧(d 10=true→u129=g1)∧(d 11=true→u20=.pointer (some ⟨k0,0,none⟩)∧w2.heap.size≤k0∧k0<W.heap.size)∧(d 11=true→d 12=false→W.heap[k0]? = some (.cells #[.slice none 0 0] 32 (0,0)))∧(d 12=true→W.heap[k0]? = some (.cells g0 32 (0,0)))∧(d 11=true→d 7=true→(k0<lo∨hi≤k0))∧(d 13=true→u21=g1)∧(d 8=true→d 7=true)∧(d 9=true→d 7=true)∧(d 12=true→d 7=true)∧(d 12=true→d 11=true)∧(d 10=true→d 7=true)∧(d 13=true→d 7=true)) rfl (by decide +kernel) (by decide +kernel) ?_ ⟨?_,?_,?_,?_,?_,?_,?_,?_,?_,?_,?_,?_,?_,?_,trivial⟩ ?_
 ·exact ⟨_,_,_,_,_,_,_,_,_,_,_,_,_,0,0,0,#[],undef,(putAll_self a0 [20,21,119,120,121,122,123,124,125,126,127,128,129] (by intro s hs;simp at hs;omega)).symm,Below.drew (Old.refl w2),(fun h=>by cases h),(fun h=>by cases h),(fun h=>by cases h),(fun h=>by cases h),(fun h=>by cases h),(fun h=>by cases h),(fun h=>by cases h),(fun h=>by cases h),(fun h=>by cases h),(fun h=>by cases h),(fun h=>by cases h),(fun h=>by cases h),(fun h=>by cases h),(fun h=>by cases h),(fun h=>by cases h),(fun h=>by cases h),(fun h=>by cases h),(fun h=>by cases h),(fun h=>by cases h),(fun h=>by cases h),(fun h=>by cases h),(fun h=>by cases h)⟩
 ·rintro d a W ⟨u20,u21,u119,u120,u121,u122,u123,u124,u125,u126,u127,u128,u129,k0,lo,hi,g0,g1,hfr,fold,fL0,fC0,fL1,fC1,fL2,fC2,fI0,fF,fM,fE0,fE1,fB0,fZ0,fS0,fX0,fA1,fO8_7,fO9_7,fO12_7,fO12_11,fO10_7,fO13_7⟩ hi_ hd
  simp [Region.binds] at hd
  refine op_load (k:=kb0) (by rw [hfr,e4];exact ha4) (fold.block _ (lt_of_some b0) |>.trans b0) Tryz.underlying24 rfl (by kernel_rfl) ?_
  exact ⟨u20,u21,u119,.agg #[x0_0,x0_1,x0_2,x0_3],u121,u122,u123,u124,u125,u126,u127,u128,u129,k0,lo,hi,g0,g1,(by rw [hfr];exact putAll_put a0 _ _ _ rfl),(fold),
   (fun _=>rfl),
   (fun h0 h1=>fC0 h0 h1),
   (fun h0=>fL1 h0),
   (fun h0 h1=>fC1 h0 h1),
   (fun h0=>fL2 h0),
   (fun h0 h1=>fC2 h0 h1),
   (fun h0=>fI0 h0),
   (fun h0=>fF h0),
   (fun h0=>fM h0),
   (fun h0=>fE0 h0),
   (fun h0=>fE1 h0),
   (fun h0=>fB0 h0),
   (fun h0 h1=>fZ0 h0 h1),
   (fun h0=>fS0 h0),
   (fun h0 h1=>fX0 h0 h1),
   (fun h0=>fA1 h0),
   (fun h=>fO8_7 h),
   (fun h=>fO9_7 h),
   (fun h=>fO12_7 h),
   (fun h=>fO12_11 h),
   (fun h=>fO10_7 h),
   (fun h=>fO13_7 h)⟩
 ·rintro d a W ⟨u20,u21,u119,u120,u121,u122,u123,u124,u125,u126,u127,u128,u129,k0,lo,hi,g0,g1,hfr,fold,fL0,fC0,fL1,fC1,fL2,fC2,fI0,fF,fM,fE0,fE1,fB0,fZ0,fS0,fX0,fA1,fO8_7,fO9_7,fO12_7,fO12_11,fO10_7,fO13_7⟩ hi_ hd
  simp [Region.binds] at hd
  have HD0:d 0=true:=by simp only [hd]
  clear hd
  have hv:=fL0 HD0
  refine op_call_ret Tryz.call10 (vs:=#[.agg #[x0_0,x0_1,x0_2,x0_3]]) (by simp [hfr,e120,getKey,hv]) (c0 W fold) ?_
  rintro v W' ⟨g,hcr⟩
  exact ⟨u20,u21,u119,u120,v,u122,u123,u124,u125,u126,u127,u128,u129,k0,lo,hi,g0,g1,(by rw [hfr];exact putAll_put a0 _ _ _ rfl),(Old.trans fold g),
   (fun h0=>fL0 h0),
   (fun _ _=>hcr),
   (fun h0=>fL1 h0),
   (fun h0 h1=>hCR1 _ _ _ (fC1 h0 h1) g),
   (fun h0=>fL2 h0),
   (fun h0 h1=>hCR2 _ _ _ (fC2 h0 h1) g),
   (fun h0=>fI0 h0),
   (fun h0=>by obtain ⟨e1,e2,e3,z0,y0,e9⟩:=fF h0;exact ⟨e1,e2,Nat.le_trans e3 g.size,z0,y0,far _ _ _ _ _ _ e9 (fun b _ hb=>g.block b (by omega)) g.size⟩),
   (fun h0=>fM h0),
   (fun h0=>fE0 h0),
   (fun h0=>fE1 h0),
   (fun h0=>by obtain ⟨e1,e2,e3⟩:=fB0 h0;exact ⟨e1,e2,Nat.lt_of_lt_of_le e3 g.size⟩),
   (fun h0 h1=>(g.block _ (lt_of_some (fZ0 h0 h1))).trans (fZ0 h0 h1)),
   (fun h0=>(g.block _ (lt_of_some (fS0 h0))).trans (fS0 h0)),
   (fun h0 h1=>fX0 h0 h1),
   (fun h0=>fA1 h0),
   (fun h=>fO8_7 h),
   (fun h=>fO9_7 h),
   (fun h=>fO12_7 h),
   (fun h=>fO12_11 h),
   (fun h=>fO10_7 h),
   (fun h=>fO13_7 h)⟩
 ·rintro d a W ⟨u20,u21,u119,u120,u121,u122,u123,u124,u125,u126,u127,u128,u129,k0,lo,hi,g0,g1,hfr,fold,fL0,fC0,fL1,fC1,fL2,fC2,fI0,fF,fM,fE0,fE1,fB0,fZ0,fS0,fX0,fA1,fO8_7,fO9_7,fO12_7,fO12_11,fO10_7,fO13_7⟩ hi_ hd
  simp [Region.binds] at hd
  refine op_load (k:=kb1) (by rw [hfr,e5];exact ha5) (fold.block _ (lt_of_some b1) |>.trans b1) Tryz.underlying27 rfl (by kernel_rfl) ?_
  exact ⟨u20,u21,u119,u120,u121,.agg #[x1_0],u123,u124,u125,u126,u127,u128,u129,k0,lo,hi,g0,g1,(by rw [hfr];exact putAll_put a0 _ _ _ rfl),(fold),
   (fun h0=>fL0 h0),
   (fun h0 h1=>fC0 h0 h1),
   (fun _=>rfl),
   (fun h0 h1=>fC1 h0 h1),
   (fun h0=>fL2 h0),
   (fun h0 h1=>fC2 h0 h1),
   (fun h0=>fI0 h0),
   (fun h0=>fF h0),
   (fun h0=>fM h0),
   (fun h0=>fE0 h0),
   (fun h0=>fE1 h0),
   (fun h0=>fB0 h0),
   (fun h0 h1=>fZ0 h0 h1),
   (fun h0=>fS0 h0),
   (fun h0 h1=>fX0 h0 h1),
   (fun h0=>fA1 h0),
   (fun h=>fO8_7 h),
   (fun h=>fO9_7 h),
   (fun h=>fO12_7 h),
   (fun h=>fO12_11 h),
   (fun h=>fO10_7 h),
   (fun h=>fO13_7 h)⟩
 ·rintro d a W ⟨u20,u21,u119,u120,u121,u122,u123,u124,u125,u126,u127,u128,u129,k0,lo,hi,g0,g1,hfr,fold,fL0,fC0,fL1,fC1,fL2,fC2,fI0,fF,fM,fE0,fE1,fB0,fZ0,fS0,fX0,fA1,fO8_7,fO9_7,fO12_7,fO12_11,fO10_7,fO13_7⟩ hi_ hd
  simp [Region.binds] at hd
  have HD2:d 2=true:=by simp only [hd]
  clear hd
  have hv:=fL1 HD2
  refine op_call_ret Tryz.call11 (vs:=#[.agg #[x1_0]]) (by simp [hfr,e122,getKey,hv]) (c1 W fold) ?_
  rintro v W' ⟨g,hcr⟩
  exact ⟨u20,u21,u119,u120,u121,u122,v,u124,u125,u126,u127,u128,u129,k0,lo,hi,g0,g1,(by rw [hfr];exact putAll_put a0 _ _ _ rfl),(Old.trans fold g),
   (fun h0=>fL0 h0),
   (fun h0 h1=>hCR0 _ _ _ (fC0 h0 h1) g),
   (fun h0=>fL1 h0),
   (fun _ _=>hcr),
   (fun h0=>fL2 h0),
   (fun h0 h1=>hCR2 _ _ _ (fC2 h0 h1) g),
   (fun h0=>fI0 h0),
   (fun h0=>by obtain ⟨e1,e2,e3,z0,y0,e9⟩:=fF h0;exact ⟨e1,e2,Nat.le_trans e3 g.size,z0,y0,far _ _ _ _ _ _ e9 (fun b _ hb=>g.block b (by omega)) g.size⟩),
   (fun h0=>fM h0),
   (fun h0=>fE0 h0),
   (fun h0=>fE1 h0),
   (fun h0=>by obtain ⟨e1,e2,e3⟩:=fB0 h0;exact ⟨e1,e2,Nat.lt_of_lt_of_le e3 g.size⟩),
   (fun h0 h1=>(g.block _ (lt_of_some (fZ0 h0 h1))).trans (fZ0 h0 h1)),
   (fun h0=>(g.block _ (lt_of_some (fS0 h0))).trans (fS0 h0)),
   (fun h0 h1=>fX0 h0 h1),
   (fun h0=>fA1 h0),
   (fun h=>fO8_7 h),
   (fun h=>fO9_7 h),
   (fun h=>fO12_7 h),
   (fun h=>fO12_11 h),
   (fun h=>fO10_7 h),
   (fun h=>fO13_7 h)⟩
 ·rintro d a W ⟨u20,u21,u119,u120,u121,u122,u123,u124,u125,u126,u127,u128,u129,k0,lo,hi,g0,g1,hfr,fold,fL0,fC0,fL1,fC1,fL2,fC2,fI0,fF,fM,fE0,fE1,fB0,fZ0,fS0,fX0,fA1,fO8_7,fO9_7,fO12_7,fO12_11,fO10_7,fO13_7⟩ hi_ hd
  simp [Region.binds] at hd
  refine op_move ?_
  rw [show a.eval (.tmp 2)=.int .i64 Np2 by rw [hfr,e2];exact ha2]
  exact ⟨u20,u21,u119,u120,u121,u122,u123,.int .i64 Np2,u125,u126,u127,u128,u129,k0,lo,hi,g0,g1,(by rw [hfr];exact putAll_put a0 _ _ _ rfl),(fold),
   (fun h0=>fL0 h0),
   (fun h0 h1=>fC0 h0 h1),
   (fun h0=>fL1 h0),
   (fun h0 h1=>fC1 h0 h1),
   (fun h0=>fL2 h0),
   (fun h0 h1=>fC2 h0 h1),
   (fun _=>rfl),
   (fun h0=>fF h0),
   (fun h0=>fM h0),
   (fun h0=>fE0 h0),
   (fun h0=>fE1 h0),
   (fun h0=>fB0 h0),
   (fun h0 h1=>fZ0 h0 h1),
   (fun h0=>fS0 h0),
   (fun h0 h1=>fX0 h0 h1),
   (fun h0=>fA1 h0),
   (fun h=>fO8_7 h),
   (fun h=>fO9_7 h),
   (fun h=>fO12_7 h),
   (fun h=>fO12_11 h),
   (fun h=>fO10_7 h),
   (fun h=>fO13_7 h)⟩
 ·rintro d a W ⟨u20,u21,u119,u120,u121,u122,u123,u124,u125,u126,u127,u128,u129,k0,lo,hi,g0,g1,hfr,fold,fL0,fC0,fL1,fC1,fL2,fC2,fI0,fF,fM,fE0,fE1,fB0,fZ0,fS0,fX0,fA1,fO8_7,fO9_7,fO12_7,fO12_11,fO10_7,fO13_7⟩ hi_ hd
  simp [Region.binds] at hd
  refine op_move ?_
  rw [show a.eval (.tmp 3)=x3_ by rw [hfr,e3];exact ha3]
  exact ⟨u20,u21,u119,u120,u121,u122,u123,u124,x3_,u126,u127,u128,u129,k0,lo,hi,g0,g1,(by rw [hfr];exact putAll_put a0 _ _ _ rfl),(fold),
   (fun h0=>fL0 h0),
   (fun h0 h1=>fC0 h0 h1),
   (fun h0=>fL1 h0),
   (fun h0 h1=>fC1 h0 h1),
   (fun _=>rfl),
   (fun h0 h1=>fC2 h0 h1),
   (fun h0=>fI0 h0),
   (fun h0=>fF h0),
   (fun h0=>fM h0),
   (fun h0=>fE0 h0),
   (fun h0=>fE1 h0),
   (fun h0=>fB0 h0),
   (fun h0 h1=>fZ0 h0 h1),
   (fun h0=>fS0 h0),
   (fun h0 h1=>fX0 h0 h1),
   (fun h0=>fA1 h0),
   (fun h=>fO8_7 h),
   (fun h=>fO9_7 h),
   (fun h=>fO12_7 h),
   (fun h=>fO12_11 h),
   (fun h=>fO10_7 h),
   (fun h=>fO13_7 h)⟩
 ·rintro d a W ⟨u20,u21,u119,u120,u121,u122,u123,u124,u125,u126,u127,u128,u129,k0,lo,hi,g0,g1,hfr,fold,fL0,fC0,fL1,fC1,fL2,fC2,fI0,fF,fM,fE0,fE1,fB0,fZ0,fS0,fX0,fA1,fO8_7,fO9_7,fO12_7,fO12_11,fO10_7,fO13_7⟩ hi_ hd
  simp [Region.binds] at hd
  have HD5:d 5=true:=by simp only [hd]
  clear hd
  have hv:=fL2 HD5
  refine op_call_ret Tryz.call12 (vs:=#[x3_]) (by simp [hfr,e125,getKey,hv]) (c2 W fold) ?_
  rintro v W' ⟨g,hcr⟩
  exact ⟨u20,u21,u119,u120,u121,u122,u123,u124,u125,v,u127,u128,u129,k0,lo,hi,g0,g1,(by rw [hfr];exact putAll_put a0 _ _ _ rfl),(Old.trans fold g),
   (fun h0=>fL0 h0),
   (fun h0 h1=>hCR0 _ _ _ (fC0 h0 h1) g),
   (fun h0=>fL1 h0),
   (fun h0 h1=>hCR1 _ _ _ (fC1 h0 h1) g),
   (fun h0=>fL2 h0),
   (fun _ _=>hcr),
   (fun h0=>fI0 h0),
   (fun h0=>by obtain ⟨e1,e2,e3,z0,y0,e9⟩:=fF h0;exact ⟨e1,e2,Nat.le_trans e3 g.size,z0,y0,far _ _ _ _ _ _ e9 (fun b _ hb=>g.block b (by omega)) g.size⟩),
   (fun h0=>fM h0),
   (fun h0=>fE0 h0),
   (fun h0=>fE1 h0),
   (fun h0=>by obtain ⟨e1,e2,e3⟩:=fB0 h0;exact ⟨e1,e2,Nat.lt_of_lt_of_le e3 g.size⟩),
   (fun h0 h1=>(g.block _ (lt_of_some (fZ0 h0 h1))).trans (fZ0 h0 h1)),
   (fun h0=>(g.block _ (lt_of_some (fS0 h0))).trans (fS0 h0)),
   (fun h0 h1=>fX0 h0 h1),
   (fun h0=>fA1 h0),
   (fun h=>fO8_7 h),
   (fun h=>fO9_7 h),
   (fun h=>fO12_7 h),
   (fun h=>fO12_11 h),
   (fun h=>fO10_7 h),
   (fun h=>fO13_7 h)⟩
 ·rintro d a W ⟨u20,u21,u119,u120,u121,u122,u123,u124,u125,u126,u127,u128,u129,k0,lo,hi,g0,g1,hfr,fold,fL0,fC0,fL1,fC1,fL2,fC2,fI0,fF,fM,fE0,fE1,fB0,fZ0,fS0,fX0,fA1,fO8_7,fO9_7,fO12_7,fO12_11,fO10_7,fO13_7⟩ hi_ hd
  simp [Region.binds] at hd
  have HD1:d 1=true:=by simp only [hd]
  have HD3:d 3=true:=by simp only [hd]
  have HD4:d 4=true:=by simp only [hd]
  have HD6:d 6=true:=by simp only [hd]
  clear hd
  have hvI0:=fI0 HD4
  refine op_call_ret (R:=fun v w'=>∃(g0:Array Value) (g1:Value),v=.tuple #[.agg g0,g1]∧Old W w'∧g0.size=1∧g0.all (·.oneCell')=true∧RES w' W.heap.size w'.heap.size g0 g1) Tryz.call22 (vs:=#[u121,u123,.int .i64 Np2,u126]) (by simp [hfr,e121,e123,e126,e124,hvI0,getKey]) ((cf W _ _ _ fold (fC0 HD1 hi_) (fC1 HD3 hi_) (fC2 HD6 hi_)).mono (fun e w' h=>by obtain ⟨g0,g1,rfl,h⟩:=h;exact ⟨_,rfl,g0,g1,rfl,h⟩)) ?_
  rintro v W' ⟨r0,r1,rfl,g,z0,y0,hres⟩
  exact ⟨u20,u21,u119,u120,u121,u122,u123,u124,u125,u126,.tuple #[.agg r0,r1],u128,u129,k0,W.heap.size,W'.heap.size,r0,r1,(by rw [hfr];exact putAll_put a0 _ _ _ rfl),(Old.trans fold g),
   (fun h0=>fL0 h0),
   (fun h0 h1=>by cases h1),
   (fun h0=>fL1 h0),
   (fun h0 h1=>by cases h1),
   (fun h0=>fL2 h0),
   (fun h0 h1=>by cases h1),
   (fun h0=>fI0 h0),
   (fun _=>⟨rfl,(fold.size),Nat.le_refl _,z0,y0,hres⟩),
   (fun h0=>by have hx_:=fO8_7 h0;rw [hi_] at hx_;cases hx_),
   (fun h0=>by have hx_:=fO9_7 h0;rw [hi_] at hx_;cases hx_),
   (fun h0=>by have hx_:=fO10_7 h0;rw [hi_] at hx_;cases hx_),
   (fun h0=>by obtain ⟨e1,e2,e3⟩:=fB0 h0;exact ⟨e1,e2,Nat.lt_of_lt_of_le e3 g.size⟩),
   (fun h0 h1=>(g.block _ (lt_of_some (fZ0 h0 h1))).trans (fZ0 h0 h1)),
   (fun h0=>by have hx_:=fO12_7 h0;rw [hi_] at hx_;cases hx_),
   (fun hb _=>Or.inl (fB0 hb).2.2),
   (fun h0=>by have hx_:=fO13_7 h0;rw [hi_] at hx_;cases hx_),
   (fun _=>rfl),
   (fun _=>rfl),
   (fun _=>rfl),
   (fun h=>fO12_11 h),
   (fun _=>rfl),
   (fun _=>rfl)⟩
 ·rintro d a W ⟨u20,u21,u119,u120,u121,u122,u123,u124,u125,u126,u127,u128,u129,k0,lo,hi,g0,g1,hfr,fold,fL0,fC0,fL1,fC1,fL2,fC2,fI0,fF,fM,fE0,fE1,fB0,fZ0,fS0,fX0,fA1,fO8_7,fO9_7,fO12_7,fO12_11,fO10_7,fO13_7⟩ hi_ hd
  simp [Region.binds] at hd
  have HD7:d 7=true:=by simp only [hd]
  clear hd
  have hv:=(fF HD7).1
  refine op_move ?_
  rw [show a.eval (.tmp 127)=.tuple #[.agg g0,g1] by rw [hfr,e127];exact hv]
  exact ⟨u20,u21,.tuple #[.agg g0,g1],u120,u121,u122,u123,u124,u125,u126,u127,u128,u129,k0,lo,hi,g0,g1,(by rw [hfr];exact putAll_put a0 _ _ _ rfl),(fold),
   (fun h0=>fL0 h0),
   (fun h0 h1=>fC0 h0 h1),
   (fun h0=>fL1 h0),
   (fun h0 h1=>fC1 h0 h1),
   (fun h0=>fL2 h0),
   (fun h0 h1=>fC2 h0 h1),
   (fun h0=>fI0 h0),
   (fun h0=>fF h0),
   (fun _=>rfl),
   (fun h0=>fE0 h0),
   (fun h0=>fE1 h0),
   (fun h0=>fB0 h0),
   (fun h0 h1=>fZ0 h0 h1),
   (fun h0=>fS0 h0),
   (fun h0 h1=>fX0 h0 h1),
   (fun h0=>fA1 h0),
   (fun _=>HD7),
   (fun h=>fO9_7 h),
   (fun h=>fO12_7 h),
   (fun h=>fO12_11 h),
   (fun h=>fO10_7 h),
   (fun h=>fO13_7 h)⟩
 ·rintro d a W ⟨u20,u21,u119,u120,u121,u122,u123,u124,u125,u126,u127,u128,u129,k0,lo,hi,g0,g1,hfr,fold,fL0,fC0,fL1,fC1,fL2,fC2,fI0,fF,fM,fE0,fE1,fB0,fZ0,fS0,fX0,fA1,fO8_7,fO9_7,fO12_7,fO12_11,fO10_7,fO13_7⟩ hi_ hd
  simp [Region.binds] at hd
  have HD8:d 8=true:=by simp only [hd]
  have HD7:d 7=true:=fO8_7 HD8
  clear hd
  have hv:=fM HD8
  refine op_extract (by rw [hfr,e119];exact hv) rfl ?_
  exact ⟨u20,u21,u119,u120,u121,u122,u123,u124,u125,u126,u127,.agg g0,u129,k0,lo,hi,g0,g1,(by rw [hfr];exact putAll_put a0 _ _ _ rfl),(fold),
   (fun h0=>fL0 h0),
   (fun h0 h1=>fC0 h0 h1),
   (fun h0=>fL1 h0),
   (fun h0 h1=>fC1 h0 h1),
   (fun h0=>fL2 h0),
   (fun h0 h1=>fC2 h0 h1),
   (fun h0=>fI0 h0),
   (fun h0=>fF h0),
   (fun h0=>fM h0),
   (fun _=>rfl),
   (fun h0=>fE1 h0),
   (fun h0=>fB0 h0),
   (fun h0 h1=>fZ0 h0 h1),
   (fun h0=>fS0 h0),
   (fun h0 h1=>fX0 h0 h1),
   (fun h0=>fA1 h0),
   (fun h=>fO8_7 h),
   (fun _=>HD7),
   (fun h=>fO12_7 h),
   (fun h=>fO12_11 h),
   (fun h=>fO10_7 h),
   (fun h=>fO13_7 h)⟩
 ·rintro d a W ⟨u20,u21,u119,u120,u121,u122,u123,u124,u125,u126,u127,u128,u129,k0,lo,hi,g0,g1,hfr,fold,fL0,fC0,fL1,fC1,fL2,fC2,fI0,fF,fM,fE0,fE1,fB0,fZ0,fS0,fX0,fA1,fO8_7,fO9_7,fO12_7,fO12_11,fO10_7,fO13_7⟩ hi_ hd
  simp [Region.binds] at hd
  have HD8:d 8=true:=by simp only [hd]
  have HD7:d 7=true:=fO8_7 HD8
  clear hd
  have hv:=fM HD8
  refine op_extract (by rw [hfr,e119];exact hv) rfl ?_
  exact ⟨u20,u21,u119,u120,u121,u122,u123,u124,u125,u126,u127,u128,g1,k0,lo,hi,g0,g1,(by rw [hfr];exact putAll_put a0 _ _ _ rfl),(fold),
   (fun h0=>fL0 h0),
   (fun h0 h1=>fC0 h0 h1),
   (fun h0=>fL1 h0),
   (fun h0 h1=>fC1 h0 h1),
   (fun h0=>fL2 h0),
   (fun h0 h1=>fC2 h0 h1),
   (fun h0=>fI0 h0),
   (fun h0=>fF h0),
   (fun h0=>fM h0),
   (fun h0=>fE0 h0),
   (fun _=>rfl),
   (fun h0=>fB0 h0),
   (fun h0 h1=>fZ0 h0 h1),
   (fun h0=>fS0 h0),
   (fun h0 h1=>fX0 h0 h1),
   (fun h0=>fA1 h0),
   (fun h=>fO8_7 h),
   (fun h=>fO9_7 h),
   (fun h=>fO12_7 h),
   (fun h=>fO12_11 h),
   (fun _=>HD7),
   (fun h=>fO13_7 h)⟩
 ·rintro d a W ⟨u20,u21,u119,u120,u121,u122,u123,u124,u125,u126,u127,u128,u129,k0,lo,hi,g0,g1,hfr,fold,fL0,fC0,fL1,fC1,fL2,fC2,fI0,fF,fM,fE0,fE1,fB0,fZ0,fS0,fX0,fA1,fO8_7,fO9_7,fO12_7,fO12_11,fO10_7,fO13_7⟩ hi_ hd
  simp [Region.binds] at hd
  refine op_alloc (z:=.agg #[.slice none 0 0]) (by kernel_rfl) ?_
  have g:Old W (W.alloc (.cells #[.slice none 0 0] 32)):=(Old.refl W).alloc _
  exact ⟨.pointer (some ⟨W.heap.size,0,none⟩),u21,u119,u120,u121,u122,u123,u124,u125,u126,u127,u128,u129,W.heap.size,lo,hi,g0,g1,(by rw [hfr];exact putAll_put a0 _ _ _ rfl),(Old.trans fold g),
   (fun h0=>fL0 h0),
   (fun h0 h1=>hCR0 _ _ _ (fC0 h0 h1) g),
   (fun h0=>fL1 h0),
   (fun h0 h1=>hCR1 _ _ _ (fC1 h0 h1) g),
   (fun h0=>fL2 h0),
   (fun h0 h1=>hCR2 _ _ _ (fC2 h0 h1) g),
   (fun h0=>fI0 h0),
   (fun h0=>by obtain ⟨e1,e2,e3,z0,y0,e9⟩:=fF h0;exact ⟨e1,e2,Nat.le_trans e3 g.size,z0,y0,far _ _ _ _ _ _ e9 (fun b _ hb=>g.block b (by omega)) g.size⟩),
   (fun h0=>fM h0),
   (fun h0=>fE0 h0),
   (fun h0=>fE1 h0),
   (fun _=>⟨rfl,fold.size,by simp⟩),
   (fun _ _=>heap_alloc_new W _),
   (fun h0=>by have hx_:=fO12_11 h0;rw [hi_] at hx_;cases hx_),
   (fun _ hf=>Or.inr (fF hf).2.2.1),
   (fun h0=>fA1 h0),
   (fun h=>fO8_7 h),
   (fun h=>fO9_7 h),
   (fun h=>fO12_7 h),
   (fun _=>rfl),
   (fun h=>fO10_7 h),
   (fun h=>fO13_7 h)⟩
 ·rintro d a W ⟨u20,u21,u119,u120,u121,u122,u123,u124,u125,u126,u127,u128,u129,k0,lo,hi,g0,g1,hfr,fold,fL0,fC0,fL1,fC1,fL2,fC2,fI0,fF,fM,fE0,fE1,fB0,fZ0,fS0,fX0,fA1,fO8_7,fO9_7,fO12_7,fO12_11,fO10_7,fO13_7⟩ hi_ hd
  simp [Region.binds] at hd
  have HD7:d 7=true:=by simp only [hd]
  have HD9:d 9=true:=by simp only [hd]
  have HD11:d 11=true:=by simp only [hd]
  clear hd
  obtain ⟨hp,hlo,hlt⟩:=fB0 HD11
  have hv:=fE0 HD9
  have hz:=fZ0 HD11 hi_
  obtain ⟨eF,lF,hF,z0,y0,rF⟩:=fF HD7
  have hx:=fX0 HD11 HD7
  refine op_store (k:=k0) (by rw [hfr,e20];exact hp) (by rw [hfr,e128];exact hv) hz (by rw [z0];kernel_rfl) (by rw [z0];rfl) y0 ?_
  have hsz2:(W.setRow k0 g0).heap.size=W.heap.size:=size_setRow _ _ _
  have hot:∀b,b≠k0→(W.setRow k0 g0).heap[b]? = W.heap[b]?:=fun b hb=>heap_setRow_other _ _ _ _ hb
  exact ⟨u20,u21,u119,u120,u121,u122,u123,u124,u125,u126,u127,u128,u129,k0,lo,hi,g0,g1,hfr,(old_setRow fold hlo _),
   (fun h0=>fL0 h0),
   (fun h0 h1=>by have hx_ : d 7=false:=h1;rw [HD7] at hx_;cases hx_),
   (fun h0=>fL1 h0),
   (fun h0 h1=>by have hx_ : d 7=false:=h1;rw [HD7] at hx_;cases hx_),
   (fun h0=>fL2 h0),
   (fun h0 h1=>by have hx_ : d 7=false:=h1;rw [HD7] at hx_;cases hx_),
   (fun h0=>fI0 h0),
   (fun h0=>⟨eF,lF,by rw [hsz2];exact hF,z0,y0,far _ _ _ _ _ _ rF (fun b h1 h2=>hot b (by omega)) (by rw [hsz2];exact Nat.le_refl _)⟩),
   (fun h0=>fM h0),
   (fun h0=>fE0 h0),
   (fun h0=>fE1 h0),
   (fun h0=>⟨hp,hlo,by rw [hsz2];exact hlt⟩),
   (fun h0 h1=>by cases h1),
   (fun _=>heap_setRow_same hz),
   (fun h0 h1=>fX0 h0 h1),
   (fun h0=>fA1 h0),
   (fun h=>fO8_7 h),
   (fun h=>fO9_7 h),
   (fun _=>HD7),
   (fun _=>HD11),
   (fun h=>fO10_7 h),
   (fun h=>fO13_7 h)⟩
 ·rintro d a W ⟨u20,u21,u119,u120,u121,u122,u123,u124,u125,u126,u127,u128,u129,k0,lo,hi,g0,g1,hfr,fold,fL0,fC0,fL1,fC1,fL2,fC2,fI0,fF,fM,fE0,fE1,fB0,fZ0,fS0,fX0,fA1,fO8_7,fO9_7,fO12_7,fO12_11,fO10_7,fO13_7⟩ hi_ hd
  simp [Region.binds] at hd
  have HD7:d 7=true:=by simp only [hd]
  have HD10:d 10=true:=by simp only [hd]
  clear hd
  have hv:=fE1 HD10
  refine op_assign ?_
  rw [show a.eval (.tmp 129)=g1 by rw [hfr,e129];exact hv]
  exact ⟨u20,g1,u119,u120,u121,u122,u123,u124,u125,u126,u127,u128,u129,k0,lo,hi,g0,g1,(by rw [hfr];exact putAll_put a0 _ _ _ rfl),(fold),
   (fun h0=>fL0 h0),
   (fun h0 h1=>fC0 h0 h1),
   (fun h0=>fL1 h0),
   (fun h0 h1=>fC1 h0 h1),
   (fun h0=>fL2 h0),
   (fun h0 h1=>fC2 h0 h1),
   (fun h0=>fI0 h0),
   (fun h0=>fF h0),
   (fun h0=>fM h0),
   (fun h0=>fE0 h0),
   (fun h0=>fE1 h0),
   (fun h0=>fB0 h0),
   (fun h0 h1=>fZ0 h0 h1),
   (fun h0=>fS0 h0),
   (fun h0 h1=>fX0 h0 h1),
   (fun _=>rfl),
   (fun h=>fO8_7 h),
   (fun h=>fO9_7 h),
   (fun h=>fO12_7 h),
   (fun h=>fO12_11 h),
   (fun h=>fO10_7 h),
   (fun _=>HD7)⟩
 ·rintro d a W hd ⟨u20,u21,u119,u120,u121,u122,u123,u124,u125,u126,u127,u128,u129,k0,lo,hi,g0,g1,hfr,fold,fL0,fC0,fL1,fC1,fL2,fC2,fI0,fF,fM,fE0,fE1,fB0,fZ0,fS0,fX0,fA1,fO8_7,fO9_7,fO12_7,fO12_11,fO10_7,fO13_7⟩
  have hd2:∀i,i<14→d i=true:=hd
  clear hd
  have HD0:d 0=true:=hd2 0 (by omega)
  have HD1:d 1=true:=hd2 1 (by omega)
  have HD2:d 2=true:=hd2 2 (by omega)
  have HD3:d 3=true:=hd2 3 (by omega)
  have HD4:d 4=true:=hd2 4 (by omega)
  have HD5:d 5=true:=hd2 5 (by omega)
  have HD6:d 6=true:=hd2 6 (by omega)
  have HD7:d 7=true:=hd2 7 (by omega)
  have HD8:d 8=true:=hd2 8 (by omega)
  have HD9:d 9=true:=hd2 9 (by omega)
  have HD10:d 10=true:=hd2 10 (by omega)
  have HD11:d 11=true:=hd2 11 (by omega)
  have HD12:d 12=true:=hd2 12 (by omega)
  have HD13:d 13=true:=hd2 13 (by omega)
  obtain ⟨eF,lF,hF,z0,y0,rF⟩:=fF HD7
  obtain ⟨hp0,hlo0,hlt0⟩:=fB0 HD11
  rw [hp0] at hfr
  have ha_1:=fA1 HD13
  rw [ha_1] at hfr
  show K a W
  rw [hfr]
  exact HK.out k0 lo hi g0 g1 u119 u120 u121 u122 u123 u124 u125 u126 u127 u128 u129 W fold lF hF rF (fS0 HD12) hlo0 hlt0 (fX0 HD11 HD7)
end Go.Proofs.YtanijpekdnkicaaGreatDoor
