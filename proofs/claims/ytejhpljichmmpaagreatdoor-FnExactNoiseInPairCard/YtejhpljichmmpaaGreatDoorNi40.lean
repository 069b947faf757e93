/- Proved: what its theorems say. -/
import Derived.Test.YtejhpljichmmpaaGreatDoorNi14
import Derived.Test.YtejhpljichmmpaaGreatDoorNi16
set_option linter.unusedVariables false
set_option linter.unusedSimpArgs false
set_option maxHeartbeats 8000000
set_option maxRecDepth 100000
namespace Go.Proofs.YtejhpljichmmpaaGreatDoor
open Go.ChangeShapes Go.WideShapes Go.ChangeAt Go.RowKit
def Qc4 (i:Nat):Nat:=[47,48,49,50,51,52,53,54,14].getD i 0
theorem Qqb:∀i,i<9->Qc4 i<66:=by decide
theorem Qhw:∀i,i<9->∀j,j<9->Qc4 i=Qc4 j->i=j:=by decide
theorem Qnn:∀i,i<9->Qc4 i≠1:=by decide
theorem Ql5:∀i,i<9->Qc4 i≠10:=by decide
theorem Qgb:∀i,i<9->Qc4 i≠12:=by decide
def Q0a (ga gb:Option Addr) (L:Nat) (gr:Option Addr) (lr cr:Nat) (sa:Option Addr) (sl sc pb:Nat) (PA:World->Value->Prop) (PB:World->Value->Prop) (i:Nat) (W:World) (x:Value):Prop:=
 match i with
 | 0=>x=.pointer (some ⟨pb,1,none⟩)
 | 1=>x=.slice gb L L
 | 2=>x=.pointer (some ⟨pb,0,none⟩)
 | 3=>x=.slice ga L L
 | 4=>x=.slice gr lr cr
 | 5=>x=.slice sa sl sc
 | 6=>PA W x
 | 7=>PB W x
 | 8=>PB W x
 | _=>True
theorem Quw (ga gb:Option Addr) (L:Nat) (gr:Option Addr) (lr cr:Nat) (sa:Option Addr) (sl sc pb:Nat) (PA:World->Value->Prop) (PB:World->Value->Prop) (hM_PA:∀W W' v,PA W v->Old W W'->PA W' v) (hM_PB:∀W W' v,PB W v->Old W W'->PB W' v) (i:Nat) (W W':World) (x:Value) (h:Q0a ga gb L gr lr cr sa sl sc pb PA PB i W x) (qo:Old W W'):Q0a ga gb L gr lr cr sa sl sc pb PA PB i W' x:=by
 unfold Q0a at h ⊢;split at h
 case h_7=>exact hM_PA _ _ _ h qo
 case h_8=>exact hM_PB _ _ _ h qo
 case h_9=>exact hM_PB _ _ _ h qo
 all_goals first | exact h | trivial
theorem Qyi (w0:World) (ga gb:Option Addr) (L:Nat) (gr:Option Addr) (lr cr:Nat) (sa:Option Addr) (sl sc pb:Nat) (PA:World->Value->Prop) (PB:World->Value->Prop) (hM_PA:∀W W' v,PA W v->Old W W'->PA W' v) (hM_PB:∀W W' v,PB W v->Old W W'->PB W' v) (b_pb:w0.heap[pb]? = some (.cells #[.slice ga L L,.slice gb L L] 142 (0,0)))
 (KA:∀W,Old w0 W->Calls Tryz.prog 56 #[.slice gr lr cr,.slice sa sl sc] W fun e w'=>∃v,e=.returned v/\Old W w'/\PA w' v)
 (KB:∀W,Old w0 W->∀(u6:Value),PA W u6->Calls Tryz.prog 93 #[.slice gb L L,.slice ga L L,u6] W fun e w'=>∃v,e=.returned v/\Old W w'/\PB w' v)
 (Q:Exit->Act->World->Prop) (b0:Act) (hsz:b0.tmps.size=66) (ha1:b0.eval (.tmp 1)=.slice sa sl sc) (ha10:b0.eval (.tmp 10)=.slice gr lr cr) (ha12:b0.eval (.tmp 12)=.pointer (some ⟨pb,0,none⟩))
 (HK:Hid (∀(us:Nat->Value) (W:World),Old w0 W->PB W (us 8)->Q .normal (Qah b0 ((List.range 9).map fun i=>(Qc4 i,us i))) W)) :
 Code.wp Tryz.prog ((Tryz.f34.body.bind (Qa9 5)).getD .skip) Q b0 w0:=by
 conv=>arg 2;whnf
 have px_pb:∀W,Old w0 W->W.heap[pb]? = some (.cells #[.slice ga L L,.slice gb L L] 142 (0,0)):=fun W g=>(g.block pb (lt_of_some b_pb)).trans b_pb
 have pc_pb_0:∀W,Old w0 W->W.cell? ⟨pb,0,none⟩=some (.slice ga L L):=fun W g=>cell_of_row W pb 0 _ _ (0,0) (px_pb W g)
 have pc_pb_1:∀W,Old w0 W->W.cell? ⟨pb,1,none⟩=some (.slice gb L L):=fun W g=>cell_of_row W pb 1 _ _ (0,0) (px_pb W g)
 refine Qdp (by kernel_rfl) (by kernel_rfl) (by kernel_rfl) Qc4 (fun i hi=>by rw [hsz];exact Qqb i hi) (fun i j hi hj=>Qhw i hi j hj) (Q0a ga gb L gr lr cr sa sl sc pb PA PB) (Quw ga gb L gr lr cr sa sl sc pb PA PB hM_PA hM_PB) ?_ ?_
 ·refine ⟨?_,?_,?_,?_,?_,?_,?_,?_,?_,trivial⟩
  ·intro a W g hF hd;have e12:=(hF.same 12 Qgb).trans ha12;obtain ⟨ρ,hρ⟩:∃ρ,a.eval=ρ:=⟨_,rfl⟩
   rw [hρ] at e12;refine Qam ρ hρ (.pointer (some ⟨pb,1,none⟩)) ?_ ⟨_,rfl,Old.refl _,rfl⟩
   clear g hF hd hρ HK KA KB ha1 ha10 ha12 px_pb b_pb pc_pb_0 pc_pb_1
   go_simp
   all_goals (first | (rw [IntKind.wrap_i64];omega) | (rw [IntKind.wrap_u64];omega) | omega)
  ·intro a W g hF hd;have h0:a.eval (.tmp 47)=.pointer (some ⟨pb,1,none⟩):=hd ⟨0,.data⟩ (by simp) rfl;have kk0:=pc_pb_1 W g;obtain ⟨ρ,hρ⟩:∃ρ,a.eval=ρ:=⟨_,rfl⟩
   rw [hρ] at h0;refine Qam ρ hρ (.slice gb L L) ?_ ⟨_,rfl,Old.refl _,rfl⟩
   clear g hF hd hρ HK KA KB ha1 ha10 ha12 px_pb b_pb pc_pb_0 pc_pb_1
   go_simp
   all_goals (first | (rw [IntKind.wrap_i64];omega) | (rw [IntKind.wrap_u64];omega) | omega)
  ·intro a W g hF hd;have e12:=(hF.same 12 Qgb).trans ha12;obtain ⟨ρ,hρ⟩:∃ρ,a.eval=ρ:=⟨_,rfl⟩
   rw [hρ] at e12;refine Qam ρ hρ (.pointer (some ⟨pb,0,none⟩)) ?_ ⟨_,rfl,Old.refl _,rfl⟩
   clear g hF hd hρ HK KA KB ha1 ha10 ha12 px_pb b_pb pc_pb_0 pc_pb_1
   go_simp
   all_goals (first | (rw [IntKind.wrap_i64];omega) | (rw [IntKind.wrap_u64];omega) | omega)
  ·intro a W g hF hd;have h2:a.eval (.tmp 49)=.pointer (some ⟨pb,0,none⟩):=hd ⟨2,.data⟩ (by simp) rfl;have kk0:=pc_pb_0 W g;obtain ⟨ρ,hρ⟩:∃ρ,a.eval=ρ:=⟨_,rfl⟩
   rw [hρ] at h2;refine Qam ρ hρ (.slice ga L L) ?_ ⟨_,rfl,Old.refl _,rfl⟩
   clear g hF hd hρ HK KA KB ha1 ha10 ha12 px_pb b_pb pc_pb_0 pc_pb_1
   go_simp
   all_goals (first | (rw [IntKind.wrap_i64];omega) | (rw [IntKind.wrap_u64];omega) | omega)
  ·intro a W g hF hd;have e10:=(hF.same 10 Ql5).trans ha10;refine Qch ?_
   exact ⟨_,rfl,Old.refl _,e10⟩
  ·intro a W g hF hd;have e1:=(hF.same 1 Qnn).trans ha1;refine Qch ?_
   exact ⟨_,rfl,Old.refl _,e1⟩
  ·intro a W g hF hd;have h4:a.eval (.tmp 51)=.slice gr lr cr:=hd ⟨4,.data⟩ (by simp) rfl;have h5:a.eval (.tmp 52)=.slice sa sl sc:=hd ⟨5,.data⟩ (by simp) rfl;refine Qaf (R:=fun v w'=>Old W w'∧PA w' v) Tryz.call56 (vs:=#[.slice gr lr cr,.slice sa sl sc]) (by simp [h4,h5]) (KA W g) ?_
   rintro x w' ⟨g',hp⟩;exact ⟨_,rfl,g',hp⟩
  ·intro a W g hF hd;have h1:a.eval (.tmp 48)=.slice gb L L:=hd ⟨1,.data⟩ (by simp) rfl;have h3:a.eval (.tmp 50)=.slice ga L L:=hd ⟨3,.data⟩ (by simp) rfl;have p6:PA W (a.eval (.tmp 53)):=hd ⟨6,.data⟩ (by simp) rfl;refine Qaf (R:=fun v w'=>Old W w'∧PB w' v) Tryz.call93 (vs:=#[.slice gb L L,.slice ga L L,a.eval (.tmp 53)]) (by simp [h1,h3]) (KB W g _ p6) ?_
   rintro x w' ⟨g',hp⟩;exact ⟨_,rfl,g',hp⟩
  ·intro a W g hF hd;refine Qcy ?_
   exact ⟨_,rfl,Old.refl _,hd ⟨7,.data⟩ (by simp) rfl⟩
 ·intro a W g hF hq;have hput:=Qed (show Fram 9 Qc4 b0 a from hF) (fun i j hi hj=>Qhw i hi j hj);have hk:=HK.out (fun i=>a.eval (.tmp (Qc4 i))) W g (hq 8 (by decide));rw [<- hput] at hk;exact hk
def Qcs (i:Nat):Nat:=[60,61,62,63,64,65].getD i 0
theorem Qqc:∀i,i<6->Qcs i<66:=by decide
theorem Qhx:∀i,i<6->∀j,j<6->Qcs i=Qcs j->i=j:=by decide
theorem Qno:∀i,i<6->Qcs i≠4:=by decide
theorem Qnp:∀i,i<6->Qcs i≠8:=by decide
theorem Ql6:∀i,i<6->Qcs i≠15:=by decide
def Q0b (N T E:Int) (a3:Option Addr) (l3 c3:Nat) (va:Option Addr) (vl vc bx wb:Nat) (PA:World->Value->Prop) (PB:World->Value->Prop) (PC:World->Value->Prop) (i:Nat) (W:World) (x:Value):Prop:=
 match i with
 | 0=>x=.slice va vl vc
 | 1=>PA W x
 | 2=>x=.pointer (some ⟨bx,3,none⟩)
 | 3=>x=.slice a3 l3 c3
 | 4=>PB W x
 | 5=>PC W x
 | _=>True
theorem Qux (N T E:Int) (a3:Option Addr) (l3 c3:Nat) (va:Option Addr) (vl vc bx wb:Nat) (PA:World->Value->Prop) (PB:World->Value->Prop) (PC:World->Value->Prop) (hM_PA:∀W W' v,PA W v->Old W W'->PA W' v) (hM_PB:∀W W' v,PB W v->Old W W'->PB W' v) (hM_PC:∀W W' v,PC W v->Old W W'->PC W' v) (i:Nat) (W W':World) (x:Value) (h:Q0b N T E a3 l3 c3 va vl vc bx wb PA PB PC i W x) (qo:Old W W'):Q0b N T E a3 l3 c3 va vl vc bx wb PA PB PC i W' x:=by
 unfold Q0b at h ⊢;split at h
 case h_2=>exact hM_PA _ _ _ h qo
 case h_5=>exact hM_PB _ _ _ h qo
 case h_6=>exact hM_PC _ _ _ h qo
 all_goals first | exact h | trivial
theorem Qyj (w0:World) (N T E:Int) (a3:Option Addr) (l3 c3:Nat) (va:Option Addr) (vl vc bx wb:Nat) (PA:World->Value->Prop) (PB:World->Value->Prop) (PC:World->Value->Prop) (hM_PA:∀W W' v,PA W v->Old W W'->PA W' v) (hM_PB:∀W W' v,PB W v->Old W W'->PB W' v) (hM_PC:∀W W' v,PC W v->Old W W'->PC W' v) (hA_PC:∀W x,PC W x->∃cs,x=.agg cs/\cs.size=2/\cs.all (·.oneCell')=true) (b_bx:w0.heap[bx]? = some (.cells #[.int .i64 N,.int .i64 T,.int .i64 E,.slice a3 l3 c3] 34 (0,0))) (b_wb:w0.heap[wb]? = some (.cells #[.bool false,.slice none 0 0] 31 (0,0)))
 (KA:∀W,Old w0 W->Calls Tryz.prog 97 #[.slice va vl vc] W fun e w'=>∃v,e=.returned v/\Old W w'/\PA w' v)
 (KB:∀W,Old w0 W->∀(u1:Value),PA W u1->Calls Tryz.prog 96 #[u1,.slice a3 l3 c3] W fun e w'=>∃v,e=.returned v/\Old W w'/\PB w' v)
 (KC:∀W,Old w0 W->∀(u4:Value),PB W u4->Calls Tryz.prog 59 #[u4] W fun e w'=>∃v,e=.returned v/\Old W w'/\PC w' v)
 (Q:Exit->Act->World->Prop) (b0:Act) (hsz:b0.tmps.size=66) (ha4:b0.eval (.tmp 4)=.pointer (some ⟨bx,0,none⟩)) (ha8:b0.eval (.tmp 8)=.pointer (some ⟨wb,0,none⟩)) (ha15:b0.eval (.tmp 15)=.slice va vl vc)
 (HK:Hid (∀(us:Nat->Value) (W:World) (cs:Array Value),Old w0 W->PC W (.agg cs)->PC W (us 5)->Q .normal ((Qah b0 ((List.range 6).map fun i=>(Qcs i,us i))).put (some 9) (.bool true)) (W.setRow wb cs))) :
 Code.wp Tryz.prog ((Tryz.f34.body.bind (Qa9 7)).getD .skip) Q b0 w0:=by
 conv=>arg 2;whnf
 have px_bx:∀W,Old w0 W->W.heap[bx]? = some (.cells #[.int .i64 N,.int .i64 T,.int .i64 E,.slice a3 l3 c3] 34 (0,0)):=fun W g=>(g.block bx (lt_of_some b_bx)).trans b_bx
 have px_wb:∀W,Old w0 W->W.heap[wb]? = some (.cells #[.bool false,.slice none 0 0] 31 (0,0)):=fun W g=>(g.block wb (lt_of_some b_wb)).trans b_wb
 have pc_bx_3:∀W,Old w0 W->W.cell? ⟨bx,3,none⟩=some (.slice a3 l3 c3):=fun W g=>cell_of_row W bx 3 _ _ (0,0) (px_bx W g)
 refine Qg1 6 (by decide) (by kernel_rfl) (by kernel_rfl) (by kernel_rfl) (by kernel_rfl) (by kernel_rfl) Qcs (fun i hi=>by rw [hsz];exact Qqc i hi) (fun i j hi hj=>Qhx i hi j hj) (Q0b N T E a3 l3 c3 va vl vc bx wb PA PB PC) (Qux N T E a3 l3 c3 va vl vc bx wb PA PB PC hM_PA hM_PB hM_PC) [] (fun i W v hi hq=>by cases hi) ?_ ?_
 ·refine ⟨?_,?_,?_,?_,?_,?_,trivial⟩
  ·intro a W g hF hd;refine ⟨fun _=>?_,fun h=>by rw [Qci rfl] at h;cases h⟩;have e15:=(hF.same 15 Ql6).trans ha15;refine Qch ?_
   exact ⟨_,rfl,Old.refl _,e15,(fun h=>absurd h (by decide))⟩
  ·intro a W g hF hd;refine ⟨fun _=>?_,fun h=>by rw [Qci rfl] at h;cases h⟩;have h0:a.eval (.tmp 60)=.slice va vl vc:=hd ⟨0,.data⟩ (by simp) rfl;refine Qaf (R:=fun v w'=>Old W w'∧PA w' v) Tryz.call97 (vs:=#[.slice va vl vc]) (by simp [h0]) (KA W g) ?_
   rintro x w' ⟨g',hp⟩;exact ⟨_,rfl,g',hp,(fun h=>absurd h (by decide))⟩
  ·intro a W g hF hd;refine ⟨fun _=>?_,fun h=>by rw [Qci rfl] at h;cases h⟩;have e4:=(hF.same 4 Qno).trans ha4;obtain ⟨ρ,hρ⟩:∃ρ,a.eval=ρ:=⟨_,rfl⟩
   rw [hρ] at e4;refine Qam ρ hρ (.pointer (some ⟨bx,3,none⟩)) ?_ ⟨_,rfl,Old.refl _,rfl,(fun h=>absurd h (by decide))⟩
   clear g hF hd hρ HK KA KB KC ha4 ha8 ha15 px_bx b_bx px_wb b_wb pc_bx_3
   go_simp
   all_goals (first | (rw [IntKind.wrap_i64];omega) | (rw [IntKind.wrap_u64];omega) | omega)
  ·intro a W g hF hd;refine ⟨fun _=>?_,fun h=>by rw [Qci rfl] at h;cases h⟩;have h2:a.eval (.tmp 62)=.pointer (some ⟨bx,3,none⟩):=hd ⟨2,.data⟩ (by simp) rfl;have kk0:=pc_bx_3 W g;obtain ⟨ρ,hρ⟩:∃ρ,a.eval=ρ:=⟨_,rfl⟩
   rw [hρ] at h2;refine Qam ρ hρ (.slice a3 l3 c3) ?_ ⟨_,rfl,Old.refl _,rfl,(fun h=>absurd h (by decide))⟩
   clear g hF hd hρ HK KA KB KC ha4 ha8 ha15 px_bx b_bx px_wb b_wb pc_bx_3
   go_simp
   all_goals (first | (rw [IntKind.wrap_i64];omega) | (rw [IntKind.wrap_u64];omega) | omega)
  ·intro a W g hF hd;refine ⟨fun _=>?_,fun h=>by rw [Qci rfl] at h;cases h⟩;have h3:a.eval (.tmp 63)=.slice a3 l3 c3:=hd ⟨3,.data⟩ (by simp) rfl;have p1:PA W (a.eval (.tmp 61)):=hd ⟨1,.data⟩ (by simp) rfl;refine Qaf (R:=fun v w'=>Old W w'∧PB w' v) Tryz.call96 (vs:=#[a.eval (.tmp 61),.slice a3 l3 c3]) (by simp [h3]) (KB W g _ p1) ?_
   rintro x w' ⟨g',hp⟩;exact ⟨_,rfl,g',hp,(fun h=>absurd h (by decide))⟩
  ·intro a W g hF hd;refine ⟨fun _=>?_,fun h=>by rw [Qci rfl] at h;cases h⟩;have p4:PB W (a.eval (.tmp 64)):=hd ⟨4,.data⟩ (by simp) rfl;refine Qaf (R:=fun v w'=>Old W w'∧PC w' v) Tryz.call59 (vs:=#[a.eval (.tmp 64)]) (by simp) (KC W g _ p4) ?_
   rintro x w' ⟨g',hp⟩;exact ⟨_,rfl,g',hp,(fun h=>absurd h (by decide))⟩
 ·intro a W g hF hq hne;have hput:=Qed (show Fram 6 Qcs b0 a from hF) (fun i j hi hj=>Qhx i hi j hj);obtain ⟨cs,ecs,hcs1,hcs2⟩:=hA_PC W _ (hq 5 (by decide));have hpc:=hq 5 (by decide);rw [show a.eval (.tmp (Qcs 5))=.agg cs from ecs] at hpc;have hk:=HK.out (fun i=>a.eval (.tmp (Qcs i))) W cs g hpc (hq 5 (by decide));rw [← hput] at hk;refine Qjh (k:=wb) ((hF.same 8 Qnp).trans ha8) ecs (px_wb W g) (by rw [hcs1];kernel_rfl) (by rw [hcs1];rfl) hcs2 ?_
  show Qkx _ _ _ _ _
  refine Qcy ?_
  show Qkx _ _ _ _ _
  exact hk
def Qck (i:Nat):Nat:=[31,32,33,34,35,36,37,38,39,40,41,42,43,44,45,46,47,48,11].getD i 0
theorem Qqd:∀i,i<19->Qck i<56:=by decide
theorem Qhy:∀i,i<19->∀j,j<19->Qck i=Qck j->i=j:=by decide
theorem Qnq:∀i,i<19->Qck i≠1:=by decide
theorem Qnr:∀i,i<19->Qck i≠3:=by decide
theorem Qhz:∀i,i<19->Qck i≠4:=by decide
theorem Qh0:∀i,i<19->Qck i≠6:=by decide
theorem Qdb:∀i,i<19->Qck i≠10:=by decide
def Q0c (N T E:Int) (a3:Option Addr) (l3 c3 pb sb:Nat) (xa:Option Addr) (xl xc:Nat) (ya:Option Addr) (yl yc kb:Nat) (sa:Option Addr) (sl sc:Nat) (wa:Option Addr) (wl wc:Nat) (PA:World->Value->Prop) (PB:World->Value->Prop) (PC:World->Value->Prop) (PD:World->Value->Prop) (PE:World->Value->Prop) (PF:World->Value->Prop) (i:Nat) (W:World) (x:Value):Prop:=
 match i with
 | 0=>x=.agg #[.int .i64 N,.slice a3 l3 c3]
 | 1=>x=.agg #[.int .i64 N,.slice a3 l3 c3]
 | 2=>x=.pointer (some ⟨kb,1,none⟩)
 | 3=>x=.slice ya yl yc
 | 4=>x=.agg #[.int .i64 N,.slice a3 l3 c3]
 | 5=>x=.pointer (some ⟨kb,0,none⟩)
 | 6=>x=.slice xa xl xc
 | 7=>x=.agg #[.int .i64 N,.int .i64 T,.int .i64 E,.slice a3 l3 c3]
 | 8=>x=.slice sa sl sc
 | 9=>PA W x
 | 10=>PB W x
 | 11=>PC W x
 | 12=>x=.agg #[.int .i64 N,.slice a3 l3 c3]
 | 13=>x=.agg #[.int .i64 N,.int .i64 T,.int .i64 E,.slice a3 l3 c3]
 | 14=>x=.slice wa wl wc
 | 15=>PD W x
 | 16=>PE W x
 | 17=>PF W x
 | 18=>PF W x
 | _=>True
theorem Quy (N T E:Int) (a3:Option Addr) (l3 c3 pb sb:Nat) (xa:Option Addr) (xl xc:Nat) (ya:Option Addr) (yl yc kb:Nat) (sa:Option Addr) (sl sc:Nat) (wa:Option Addr) (wl wc:Nat) (PA:World->Value->Prop) (PB:World->Value->Prop) (PC:World->Value->Prop) (PD:World->Value->Prop) (PE:World->Value->Prop) (PF:World->Value->Prop) (hM_PA:∀W W' v,PA W v->Old W W'->PA W' v) (hM_PB:∀W W' v,PB W v->Old W W'->PB W' v) (hM_PC:∀W W' v,PC W v->Old W W'->PC W' v) (hM_PD:∀W W' v,PD W v->Old W W'->PD W' v) (hM_PE:∀W W' v,PE W v->Old W W'->PE W' v) (hM_PF:∀W W' v,PF W v->Old W W'->PF W' v) (i:Nat) (W W':World) (x:Value) (h:Q0c N T E a3 l3 c3 pb sb xa xl xc ya yl yc kb sa sl sc wa wl wc PA PB PC PD PE PF i W x) (qo:Old W W'):Q0c N T E a3 l3 c3 pb sb xa xl xc ya yl yc kb sa sl sc wa wl wc PA PB PC PD PE PF i W' x:=by
 unfold Q0c at h ⊢;split at h
 case h_10=>exact hM_PA _ _ _ h qo
 case h_11=>exact hM_PB _ _ _ h qo
 case h_12=>exact hM_PC _ _ _ h qo
 case h_16=>exact hM_PD _ _ _ h qo
 case h_17=>exact hM_PE _ _ _ h qo
 case h_18=>exact hM_PF _ _ _ h qo
 case h_19=>exact hM_PF _ _ _ h qo
 all_goals first | exact h | trivial
theorem Qyk (w0:World) (N T E:Int) (a3:Option Addr) (l3 c3 pb sb:Nat) (xa:Option Addr) (xl xc:Nat) (ya:Option Addr) (yl yc kb:Nat) (sa:Option Addr) (sl sc:Nat) (wa:Option Addr) (wl wc:Nat) (PA:World->Value->Prop) (PB:World->Value->Prop) (PC:World->Value->Prop) (PD:World->Value->Prop) (PE:World->Value->Prop) (PF:World->Value->Prop) (hM_PA:∀W W' v,PA W v->Old W W'->PA W' v) (hM_PB:∀W W' v,PB W v->Old W W'->PB W' v) (hM_PC:∀W W' v,PC W v->Old W W'->PC W' v) (hM_PD:∀W W' v,PD W v->Old W W'->PD W' v) (hM_PE:∀W W' v,PE W v->Old W W'->PE W' v) (hM_PF:∀W W' v,PF W v->Old W W'->PF W' v) (b_kb:w0.heap[kb]? = some (.cells #[.slice xa xl xc,.slice ya yl yc] 68 (0,0))) (b_pb:w0.heap[pb]? = some (.cells #[.int .i64 N,.int .i64 T,.int .i64 E,.slice a3 l3 c3] 34 (0,0))) (b_sb:w0.heap[sb]? = some (.cells #[.int .i64 N,.slice a3 l3 c3] 80 (0,0)))
 (KA:∀W,Old w0 W->Calls Tryz.prog 87 #[.agg #[.int .i64 N,.int .i64 T,.int .i64 E,.slice a3 l3 c3],.slice sa sl sc] W fun e w'=>∃v,e=.returned v/\Old W w'/\PA w' v)
 (KB:∀W,Old w0 W->∀(u9:Value),PA W u9->Calls Tryz.prog 86 #[.agg #[.int .i64 N,.slice a3 l3 c3],.slice xa xl xc,u9] W fun e w'=>∃v,e=.returned v/\Old W w'/\PB w' v)
 (KC:∀W,Old w0 W->∀(u10:Value),PB W u10->Calls Tryz.prog 85 #[.agg #[.int .i64 N,.slice a3 l3 c3],.slice ya yl yc,u10] W fun e w'=>∃v,e=.returned v/\Old W w'/\PC w' v)
 (KD:∀W,Old w0 W->Calls Tryz.prog 87 #[.agg #[.int .i64 N,.int .i64 T,.int .i64 E,.slice a3 l3 c3],.slice wa wl wc] W fun e w'=>∃v,e=.returned v/\Old W w'/\PD w' v)
 (KE:∀W,Old w0 W->∀(u15:Value),PD W u15->Calls Tryz.prog 88 #[.agg #[.int .i64 N,.slice a3 l3 c3],u15] W fun e w'=>∃v,e=.returned v/\Old W w'/\PE w' v)
 (KF:∀W,Old w0 W->∀(u11:Value) (u16:Value),PC W u11->PE W u16->Calls Tryz.prog 85 #[.agg #[.int .i64 N,.slice a3 l3 c3],u11,u16] W fun e w'=>∃v,e=.returned v/\Old W w'/\PF w' v)
 (Q:Exit->Act->World->Prop) (b0:Act) (hsz:b0.tmps.size=56) (ha1:b0.eval (.tmp 1)=.slice sa sl sc) (ha3:b0.eval (.tmp 3)=.slice wa wl wc) (ha4:b0.eval (.tmp 4)=.pointer (some ⟨pb,0,none⟩)) (ha6:b0.eval (.tmp 6)=.pointer (some ⟨kb,0,none⟩)) (ha10:b0.eval (.tmp 10)=.pointer (some ⟨sb,0,none⟩))
 (HK:Hid (∀(us:Nat->Value) (W:World),Old w0 W->PF W (us 18)->Q .normal (Qah b0 ((List.range 19).map fun i=>(Qck i,us i))) W)) :
 Code.wp Tryz.prog ((Tryz.f32.body.bind (Qa9 4)).getD .skip) Q b0 w0:=by
 conv=>arg 2;whnf
 have px_kb:∀W,Old w0 W->W.heap[kb]? = some (.cells #[.slice xa xl xc,.slice ya yl yc] 68 (0,0)):=fun W g=>(g.block kb (lt_of_some b_kb)).trans b_kb
 have px_pb:∀W,Old w0 W->W.heap[pb]? = some (.cells #[.int .i64 N,.int .i64 T,.int .i64 E,.slice a3 l3 c3] 34 (0,0)):=fun W g=>(g.block pb (lt_of_some b_pb)).trans b_pb
 have px_sb:∀W,Old w0 W->W.heap[sb]? = some (.cells #[.int .i64 N,.slice a3 l3 c3] 80 (0,0)):=fun W g=>(g.block sb (lt_of_some b_sb)).trans b_sb
 have pc_kb_0:∀W,Old w0 W->W.cell? ⟨kb,0,none⟩=some (.slice xa xl xc):=fun W g=>cell_of_row W kb 0 _ _ (0,0) (px_kb W g)
 have pc_kb_1:∀W,Old w0 W->W.cell? ⟨kb,1,none⟩=some (.slice ya yl yc):=fun W g=>cell_of_row W kb 1 _ _ (0,0) (px_kb W g)
 refine Qdp (by kernel_rfl) (by kernel_rfl) (by kernel_rfl) Qck (fun i hi=>by rw [hsz];exact Qqd i hi) (fun i j hi hj=>Qhy i hi j hj) (Q0c N T E a3 l3 c3 pb sb xa xl xc ya yl yc kb sa sl sc wa wl wc PA PB PC PD PE PF) (Quy N T E a3 l3 c3 pb sb xa xl xc ya yl yc kb sa sl sc wa wl wc PA PB PC PD PE PF hM_PA hM_PB hM_PC hM_PD hM_PE hM_PF) ?_ ?_
 ·refine ⟨?_,?_,?_,?_,?_,?_,?_,?_,?_,?_,?_,?_,?_,?_,?_,?_,?_,?_,?_,trivial⟩
  ·intro a W g hF hd;have e10:=(hF.same 10 Qdb).trans ha10;refine Qb7 (k:=sb) e10 (px_sb W g) Tryz.underlying80 rfl (by kernel_rfl) ?_
   exact ⟨_,rfl,Old.refl _,rfl⟩
  ·intro a W g hF hd;have e10:=(hF.same 10 Qdb).trans ha10;refine Qb7 (k:=sb) e10 (px_sb W g) Tryz.underlying80 rfl (by kernel_rfl) ?_
   exact ⟨_,rfl,Old.refl _,rfl⟩
  ·intro a W g hF hd;have e6:=(hF.same 6 Qh0).trans ha6;obtain ⟨ρ,hρ⟩:∃ρ,a.eval=ρ:=⟨_,rfl⟩
   rw [hρ] at e6;refine Qam ρ hρ (.pointer (some ⟨kb,1,none⟩)) ?_ ⟨_,rfl,Old.refl _,rfl⟩
   clear g hF hd hρ HK KA KB KC KD KE KF ha1 ha3 ha4 ha6 ha10 px_kb b_kb px_pb b_pb px_sb b_sb pc_kb_0 pc_kb_1
   go_simp
   all_goals (first | (rw [IntKind.wrap_i64];omega) | (rw [IntKind.wrap_u64];omega) | omega)
  ·intro a W g hF hd;have h2:a.eval (.tmp 33)=.pointer (some ⟨kb,1,none⟩):=hd ⟨2,.data⟩ (by simp) rfl;have kk0:=pc_kb_1 W g;obtain ⟨ρ,hρ⟩:∃ρ,a.eval=ρ:=⟨_,rfl⟩
   rw [hρ] at h2;refine Qam ρ hρ (.slice ya yl yc) ?_ ⟨_,rfl,Old.refl _,rfl⟩
   clear g hF hd hρ HK KA KB KC KD KE KF ha1 ha3 ha4 ha6 ha10 px_kb b_kb px_pb b_pb px_sb b_sb pc_kb_0 pc_kb_1
   go_simp
   all_goals (first | (rw [IntKind.wrap_i64];omega) | (rw [IntKind.wrap_u64];omega) | omega)
  ·intro a W g hF hd;have e10:=(hF.same 10 Qdb).trans ha10;refine Qb7 (k:=sb) e10 (px_sb W g) Tryz.underlying80 rfl (by kernel_rfl) ?_
   exact ⟨_,rfl,Old.refl _,rfl⟩
  ·intro a W g hF hd;have e6:=(hF.same 6 Qh0).trans ha6;obtain ⟨ρ,hρ⟩:∃ρ,a.eval=ρ:=⟨_,rfl⟩
   rw [hρ] at e6;refine Qam ρ hρ (.pointer (some ⟨kb,0,none⟩)) ?_ ⟨_,rfl,Old.refl _,rfl⟩
   clear g hF hd hρ HK KA KB KC KD KE KF ha1 ha3 ha4 ha6 ha10 px_kb b_kb px_pb b_pb px_sb b_sb pc_kb_0 pc_kb_1
   go_simp
   all_goals (first | (rw [IntKind.wrap_i64];omega) | (rw [IntKind.wrap_u64];omega) | omega)
  ·intro a W g hF hd;have h5:a.eval (.tmp 36)=.pointer (some ⟨kb,0,none⟩):=hd ⟨5,.data⟩ (by simp) rfl;have kk0:=pc_kb_0 W g;obtain ⟨ρ,hρ⟩:∃ρ,a.eval=ρ:=⟨_,rfl⟩
   rw [hρ] at h5;refine Qam ρ hρ (.slice xa xl xc) ?_ ⟨_,rfl,Old.refl _,rfl⟩
   clear g hF hd hρ HK KA KB KC KD KE KF ha1 ha3 ha4 ha6 ha10 px_kb b_kb px_pb b_pb px_sb b_sb pc_kb_0 pc_kb_1
   go_simp
   all_goals (first | (rw [IntKind.wrap_i64];omega) | (rw [IntKind.wrap_u64];omega) | omega)
  ·intro a W g hF hd;have e4:=(hF.same 4 Qhz).trans ha4;refine Qb7 (k:=pb) e4 (px_pb W g) Tryz.underlying34 rfl (by kernel_rfl) ?_
   exact ⟨_,rfl,Old.refl _,rfl⟩
  ·intro a W g hF hd;have e1:=(hF.same 1 Qnq).trans ha1;refine Qch ?_
   exact ⟨_,rfl,Old.refl _,e1⟩
  ·intro a W g hF hd;have h7:a.eval (.tmp 38)=.agg #[.int .i64 N,.int .i64 T,.int .i64 E,.slice a3 l3 c3]:=hd ⟨7,.data⟩ (by simp) rfl;have h8:a.eval (.tmp 39)=.slice sa sl sc:=hd ⟨8,.data⟩ (by simp) rfl;refine Qaf (R:=fun v w'=>Old W w'∧PA w' v) Tryz.call87 (vs:=#[.agg #[.int .i64 N,.int .i64 T,.int .i64 E,.slice a3 l3 c3],.slice sa sl sc]) (by simp [h7,h8]) (KA W g) ?_
   rintro x w' ⟨g',hp⟩;exact ⟨_,rfl,g',hp⟩
  ·intro a W g hF hd;have h4:a.eval (.tmp 35)=.agg #[.int .i64 N,.slice a3 l3 c3]:=hd ⟨4,.data⟩ (by simp) rfl;have h6:a.eval (.tmp 37)=.slice xa xl xc:=hd ⟨6,.data⟩ (by simp) rfl;have p9:PA W (a.eval (.tmp 40)):=hd ⟨9,.data⟩ (by simp) rfl;refine Qaf (R:=fun v w'=>Old W w'∧PB w' v) Tryz.call86 (vs:=#[.agg #[.int .i64 N,.slice a3 l3 c3],.slice xa xl xc,a.eval (.tmp 40)]) (by simp [h4,h6]) (KB W g _ p9) ?_
   rintro x w' ⟨g',hp⟩;exact ⟨_,rfl,g',hp⟩
  ·intro a W g hF hd;have h1:a.eval (.tmp 32)=.agg #[.int .i64 N,.slice a3 l3 c3]:=hd ⟨1,.data⟩ (by simp) rfl;have h3:a.eval (.tmp 34)=.slice ya yl yc:=hd ⟨3,.data⟩ (by simp) rfl;have p10:PB W (a.eval (.tmp 41)):=hd ⟨10,.data⟩ (by simp) rfl;refine Qaf (R:=fun v w'=>Old W w'∧PC w' v) Tryz.call85 (vs:=#[.agg #[.int .i64 N,.slice a3 l3 c3],.slice ya yl yc,a.eval (.tmp 41)]) (by simp [h1,h3]) (KC W g _ p10) ?_
   rintro x w' ⟨g',hp⟩;exact ⟨_,rfl,g',hp⟩
  ·intro a W g hF hd;have e10:=(hF.same 10 Qdb).trans ha10;refine Qb7 (k:=sb) e10 (px_sb W g) Tryz.underlying80 rfl (by kernel_rfl) ?_
   exact ⟨_,rfl,Old.refl _,rfl⟩
  ·intro a W g hF hd;have e4:=(hF.same 4 Qhz).trans ha4;refine Qb7 (k:=pb) e4 (px_pb W g) Tryz.underlying34 rfl (by kernel_rfl) ?_
   exact ⟨_,rfl,Old.refl _,rfl⟩
  ·intro a W g hF hd;have e3:=(hF.same 3 Qnr).trans ha3;refine Qch ?_
   exact ⟨_,rfl,Old.refl _,e3⟩
  ·intro a W g hF hd;have h13:a.eval (.tmp 44)=.agg #[.int .i64 N,.int .i64 T,.int .i64 E,.slice a3 l3 c3]:=hd ⟨13,.data⟩ (by simp) rfl;have h14:a.eval (.tmp 45)=.slice wa wl wc:=hd ⟨14,.data⟩ (by simp) rfl;refine Qaf (R:=fun v w'=>Old W w'∧PD w' v) Tryz.call87 (vs:=#[.agg #[.int .i64 N,.int .i64 T,.int .i64 E,.slice a3 l3 c3],.slice wa wl wc]) (by simp [h13,h14]) (KD W g) ?_
   rintro x w' ⟨g',hp⟩;exact ⟨_,rfl,g',hp⟩
  ·intro a W g hF hd;have h12:a.eval (.tmp 43)=.agg #[.int .i64 N,.slice a3 l3 c3]:=hd ⟨12,.data⟩ (by simp) rfl;have p15:PD W (a.eval (.tmp 46)):=hd ⟨15,.data⟩ (by simp) rfl;refine Qaf (R:=fun v w'=>Old W w'∧PE w' v) Tryz.call88 (vs:=#[.agg #[.int .i64 N,.slice a3 l3 c3],a.eval (.tmp 46)]) (by simp [h12]) (KE W g _ p15) ?_
   rintro x w' ⟨g',hp⟩;exact ⟨_,rfl,g',hp⟩
  ·intro a W g hF hd;have h0:a.eval (.tmp 31)=.agg #[.int .i64 N,.slice a3 l3 c3]:=hd ⟨0,.data⟩ (by simp) rfl;have p11:PC W (a.eval (.tmp 42)):=hd ⟨11,.data⟩ (by simp) rfl;have p16:PE W (a.eval (.tmp 47)):=hd ⟨16,.data⟩ (by simp) rfl;refine Qaf (R:=fun v w'=>Old W w'∧PF w' v) Tryz.call85 (vs:=#[.agg #[.int .i64 N,.slice a3 l3 c3],a.eval (.tmp 42),a.eval (.tmp 47)]) (by simp [h0]) (KF W g _ _ p11 p16) ?_
   rintro x w' ⟨g',hp⟩;exact ⟨_,rfl,g',hp⟩
  ·intro a W g hF hd;refine Qcy ?_
   exact ⟨_,rfl,Old.refl _,hd ⟨17,.data⟩ (by simp) rfl⟩
 ·intro a W g hF hq;have hput:=Qed (show Fram 19 Qck b0 a from hF) (fun i j hi hj=>Qhy i hi j hj);have hk:=HK.out (fun i=>a.eval (.tmp (Qck i))) W g (hq 18 (by decide));rw [<- hput] at hk;exact hk
end Go.Proofs.YtejhpljichmmpaaGreatDoor
