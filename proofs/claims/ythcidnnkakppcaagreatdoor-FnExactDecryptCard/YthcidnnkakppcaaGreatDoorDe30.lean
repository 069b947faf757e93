/- Proved: what its theorems say. -/
import Derived.Test.YthcidnnkakppcaaGreatDoorDe24
set_option linter.unusedVariables false
set_option linter.unusedSimpArgs false
set_option maxHeartbeats 8000000
set_option maxRecDepth 100000
namespace Go.Proofs.YthcidnnkakppcaaGreatDoor
open Go.ChangeShapes Go.WideShapes Go.ChangeAt Go.RowKit
theorem Qup {P:Program} {a:Act} {W W':World} {K:Act->World->Prop} {Q:Exit->Act->World->Prop} {o:Oper} (ρ:Operand->Value) (hρ:a.eval=ρ) (v:Value) (hr:(execOp ρ o).run P W=.ok (.value v) W') (hK:K (a.put o.dst v) W'):o.wp P a W K Q:=by
 unfold Oper.wp;rw [hρ,hr];exact hK
theorem Qgx {P:Program} {o:Oper} {a:Act} {w:World} {K:Act→World→Prop} {Q:Exit→Act→World→Prop} (s x:Operand) (t:TypeId)
  (ho:o.op=.call {callee:=.builtin .append,args:=#[s,x],argTypes:=#[t,t]})
  (base:Nat) (e:TypeId) (i:TypeInfo) (z:Value) (size bytes:Nat) (ht:P.underlying t=some (.slice e)) (hi:P.info? e=some i) (hz:i.zero=some z)
  (hsize:i.size=size) (hby:i.bytes=bytes) (hzs:z.cells.size=size) (hsz:0<size)
  (v:Value) (n:Nat) (xs:List Value) (hs:a.eval s=v) (hown:w.ownsRow base e size v n xs)
  (ad:Addr) (m c:Nat) (news:List Value) (hx:a.eval x=.slice (some ad) m c) (hl:news.length=m*size) (hnews:∀j u,news[j]? = some u->w.cell? (ad.add j)=some u) (h1:∀u∈news,u.oneCell'=true)
  (h63:n+m<=maxLen) (hbytes:(n+m)*bytes<=140737488355328) (hbase:base<=w.heap.size)
  (h:∀v' w',w'.ownsRow base e size v' (n+m) (xs++news)->w.grownBy w' v.ownBlock->(v'=.slice none 0 0↔v=.slice none 0 0/\m=0)->(v'.ownBlock=v.ownBlock∨v'.ownBlock=some w.heap.size)->K (a.put o.dst v') w') :
  o.wp P a w K Q:=by
 obtain ⟨v',w',hr,h2,h3,h4,h5⟩:=run_append_own_at (P:=P) w base t o.type e i z size bytes ht hi hz hsize hby hzs hsz v n xs hown ad m c news hl hnews h1 h63 hbytes hbase;unfold Oper.wp execOp;simp only [ho,resolve,invoke,builtin,Sem.run_bind,Sem.run_pure,Result.andThen_ok,List.map_toArray,List.map_cons,List.map_nil,hs,hx,hr];exact h v' w' h2 h3 h4 h5
theorem Q09 {W:World} {base:Nat} {v:Value} {zs:List Int} (h:Own W base v zs):∃ra rc,v=.slice ra zs.length rc/\zs.length<=rc:=by
 rcases h.2 with ⟨e,hn⟩ | ⟨_,_,_,e,_,_,hn,_⟩
 ·exact ⟨none,0,by rw [e,hn],by omega⟩
 ·exact ⟨_,_,e,hn⟩
def Qem (i:Nat):Nat:=[36,37,38,39,40,41,42,43,44,45,46,47,48,9].getD i 0
theorem Quq:∀i,i<14->Qem i<51:=by decide
theorem Qjp:∀i,i<14->∀j,j<14->Qem i=Qem j->i=j:=by decide
theorem Qjq:∀i,i<13->Qem i≠3:=by decide
theorem Qrx:∀i,i<13->Qem i≠8:=by decide
theorem Qry:∀i,i<13->Qem i≠9:=by decide
theorem Qoz:∀i,i<13->Qem i≠11:=by decide
def qS8 (N T E:Int) (a3:Option Addr) (l3 c3 pb:Nat) (wb:Nat) (nb:Bool) (a1:Option Addr) (l1 c1:Nat) (qa:Option Addr) (ql qc:Nat) (ra:Option Addr) (j rc:Nat) (q:Int) (PA:World->Value->Prop) (PB:World->Value->Prop) (PC:World->Value->Prop) (i:Nat) (W:World) (x:Value):Prop:=
 match i with
 | 0=>x=.slice ra j rc
 | 1=>x=.agg #[.bool nb,.slice a1 l1 c1]
 | 2=>x=.pointer (some ⟨pb,1,none⟩)
 | 3=>x=.int .i64 T
 | 4=>PA W x
 | 5=>PB W x
 | 6=>x=.slice qa ql qc
 | 7=>PC W x
 | 8=>x=.pointer (some ⟨pb,1,none⟩)
 | 9=>x=.int .i64 T
 | 10=>x=.int .i64 q
 | 11=>∃g,x=.slice (some ⟨g,0,none⟩) 1 1/\W.cell? ⟨g,0,none⟩=some (.int .i64 q)/\g<W.heap.size
 | _=>True
theorem Q1a (N T E:Int) (a3:Option Addr) (l3 c3 pb:Nat) (wb:Nat) (nb:Bool) (a1:Option Addr) (l1 c1:Nat) (qa:Option Addr) (ql qc:Nat) (ra:Option Addr) (j rc:Nat) (q:Int) (PA:World->Value->Prop) (PB:World->Value->Prop) (PC:World->Value->Prop) (hM_PA:∀W W' v,PA W v->Old W W'->PA W' v) (hM_PB:∀W W' v,PB W v->Old W W'->PB W' v) (hM_PC:∀W W' v,PC W v->Old W W'->PC W' v) (i:Nat) (W W':World) (x:Value) (h:qS8 N T E a3 l3 c3 pb wb nb a1 l1 c1 qa ql qc ra j rc q PA PB PC i W x) (qo:Old W W'):qS8 N T E a3 l3 c3 pb wb nb a1 l1 c1 qa ql qc ra j rc q PA PB PC i W' x:=by
 unfold qS8 at h ⊢;split at h
 case h_5=>exact hM_PA _ _ _ h qo
 case h_6=>exact hM_PB _ _ _ h qo
 case h_8=>exact hM_PC _ _ _ h qo
 case h_12=>
  obtain ⟨g,e,hcell,hlt⟩:=h;exact ⟨g,e,(qo.cell (p:=⟨g,0,none⟩) hlt).trans hcell,Nat.lt_of_lt_of_le hlt qo.size⟩
 all_goals first | exact h | trivial
theorem Q28 (w0:World) (N T E:Int) (a3:Option Addr) (l3 c3 pb:Nat) (wb:Nat) (nb:Bool) (a1:Option Addr) (l1 c1:Nat) (qa:Option Addr) (ql qc:Nat) (ra:Option Addr) (j rc:Nat) (q:Int) (PA:World→Value→Prop) (PB:World→Value→Prop) (PC:World→Value→Prop) (hM_PA:∀W W' v,PA W v→Old W W'→PA W' v) (hM_PB:∀W W' v,PB W v→Old W W'→PB W' v) (hM_PC:∀W W' v,PC W v→Old W W'→PC W' v) (b_pb:w0.heap[pb]? = some (.cells #[.int .i64 N,.int .i64 T,.int .i64 E,.slice a3 l3 c3] 32 (0,0))) (b_wb:w0.heap[wb]? = some (.cells #[.bool nb,.slice a1 l1 c1] 57 (0,0)))
  (hj:j<=100)
  (base:Nat) (hbase:base<=w0.heap.size) (FIN:World->Value->Prop) (HEM:∀(W:World),Old w0 W->∃vs,W.ownsRow base 3 1 (.slice ra j rc) j vs/\(∀v' w',w'.ownsRow base 3 1 v' (j+1) (vs++[.int .i64 q])->W.grownBy w' (Value.slice ra j rc).ownBlock->FIN w' v'))
  (KA:∀W,Old w0 W->Calls Tryz.prog 29 #[.int .i64 T] W fun e w'=>∃v,e=.returned v/\Old W w'/\PA w' v)
  (KB:∀W,Old w0 W->∀(u4:Value),PA W u4->Calls Tryz.prog 28 #[.agg #[.bool nb,.slice a1 l1 c1],u4] W fun e w'=>∃v,e=.returned v/\Old W w'/\PB w' v)
  (KC:∀W,Old w0 W->∀(u5:Value),PB W u5->Calls Tryz.prog 27 #[u5,.slice qa ql qc] W fun e w'=>∃v,e=.returned v/\Old W w'/\PC w' v)
  (KD:∀W,Old w0 W->∀(u7:Value),PC W u7->Calls Tryz.prog 26 #[u7,.int .i64 T] W fun e w'=>e=.returned (.int .i64 q)/\Old W w')
  (Q:Exit->Act->World->Prop) (b0:Act) (hsz:b0.tmps.size=51) (ha3:b0.eval (.tmp 3)=.pointer (some ⟨pb,0,none⟩)) (ha8:b0.eval (.tmp 8)=.slice qa ql qc) (ha9:b0.eval (.tmp 9)=.slice ra j rc) (ha11:b0.eval (.tmp 11)=.pointer (some ⟨wb,0,none⟩))
  (HK:Hid (∀(us:Nat->Value) W,FIN W (us 13)->Q .normal (Qb6 b0 ((List.range 14).map fun i=>(Qem i,us i))) W)) :
  Code.wp Tryz.prog ((Tryz.f6.body.bind (Qa6 8)).getD .skip) Q b0 w0:=by
 conv=>arg 2;whnf
 obtain ⟨i0,ii,iz0,iz1,iz2⟩:=info_parts Tryz.infoInt;have px_pb:∀W,Old w0 W->W.heap[pb]? = some (.cells #[.int .i64 N,.int .i64 T,.int .i64 E,.slice a3 l3 c3] 32 (0,0)):=fun W g=>(g.block pb (lt_of_some b_pb)).trans b_pb
 have px_wb:∀W,Old w0 W->W.heap[wb]? = some (.cells #[.bool nb,.slice a1 l1 c1] 57 (0,0)):=fun W g=>(g.block wb (lt_of_some b_wb)).trans b_wb
 have pc_pb_1:∀W,Old w0 W->W.cell? ⟨pb,1,none⟩=some (.int .i64 T):=fun W g=>cell_of_row W pb 1 _ _ (0,0) (px_pb W g)
 refine Qe4 12 rfl rfl rfl (by kernel_rfl) (by kernel_rfl) (by kernel_rfl) (by kernel_rfl) (by kernel_rfl) Qem (fun i hi=>by rw [hsz];exact Quq i hi) (fun i j hi hj=>Qjp i hi j hj) (qS8 N T E a3 l3 c3 pb wb nb a1 l1 c1 qa ql qc ra j rc q PA PB PC) (Q1a N T E a3 l3 c3 pb wb nb a1 l1 c1 qa ql qc ra j rc q PA PB PC hM_PA hM_PB hM_PC) FIN ?_ ?_ ?_ ?_
 ·refine ⟨?_,?_,?_,?_,?_,?_,?_,?_,?_,?_,?_,?_,trivial⟩
  ·intro a W g hF hd;have e9:=(hF.same 9 Qry).trans ha9;refine Qgb ?_
   exact ⟨_,rfl,Old.refl _,e9⟩
  ·intro a W g hF hd;have e11:=(hF.same 11 Qoz).trans ha11;refine Qfa (k:=wb) e11 (px_wb W g) Tryz.underlying57 rfl (by kernel_rfl) ?_
   exact ⟨_,rfl,Old.refl _,rfl⟩
  ·intro a W g hF hd;have e3:=(hF.same 3 Qjq).trans ha3;obtain ⟨ρ,hρ⟩:∃ρ,a.eval=ρ:=⟨_,rfl⟩
   rw [hρ] at e3;refine Qal ρ hρ (.pointer (some ⟨pb,1,none⟩)) ?_ ⟨_,rfl,Old.refl _,rfl⟩
   clear g hF hd hρ HK HEM hbase KA KB KC KD ha3 ha8 ha9 ha11 px_pb b_pb px_wb b_wb pc_pb_1
   go_simp
   all_goals (first | (rw [IntKind.wrap_i64];omega) | (rw [IntKind.wrap_u64];omega) | omega)
  ·intro a W g hF hd;have h2:a.eval (.tmp 38)=.pointer (some ⟨pb,1,none⟩):=hd ⟨2,.data⟩ (by simp) rfl;have kk0:=pc_pb_1 W g;obtain ⟨ρ,hρ⟩:∃ρ,a.eval=ρ:=⟨_,rfl⟩
   rw [hρ] at h2;refine Qal ρ hρ (.int .i64 T) ?_ ⟨_,rfl,Old.refl _,rfl⟩
   clear g hF hd hρ HK HEM hbase KA KB KC KD ha3 ha8 ha9 ha11 px_pb b_pb px_wb b_wb pc_pb_1
   go_simp
   all_goals (first | (rw [IntKind.wrap_i64];omega) | (rw [IntKind.wrap_u64];omega) | omega)
  ·intro a W g hF hd;have h3:a.eval (.tmp 39)=.int .i64 T:=hd ⟨3,.data⟩ (by simp) rfl;refine Qa3 (R:=fun v w'=>Old W w'∧PA w' v) Tryz.call29 (vs:=#[.int .i64 T]) (by simp [h3]) (KA W g) ?_
   rintro x w' ⟨g',hp⟩;exact ⟨_,rfl,g',hp⟩
  ·intro a W g hF hd;have h1:a.eval (.tmp 37)=.agg #[.bool nb,.slice a1 l1 c1]:=hd ⟨1,.data⟩ (by simp) rfl;have p4:PA W (a.eval (.tmp 40)):=hd ⟨4,.data⟩ (by simp) rfl;refine Qa3 (R:=fun v w'=>Old W w'∧PB w' v) Tryz.call28 (vs:=#[.agg #[.bool nb,.slice a1 l1 c1],a.eval (.tmp 40)]) (by simp [h1]) (KB W g _ p4) ?_
   rintro x w' ⟨g',hp⟩;exact ⟨_,rfl,g',hp⟩
  ·intro a W g hF hd;have e8:=(hF.same 8 Qrx).trans ha8;refine Qgb ?_
   exact ⟨_,rfl,Old.refl _,e8⟩
  ·intro a W g hF hd;have h6:a.eval (.tmp 42)=.slice qa ql qc:=hd ⟨6,.data⟩ (by simp) rfl;have p5:PB W (a.eval (.tmp 41)):=hd ⟨5,.data⟩ (by simp) rfl;refine Qa3 (R:=fun v w'=>Old W w'∧PC w' v) Tryz.call27 (vs:=#[a.eval (.tmp 41),.slice qa ql qc]) (by simp [h6]) (KC W g _ p5) ?_
   rintro x w' ⟨g',hp⟩;exact ⟨_,rfl,g',hp⟩
  ·intro a W g hF hd;have e3:=(hF.same 3 Qjq).trans ha3;obtain ⟨ρ,hρ⟩:∃ρ,a.eval=ρ:=⟨_,rfl⟩
   rw [hρ] at e3;refine Qal ρ hρ (.pointer (some ⟨pb,1,none⟩)) ?_ ⟨_,rfl,Old.refl _,rfl⟩
   clear g hF hd hρ HK HEM hbase KA KB KC KD ha3 ha8 ha9 ha11 px_pb b_pb px_wb b_wb pc_pb_1
   go_simp
   all_goals (first | (rw [IntKind.wrap_i64];omega) | (rw [IntKind.wrap_u64];omega) | omega)
  ·intro a W g hF hd;have h8:a.eval (.tmp 44)=.pointer (some ⟨pb,1,none⟩):=hd ⟨8,.data⟩ (by simp) rfl;have kk0:=pc_pb_1 W g;obtain ⟨ρ,hρ⟩:∃ρ,a.eval=ρ:=⟨_,rfl⟩
   rw [hρ] at h8;refine Qal ρ hρ (.int .i64 T) ?_ ⟨_,rfl,Old.refl _,rfl⟩
   clear g hF hd hρ HK HEM hbase KA KB KC KD ha3 ha8 ha9 ha11 px_pb b_pb px_wb b_wb pc_pb_1
   go_simp
   all_goals (first | (rw [IntKind.wrap_i64];omega) | (rw [IntKind.wrap_u64];omega) | omega)
  ·intro a W g hF hd;have h9:a.eval (.tmp 45)=.int .i64 T:=hd ⟨9,.data⟩ (by simp) rfl;have p7:PC W (a.eval (.tmp 43)):=hd ⟨7,.data⟩ (by simp) rfl;refine Qa3 (R:=fun v w'=>v=.int .i64 q∧Old W w') Tryz.call26 (vs:=#[a.eval (.tmp 43),.int .i64 T]) (by simp [h9]) ((KD W g _ p7).mono fun e w' h=>⟨_,h.1,rfl,h.2⟩) ?_
   rintro x w' ⟨rfl,g'⟩;exact ⟨_,rfl,g',rfl⟩
  ·intro a W g hF hd;have h10:a.eval (.tmp 46)=.int .i64 q:=hd ⟨10,.data⟩ (by simp) rfl;obtain ⟨ρ,hρ⟩:∃ρ,a.eval=ρ:=⟨_,rfl⟩
   rw [hρ] at h10;refine Qup (W':=W.alloc (.cells #[.int .i64 q] 3)) ρ hρ (.slice (some ⟨W.heap.size,0,none⟩) 1 1) ?_ ⟨_,rfl,(Old.refl W).alloc _,W.heap.size,rfl,Qad _ _ _ _ _ rfl,by simp⟩
   clear g hF hd hρ HK HEM hbase KA KB KC KD ha3 ha8 ha9 ha11 px_pb b_pb px_wb b_wb pc_pb_1
   go_simp
 ·intro a W g hF hq;have h0:a.eval (.tmp 36)=.slice ra j rc:=hq 0 (by decide);obtain ⟨gg,h8,hcell,hlt⟩:∃gg,a.eval (.tmp 47)=.slice (some ⟨gg,0,none⟩) 1 1∧W.cell? ⟨gg,0,none⟩=some (.int .i64 q)∧gg<W.heap.size:=hq 11 (by decide)
  obtain ⟨vs,ov,hem⟩:=HEM W g;refine Qgx _ _ 22 rfl base 3 i0 (.int .i64 0) 1 8 Tryz.underlying22 ii iz0 iz1 iz2 rfl (by decide) _ j vs h0 ov ⟨gg,0,none⟩ 1 1 [.int .i64 q] h8 rfl ?_ (by simp [Value.oneCell']) (by unfold maxLen;omega) (by omega) (Nat.le_trans hbase g.size) ?_
  ·intro j u hj
   match j,hj with
   | 0,hj=>
     have:Value.int .i64 q=u:=by simpa using hj
     subst this;exact hcell
   | j+1,hj=>simp at hj
  ·intro v' w' o5 g5 x5 l5;exact ⟨v',rfl,hem v' w' o5 g5⟩
 ·intro a W v hv;exact Qeh (by rw [show a.eval (.tmp 48)=v from hv];exact ⟨rfl,rfl⟩)
 ·intro a W hF hq;have hp:=Qeu hF (fun i j hi hj=>Qjp i hi j hj);have hk:=HK.out (fun i=>a.eval (.tmp (Qem i))) W hq;rw [<- hp] at hk;exact hk
def Qcf (i:Nat):Nat:=[18,19,20,21,22,23,24,25,26,27,28,29,30,31,32,33,7].getD i 0
theorem Qrz:∀i,i<17->Qcf i<36:=by decide
theorem Qic:∀i,i<17->∀j,j<17->Qcf i=Qcf j->i=j:=by decide
theorem Qr0:∀s,s<18->∀i,i<16->Qcf i≠s:=by decide
def Qvo (sb b1 o1 b2 o2 L cap1 cap2 k:Nat) (aa:Option Addr) (cap:Nat) (p N:Int) (x1 x2:Option Addr) (n1 y1 n2 y2:Nat) (zs:List Int) (base:Nat) (i:Nat) (W:World) (xv:Value):Prop:=
 match i with
 | 0=>xv=.slice aa k cap
 | 1=>xv=.int .i64 p
 | 2=>xv=.pointer (some ⟨sb,0,none⟩)
 | 3=>xv=.int .i64 N
 | 4=>xv=.agg #[.int .i64 p,.int .i64 N,.int .i64 0]
 | 5=>xv=.slice (some ⟨b1,o1,none⟩) L cap1
 | 6=>xv=.int .i64 k
 | 7=>xv=.pointer (some ⟨b1,o1+k,none⟩)
 | 8=>xv=.slice x1 n1 y1
 | 9=>xv=.slice (some ⟨b2,o2,none⟩) L cap2
 | 10=>xv=.int .i64 k
 | 11=>xv=.pointer (some ⟨b2,o2+k,none⟩)
 | 12=>xv=.slice x2 n2 y2
 | 13=>∃ra rc,xv=.slice ra zs.length rc/\zs.length<=rc/\Own W base xv zs
 | 14=>∃ra rc g,xv=.slice (some ⟨g,0,none⟩) 1 1/\zs.length<=rc/\Own W base (.slice ra zs.length rc) zs/\W.cell? ⟨g,0,none⟩=some (.slice ra zs.length rc)/\g<W.heap.size
 | _=>True
theorem Qw5 (sb b1 o1 b2 o2 L cap1 cap2 k:Nat) (aa:Option Addr) (cap:Nat) (p N:Int) (x1 x2:Option Addr) (n1 y1 n2 y2:Nat) (zs:List Int) (base:Nat) (i:Nat) (W W':World) (xv:Value) (h:Qvo sb b1 o1 b2 o2 L cap1 cap2 k aa cap p N x1 x2 n1 y1 n2 y2 zs base i W xv) (qo:Old W W'):Qvo sb b1 o1 b2 o2 L cap1 cap2 k aa cap p N x1 x2 n1 y1 n2 y2 zs base i W' xv:=by
 unfold Qvo at h ⊢;split at h
 case h_14=>
  obtain ⟨ra,rc,e,hc,ow⟩:=h;exact ⟨ra,rc,e,hc,ow.old qo⟩
 case h_15=>
  obtain ⟨ra,rc,g,e,hc,ow,hcell,hlt⟩:=h;exact ⟨ra,rc,g,e,hc,ow.old qo,(qo.cell (p:=⟨g,0,none⟩) hlt).trans hcell,Nat.lt_of_lt_of_le hlt qo.size⟩
 all_goals first | exact h | trivial
theorem Q1b (w0:World) (sb b1 o1 b2 o2 L cap1 cap2 k:Nat) (aa:Option Addr) (cap:Nat) (p N:Int) (x1 x2:Option Addr) (n1 y1 n2 y2:Nat) (zs:List Int) (base:Nat) (hbase:base≤w0.heap.size) (FIN:World→Value→Prop)
  (cN:w0.cell? ⟨sb,0,none⟩=some (.int .i64 N)) (c1:w0.cell? ⟨b1,o1+k,none⟩=some (.slice x1 n1 y1)) (c2:w0.cell? ⟨b2,o2+k,none⟩=some (.slice x2 n2 y2))
  (hk:k<L) (hk6:k<=6) (hL:L<=1048576) (hkL:(k:Int)<(L:Int))
  (KF:∀W,Old w0 W->Calls Tryz.prog 89 #[.agg #[.int .i64 p,.int .i64 N,.int .i64 0],.slice x1 n1 y1,.slice x2 n2 y2] W fun e w'=>∃v',e=.returned v'/\Old W w'/\Own w' W.heap.size v' zs)
  (HEM:∀(W:World) (ra:Option Addr) (rc:Nat),Old w0 W->Own W w0.heap.size (.slice ra zs.length rc) zs->zs.length<=rc->∃vs,W.ownsRow base 22 1 (.slice aa k cap) k vs/\(∀v' w',w'.ownsRow base 22 1 v' (k+1) (vs++[.slice ra zs.length rc])->W.grownBy w' (Value.slice aa k cap).ownBlock->(v'.ownBlock=(Value.slice aa k cap).ownBlock∨v'.ownBlock=some W.heap.size)->FIN w' v'))
  (Q:Exit->Act->World->Prop) (a0:Act) (hsz:a0.tmps.size=36)
  (ha1:a0.eval (.tmp 1)=.slice (some ⟨b1,o1,none⟩) L cap1) (ha2:a0.eval (.tmp 2)=.slice (some ⟨b2,o2,none⟩) L cap2) (ha3:a0.eval (.tmp 3)=.pointer (some ⟨sb,0,none⟩)) (ha7:a0.eval (.tmp 7)=.slice aa k cap) (ha8:a0.eval (.tmp 8)=.int .i64 k) (ha9:a0.eval (.tmp 9)=.int .i64 p)
  (HK:Hid (∀(us:Nat->Value) W,FIN W (us 16)->Q .normal (Qb6 a0 ((List.range 17).map fun i=>(Qcf i,us i))) W)) :
  Code.wp Tryz.prog ((Tryz.f51.body.bind (Qa6 5)).getD .skip) Q a0 w0:=by
 conv=>arg 2;whnf
 obtain ⟨i0,ii,iz0,iz1,iz2⟩:=info_parts Tryz.infoInt;obtain ⟨j0,ji,jz0,jz1,jz2⟩:=info_parts Tryz.infoInts;have hsb:=block_lt_of_cell cN;have hb1:=block_lt_of_cell c1;have hb2:=block_lt_of_cell c2;have un:=Qr0;refine Qe4 15 rfl rfl rfl (by kernel_rfl) (by kernel_rfl) (by kernel_rfl) (by kernel_rfl) (by kernel_rfl) Qcf (fun i hi=>by rw [hsz];exact Qrz i hi) (fun i j hi hj=>Qic i hi j hj) (Qvo sb b1 o1 b2 o2 L cap1 cap2 k aa cap p N x1 x2 n1 y1 n2 y2 zs w0.heap.size) (Qw5 sb b1 o1 b2 o2 L cap1 cap2 k aa cap p N x1 x2 n1 y1 n2 y2 zs w0.heap.size) FIN ?_ ?_ ?_ ?_
 ·refine ⟨?_,?_,?_,?_,?_,?_,?_,?_,?_,?_,?_,?_,?_,?_,?_,trivial⟩
  ·intro a W g hF hd;have e1:=(hF.same 1 (un 1 (by decide))).trans ha1;have e2:=(hF.same 2 (un 2 (by decide))).trans ha2;have e3:=(hF.same 3 (un 3 (by decide))).trans ha3;have e7:=(hF.same 7 (un 7 (by decide))).trans ha7;have e8:=(hF.same 8 (un 8 (by decide))).trans ha8;have e9:=(hF.same 9 (un 9 (by decide))).trans ha9;obtain ⟨ρ,hρ⟩:∃ρ,a.eval=ρ:=⟨_,rfl⟩
   rw [hρ] at e1 e2 e3 e7 e8 e9;refine Qal ρ hρ (.slice aa k cap) ?_ ⟨_,rfl,Old.refl _,rfl⟩
   clear g hF hd hρ HK un ha1 ha2 ha3 ha7 ha8 ha9 cN c1 c2 KF HEM
   go_simp
   all_goals (rw [IntKind.wrap_i64];omega)
  ·intro a W g hF hd;have e1:=(hF.same 1 (un 1 (by decide))).trans ha1;have e2:=(hF.same 2 (un 2 (by decide))).trans ha2;have e3:=(hF.same 3 (un 3 (by decide))).trans ha3;have e7:=(hF.same 7 (un 7 (by decide))).trans ha7;have e8:=(hF.same 8 (un 8 (by decide))).trans ha8;have e9:=(hF.same 9 (un 9 (by decide))).trans ha9;obtain ⟨ρ,hρ⟩:∃ρ,a.eval=ρ:=⟨_,rfl⟩
   rw [hρ] at e1 e2 e3 e7 e8 e9;refine Qal ρ hρ (.int .i64 p) ?_ ⟨_,rfl,Old.refl _,rfl⟩
   clear g hF hd hρ HK un ha1 ha2 ha3 ha7 ha8 ha9 cN c1 c2 KF HEM
   go_simp
   all_goals (rw [IntKind.wrap_i64];omega)
  ·intro a W g hF hd;have e1:=(hF.same 1 (un 1 (by decide))).trans ha1;have e2:=(hF.same 2 (un 2 (by decide))).trans ha2;have e3:=(hF.same 3 (un 3 (by decide))).trans ha3;have e7:=(hF.same 7 (un 7 (by decide))).trans ha7;have e8:=(hF.same 8 (un 8 (by decide))).trans ha8;have e9:=(hF.same 9 (un 9 (by decide))).trans ha9;obtain ⟨ρ,hρ⟩:∃ρ,a.eval=ρ:=⟨_,rfl⟩
   rw [hρ] at e1 e2 e3 e7 e8 e9;refine Qal ρ hρ (.pointer (some ⟨sb,0,none⟩)) ?_ ⟨_,rfl,Old.refl _,rfl⟩
   clear g hF hd hρ HK un ha1 ha2 ha3 ha7 ha8 ha9 cN c1 c2 KF HEM
   go_simp
   all_goals (rw [IntKind.wrap_i64];omega)
  ·intro a W g hF hd;have e1:=(hF.same 1 (un 1 (by decide))).trans ha1;have e2:=(hF.same 2 (un 2 (by decide))).trans ha2;have e3:=(hF.same 3 (un 3 (by decide))).trans ha3;have e7:=(hF.same 7 (un 7 (by decide))).trans ha7;have e8:=(hF.same 8 (un 8 (by decide))).trans ha8;have e9:=(hF.same 9 (un 9 (by decide))).trans ha9;have h2:=hd ⟨2,.data⟩ (by simp) rfl;simp only [Qvo,Qcf,List.getD_cons_zero,List.getD_cons_succ] at h2;have kcN:=(g.cell (p:=⟨sb,0,none⟩) hsb).trans cN;obtain ⟨ρ,hρ⟩:∃ρ,a.eval=ρ:=⟨_,rfl⟩
   rw [hρ] at h2 e1 e2 e3 e7 e8 e9;refine Qal ρ hρ (.int .i64 N) ?_ ⟨_,rfl,Old.refl _,rfl⟩
   clear g hF hd hρ HK un ha1 ha2 ha3 ha7 ha8 ha9 cN c1 c2 KF HEM
   go_simp
   all_goals (rw [IntKind.wrap_i64];omega)
  ·intro a W g hF hd;have e1:=(hF.same 1 (un 1 (by decide))).trans ha1;have e2:=(hF.same 2 (un 2 (by decide))).trans ha2;have e3:=(hF.same 3 (un 3 (by decide))).trans ha3;have e7:=(hF.same 7 (un 7 (by decide))).trans ha7;have e8:=(hF.same 8 (un 8 (by decide))).trans ha8;have e9:=(hF.same 9 (un 9 (by decide))).trans ha9;have h1:=hd ⟨1,.data⟩ (by simp) rfl;have h3:=hd ⟨3,.data⟩ (by simp) rfl;simp only [Qvo,Qcf,List.getD_cons_zero,List.getD_cons_succ] at h1 h3;obtain ⟨ρ,hρ⟩:∃ρ,a.eval=ρ:=⟨_,rfl⟩
   rw [hρ] at h1 h3 e1 e2 e3 e7 e8 e9;refine Qal ρ hρ (.agg #[.int .i64 p,.int .i64 N,.int .i64 0]) ?_ ⟨_,rfl,Old.refl _,rfl⟩
   clear g hF hd hρ HK un ha1 ha2 ha3 ha7 ha8 ha9 cN c1 c2 KF HEM
   go_simp
   all_goals (rw [IntKind.wrap_i64];omega)
  ·intro a W g hF hd;have e1:=(hF.same 1 (un 1 (by decide))).trans ha1;have e2:=(hF.same 2 (un 2 (by decide))).trans ha2;have e3:=(hF.same 3 (un 3 (by decide))).trans ha3;have e7:=(hF.same 7 (un 7 (by decide))).trans ha7;have e8:=(hF.same 8 (un 8 (by decide))).trans ha8;have e9:=(hF.same 9 (un 9 (by decide))).trans ha9;obtain ⟨ρ,hρ⟩:∃ρ,a.eval=ρ:=⟨_,rfl⟩
   rw [hρ] at e1 e2 e3 e7 e8 e9;refine Qal ρ hρ (.slice (some ⟨b1,o1,none⟩) L cap1) ?_ ⟨_,rfl,Old.refl _,rfl⟩
   clear g hF hd hρ HK un ha1 ha2 ha3 ha7 ha8 ha9 cN c1 c2 KF HEM
   go_simp
   all_goals (rw [IntKind.wrap_i64];omega)
  ·intro a W g hF hd;have e1:=(hF.same 1 (un 1 (by decide))).trans ha1;have e2:=(hF.same 2 (un 2 (by decide))).trans ha2;have e3:=(hF.same 3 (un 3 (by decide))).trans ha3;have e7:=(hF.same 7 (un 7 (by decide))).trans ha7;have e8:=(hF.same 8 (un 8 (by decide))).trans ha8;have e9:=(hF.same 9 (un 9 (by decide))).trans ha9;obtain ⟨ρ,hρ⟩:∃ρ,a.eval=ρ:=⟨_,rfl⟩
   rw [hρ] at e1 e2 e3 e7 e8 e9;refine Qal ρ hρ (.int .i64 k) ?_ ⟨_,rfl,Old.refl _,rfl⟩
   clear g hF hd hρ HK un ha1 ha2 ha3 ha7 ha8 ha9 cN c1 c2 KF HEM
   go_simp
   all_goals (rw [IntKind.wrap_i64];omega)
  ·intro a W g hF hd;have e1:=(hF.same 1 (un 1 (by decide))).trans ha1;have e2:=(hF.same 2 (un 2 (by decide))).trans ha2;have e3:=(hF.same 3 (un 3 (by decide))).trans ha3;have e7:=(hF.same 7 (un 7 (by decide))).trans ha7;have e8:=(hF.same 8 (un 8 (by decide))).trans ha8;have e9:=(hF.same 9 (un 9 (by decide))).trans ha9;have h5:=hd ⟨5,.data⟩ (by simp) rfl;have h6:=hd ⟨6,.data⟩ (by simp) rfl;simp only [Qvo,Qcf,List.getD_cons_zero,List.getD_cons_succ] at h5 h6;obtain ⟨ρ,hρ⟩:∃ρ,a.eval=ρ:=⟨_,rfl⟩
   rw [hρ] at h5 h6 e1 e2 e3 e7 e8 e9;refine Qal ρ hρ (.pointer (some ⟨b1,o1+k,none⟩)) ?_ ⟨_,rfl,Old.refl _,rfl⟩
   clear g hF hd hρ HK un ha1 ha2 ha3 ha7 ha8 ha9 cN c1 c2 KF HEM
   go_simp
   all_goals (rw [IntKind.wrap_i64];omega)
  ·intro a W g hF hd;have e1:=(hF.same 1 (un 1 (by decide))).trans ha1;have e2:=(hF.same 2 (un 2 (by decide))).trans ha2;have e3:=(hF.same 3 (un 3 (by decide))).trans ha3;have e7:=(hF.same 7 (un 7 (by decide))).trans ha7;have e8:=(hF.same 8 (un 8 (by decide))).trans ha8;have e9:=(hF.same 9 (un 9 (by decide))).trans ha9;have h7:=hd ⟨7,.data⟩ (by simp) rfl;simp only [Qvo,Qcf,List.getD_cons_zero,List.getD_cons_succ] at h7;have kc1:=(g.cell (p:=⟨b1,o1+k,none⟩) hb1).trans c1;obtain ⟨ρ,hρ⟩:∃ρ,a.eval=ρ:=⟨_,rfl⟩
   rw [hρ] at h7 e1 e2 e3 e7 e8 e9;refine Qal ρ hρ (.slice x1 n1 y1) ?_ ⟨_,rfl,Old.refl _,rfl⟩
   clear g hF hd hρ HK un ha1 ha2 ha3 ha7 ha8 ha9 cN c1 c2 KF HEM
   go_simp
   all_goals (rw [IntKind.wrap_i64];omega)
  ·intro a W g hF hd;have e1:=(hF.same 1 (un 1 (by decide))).trans ha1;have e2:=(hF.same 2 (un 2 (by decide))).trans ha2;have e3:=(hF.same 3 (un 3 (by decide))).trans ha3;have e7:=(hF.same 7 (un 7 (by decide))).trans ha7;have e8:=(hF.same 8 (un 8 (by decide))).trans ha8;have e9:=(hF.same 9 (un 9 (by decide))).trans ha9;obtain ⟨ρ,hρ⟩:∃ρ,a.eval=ρ:=⟨_,rfl⟩
   rw [hρ] at e1 e2 e3 e7 e8 e9;refine Qal ρ hρ (.slice (some ⟨b2,o2,none⟩) L cap2) ?_ ⟨_,rfl,Old.refl _,rfl⟩
   clear g hF hd hρ HK un ha1 ha2 ha3 ha7 ha8 ha9 cN c1 c2 KF HEM
   go_simp
   all_goals (rw [IntKind.wrap_i64];omega)
  ·intro a W g hF hd;have e1:=(hF.same 1 (un 1 (by decide))).trans ha1;have e2:=(hF.same 2 (un 2 (by decide))).trans ha2;have e3:=(hF.same 3 (un 3 (by decide))).trans ha3;have e7:=(hF.same 7 (un 7 (by decide))).trans ha7;have e8:=(hF.same 8 (un 8 (by decide))).trans ha8;have e9:=(hF.same 9 (un 9 (by decide))).trans ha9;obtain ⟨ρ,hρ⟩:∃ρ,a.eval=ρ:=⟨_,rfl⟩
   rw [hρ] at e1 e2 e3 e7 e8 e9;refine Qal ρ hρ (.int .i64 k) ?_ ⟨_,rfl,Old.refl _,rfl⟩
   clear g hF hd hρ HK un ha1 ha2 ha3 ha7 ha8 ha9 cN c1 c2 KF HEM
   go_simp
   all_goals (rw [IntKind.wrap_i64];omega)
  ·intro a W g hF hd;have e1:=(hF.same 1 (un 1 (by decide))).trans ha1;have e2:=(hF.same 2 (un 2 (by decide))).trans ha2;have e3:=(hF.same 3 (un 3 (by decide))).trans ha3;have e7:=(hF.same 7 (un 7 (by decide))).trans ha7;have e8:=(hF.same 8 (un 8 (by decide))).trans ha8;have e9:=(hF.same 9 (un 9 (by decide))).trans ha9;have h9:=hd ⟨9,.data⟩ (by simp) rfl;have h10:=hd ⟨10,.data⟩ (by simp) rfl;simp only [Qvo,Qcf,List.getD_cons_zero,List.getD_cons_succ] at h9 h10;obtain ⟨ρ,hρ⟩:∃ρ,a.eval=ρ:=⟨_,rfl⟩
   rw [hρ] at h9 h10 e1 e2 e3 e7 e8 e9;refine Qal ρ hρ (.pointer (some ⟨b2,o2+k,none⟩)) ?_ ⟨_,rfl,Old.refl _,rfl⟩
   clear g hF hd hρ HK un ha1 ha2 ha3 ha7 ha8 ha9 cN c1 c2 KF HEM
   go_simp
   all_goals (rw [IntKind.wrap_i64];omega)
  ·intro a W g hF hd;have e1:=(hF.same 1 (un 1 (by decide))).trans ha1;have e2:=(hF.same 2 (un 2 (by decide))).trans ha2;have e3:=(hF.same 3 (un 3 (by decide))).trans ha3;have e7:=(hF.same 7 (un 7 (by decide))).trans ha7;have e8:=(hF.same 8 (un 8 (by decide))).trans ha8;have e9:=(hF.same 9 (un 9 (by decide))).trans ha9;have h11:=hd ⟨11,.data⟩ (by simp) rfl;simp only [Qvo,Qcf,List.getD_cons_zero,List.getD_cons_succ] at h11;have kc2:=(g.cell (p:=⟨b2,o2+k,none⟩) hb2).trans c2;obtain ⟨ρ,hρ⟩:∃ρ,a.eval=ρ:=⟨_,rfl⟩
   rw [hρ] at h11 e1 e2 e3 e7 e8 e9;refine Qal ρ hρ (.slice x2 n2 y2) ?_ ⟨_,rfl,Old.refl _,rfl⟩
   clear g hF hd hρ HK un ha1 ha2 ha3 ha7 ha8 ha9 cN c1 c2 KF HEM
   go_simp
   all_goals (rw [IntKind.wrap_i64];omega)
  ·intro a W g hF hd;have h4:a.eval (.tmp 22)=.agg #[.int .i64 p,.int .i64 N,.int .i64 0]:=hd ⟨4,.data⟩ (by simp) rfl;have h8:a.eval (.tmp 26)=.slice x1 n1 y1:=hd ⟨8,.data⟩ (by simp) rfl;have h12:a.eval (.tmp 30)=.slice x2 n2 y2:=hd ⟨12,.data⟩ (by simp) rfl;refine Qa3 Tryz.call89 (vs:=#[.agg #[.int .i64 p,.int .i64 N,.int .i64 0],.slice x1 n1 y1,.slice x2 n2 y2]) (by simp [h4,h8,h12]) (KF W g) ?_
   rintro x w' ⟨g',o'⟩;obtain ⟨ra,rc,e,hc⟩:=Q09 o';subst e;exact ⟨_,rfl,g',ra,rc,rfl,hc,o'.low g.size⟩
  ·intro a W g hF hd;obtain ⟨ra,rc,h7,hc,ow⟩:∃ra rc,a.eval (.tmp 31)=.slice ra zs.length rc∧zs.length≤rc∧Own W w0.heap.size (a.eval (.tmp 31)) zs:=hd ⟨13,.data⟩ (by simp) rfl
   rw [h7] at ow;obtain ⟨ρ,hρ⟩:∃ρ,a.eval=ρ:=⟨_,rfl⟩
   rw [hρ] at h7;refine Qup (W':=W.alloc (.cells #[.slice ra zs.length rc] 22)) ρ hρ (.slice (some ⟨W.heap.size,0,none⟩) 1 1) ?_ ⟨_,rfl,(Old.refl W).alloc _,ra,rc,W.heap.size,rfl,hc,ow.alloc _,Qad _ _ _ _ _ rfl,by simp⟩
   clear g hF hd hρ HK un ha1 ha2 ha3 ha7 ha8 ha9 cN c1 c2 KF HEM ow hc
   go_simp
 ·intro a W g hF hq;have h0:a.eval (.tmp 18)=.slice aa k cap:=hq 0 (by decide);obtain ⟨ra,rc,gg,h8,hc,ow,hcell,hlt⟩:∃ra rc gg,a.eval (.tmp 32)=.slice (some ⟨gg,0,none⟩) 1 1∧zs.length≤rc∧Own W w0.heap.size (.slice ra zs.length rc) zs∧W.cell? ⟨gg,0,none⟩=some (.slice ra zs.length rc)∧gg<W.heap.size:=hq 14 (by decide)
  obtain ⟨vs,ov,hem⟩:=HEM W ra rc g ow hc;refine Qgx _ _ 54 rfl base 22 j0 (.slice none 0 0) 1 24 Tryz.underlying54 ji jz0 jz1 jz2 rfl (by decide) _ k vs h0 ov ⟨gg,0,none⟩ 1 1 [.slice ra zs.length rc] h8 rfl ?_ (Qui _ _ _) (by unfold maxLen;omega) (by omega) (Nat.le_trans hbase g.size) ?_
  ·intro j u hj
   match j,hj with
   | 0,hj=>
     have:Value.slice ra zs.length rc=u:=by simpa using hj
     subst this;exact hcell
   | j+1,hj=>simp at hj
  ·intro v' w' o5 g5 x5 l5;exact ⟨v',rfl,hem v' w' o5 g5 l5⟩
 ·intro a W v hv;exact Qeh (by rw [show a.eval (.tmp 33)=v from hv];exact ⟨rfl,rfl⟩)
 ·intro a W hF hq;have hp:=Qeu hF (fun i j hi hj=>Qic i hi j hj);have hk:=HK.out (fun i=>a.eval (.tmp (Qcf i))) W hq;rw [<- hp] at hk;exact hk
end Go.Proofs.YthcidnnkakppcaaGreatDoor
namespace Go.Proofs.YthcidnnkakppcaaGreatDoor
open Go.ChangeShapes Go.WideShapes Go.ChangeAt Go.RowKit
open M1
theorem Qr1 (N:Int) (ps:List Int) (xss yss zss:List (List Int)) (v u1 u2:Value) (w:World) (hv:Row w v ps) (h1:Qdq w u1 xss) (h2:Qdq w u2 yss) (hps:1≤ps.length∧ps.length≤6) (hx:xss.length=ps.length) (hy:yss.length=ps.length) (hzl:zss.length=ps.length)
  (KF:∀k,k<ps.length->∀W u t,Row W u (xss.getD k [])->Row W t (yss.getD k [])->Calls Tryz.prog 89 #[.agg #[.int .i64 (ps.getD k 0),.int .i64 N,.int .i64 0],u,t] W fun e w'=>∃v',e=.returned v'/\Old W w'/\Own w' W.heap.size v' (zss.getD k [])) :
  Calls Tryz.prog 51 #[.agg #[.int .i64 N,v],u1,u2] w fun e w'=>∃v',e=.returned v'/\Old w w'/\OwS zss w' w.heap.size w'.heap.size v':=by
 have HKF:=Qaa KF;clear KF;obtain ⟨a0,cap0,ev⟩:=hv.slice;obtain ⟨a1,cap1,e1⟩:=h1.slice;obtain ⟨a2,cap2,e2⟩:=h2.slice;rw [hx] at e1;rw [hy] at e2;subst ev e1 e2;rcases hv with ⟨a,cap,e,e'⟩ | ⟨b,o,cap,e,hb,h0,hc⟩
 ·subst e';simp at hps
 rcases h1 with ⟨a,cap,e,e'⟩ | ⟨b1,o1,cap,us1,e_1,hb1,h01,hc1⟩
 ·subst e';simp at hx;omega
 rcases h2 with ⟨a,cap,e,e'⟩ | ⟨b2,o2,cap,us2,e_2,hb2,h02,hc2⟩
 ·subst e';simp at hy;omega
 simp only [Value.slice.injEq,true_and] at e e_1 e_2;obtain ⟨rfl,rfl⟩:=e;obtain ⟨rfl,hq1,rfl⟩:=e_1;obtain ⟨rfl,hq2,rfl⟩:=e_2;have HC:=Qaa hc;have HC1:Hid (∀j,j<ps.length->w.cell? ⟨b1,o1+j,none⟩=some (us1 j)/\Row w (us1 j) (xss.getD j [])):=fun j hj=>hc1 j (by omega)
 have HC2:Hid (∀j,j<ps.length->w.cell? ⟨b2,o2+j,none⟩=some (us2 j)/\Row w (us2 j) (yss.getD j [])):=fun j hj=>hc2 j (by omega)
 have HZ:Hid (∀k,k<ps.length->zss.take (k+1)=zss.take k++[zss.getD k []]):=fun k hk=>Qga _ _ (by omega)
 have HZL:=Qaa hzl;obtain ⟨wB,hwB⟩:∃wB,wB=w.alloc (.cells #[.int .i64 N,.slice (some ⟨b,o,none⟩) ps.length cap0] 52):=⟨_,rfl⟩
 have HAO:Hid (Old w wB):=by rw [hwB];exact (Old.refl w).alloc _
 have hq0:wB.cell? ⟨w.heap.size,0,none⟩=some (.int .i64 N):=by rw [hwB];exact Qad _ _ _ _ _ rfl
 have hqs:w.heap.size<wB.heap.size:=by rw [hwB];simp
 clear hc hc1 hc2 hzl hq1 hq2 h0 h01 h02 hx hy;go_enter Tryz.func51,Tryz.ntmps51;go_wp2_with fail;rw [<- hwB];clear hwB
 go_loopw [7,13] (fun x i W=>∃(k:Nat) (a:Option Addr) (cap:Nat),k<=ps.length/\i=.int .i64 k/\x=.slice a k cap/\Hid (OwS (zss.take k) W wB.heap.size W.heap.size (.slice a k cap))/\Hid (Old wB W)) (fun _ i _=>ps.length - (intOf i).toNat)
 case atStart=>exact ⟨0,none,0,by omega,rfl,rfl,⟨Nat.le_refl _,Or.inl ⟨rfl,by simp⟩⟩,Old.refl _⟩
 case round=>
  obtain ⟨k,a,cap,hk,rfl,rfl,HO,HG⟩:=hrel;have hsr:=HG.out.size
  by_cases hlt:k<ps.length
  ·have hkL:(k:Int)<(ps.length:Int):=by omega
   have HGW:=Qaa (Old.trans HAO.out HG.out);have c0:=(HGW.out.cell (p:=⟨b,o+k,none⟩) hb).trans (HC.out k hlt);obtain ⟨p1,p2⟩:=HC1.out k hlt;obtain ⟨xa,ya,f1⟩:=p2.slice;rw [f1] at p1 p2;obtain ⟨p3,p4⟩:=HC2.out k hlt;obtain ⟨xb,yb,f2⟩:=p4.slice;rw [f2] at p3 p4;have c1:=(HGW.out.cell (p:=⟨b1,o1+k,none⟩) hb1).trans p1;have c2:=(HGW.out.cell (p:=⟨b2,o2+k,none⟩) hb2).trans p3;have R1:=Qaa (p2.old HGW.out);have R2:=Qaa (p4.old HGW.out);have n0:=(HG.out.cell (p:=⟨w.heap.size,0,none⟩) hqs).trans hq0;have HZK:=Qaa (HZ.out k hlt);have KFk:=HKF.out k hlt;clear p1 p2 p3 p4 f1 f2;generalize zss.getD k []=zs at *;generalize xss.getD k []=xs at *;generalize yss.getD k []=ys at *;generalize ps.getD k 0=p at *
   have HEMB:Hid (∀(W:World) (ra:Option Addr) (rc:Nat),Old wr W->Own W wr.heap.size (.slice ra zs.length rc) zs->zs.length<=rc->∃vs,W.ownsRow wB.heap.size 22 1 (.slice a k cap) k vs/\(∀v' w',w'.ownsRow wB.heap.size 22 1 v' (k+1) (vs++[.slice ra zs.length rc])->W.grownBy w' (Value.slice a k cap).ownBlock->(v'.ownBlock=(Value.slice a k cap).ownBlock∨v'.ownBlock=some W.heap.size)->OwS (zss.take (k+1)) w' wB.heap.size w'.heap.size v'/\Below (wB.heap.size) wr w')):=fun W ra rc g o hc=>by
    have hl:(zss.take k).length=k:=by rw [List.length_take];have:=HZL.out;omega
    have:=OwS.app HO.out hsr g o hc;rw [hl] at this;rw [HZK.out];obtain ⟨vs,t1,t2⟩:=this;refine ⟨vs,t1,fun v' w' q1 q2 q3=>⟨t2 v' w' q1 q2 q3,?_⟩⟩;refine Below.grown (g.mono hsr) q2 (Nat.le_trans hsr g.size) (fun p hp=>?_);obtain ⟨hh,⟨e,e2⟩ | ⟨p',cap',vs,e,hcap,hl,hhi,_⟩⟩:=HO.out
    ·rw [e] at hp
     cases hp
    ·rw [e] at hp;simp only [Value.ownBlock,Option.some.injEq] at hp;omega
   go_wp2_with fail
   refine Q1b wr w.heap.size b1 o1 b2 o2 ps.length cap1 cap2 k a cap p N xa xb xs.length ya ys.length yb zs wB.heap.size hsr (fun W v=>OwS (zss.take (k+1)) W wB.heap.size W.heap.size v/\Old wB W) n0 c1 c2 hlt (by omega) (by omega) hkL (fun W g=>KFk W _ _ (R1.out.old g) (R2.out.old g)) (fun W ra rc g o hc=>by
    obtain ⟨vs,t1,t2⟩:=HEMB.out W ra rc g o hc;exact ⟨vs,t1,fun v' w' q1 q2 q3=>⟨(t2 v' w' q1 q2 q3).1,Below.trans HG.out (t2 v' w' q1 q2 q3).2⟩⟩) _ _ ?_ ?_ ?_ ?_ ?_ ?_ ?_ ?_
   iterate 7 (·exact rfl)
   intro us W' hfin;obtain ⟨O5,G5⟩:=hfin;have HO5:=Qaa O5;have HG5:=Qaa G5;clear O5 G5 c0 c1 c2 n0 KFk HEMB;simp only [Qb6,Act.put,Qcf,List.range,List.range.loop,List.map_cons,List.map_nil,List.getD_cons_zero,List.getD_cons_succ,List.setIfInBounds_toArray,List.set_cons_succ,List.set_cons_zero];have hl1:(zss.take (k+1)).length=k+1:=by rw [List.length_take];have:=HZL.out;omega
   obtain ⟨a5,cap5,e5⟩:=HO5.out.slice;rw [hl1] at e5;rw [e5] at HO5;generalize us 16=u10 at *;subst e5;go_wp2_with fail;exact ⟨⟨k+1,_,_,by omega,by go_num,rfl,HO5,HG5⟩,by simp [intOf];omega⟩
  ·have d1:decide ((k:Int)<(ps.length:Int))=false:=by simp;omega
   obtain rfl:k=ps.length:=by omega
   have HF:Hid (OwS zss wr wB.heap.size wr.heap.size (.slice a ps.length cap)):=by
    have:=HO.out;rw [List.take_of_length_le (by have:=HZL.out;omega)] at this;exact this
   go_wp2_with fail;go_ret;exact ⟨_,rfl,Old.trans HAO.out HG.out,HF.out.low HAO.out.size⟩
end Go.Proofs.YthcidnnkakppcaaGreatDoor
