/- Proved: what its theorems say. -/
import Derived.Test.YtejhpljichmmpaaGreatDoorNo14
import Derived.Test.YtejhpljichmmpaaGreatDoorNo24
import Derived.Test.YtejhpljichmmpaaGreatDoorNo16
set_option linter.unusedVariables false
set_option linter.unusedSimpArgs false
set_option maxHeartbeats 8000000
set_option maxRecDepth 100000
namespace Go.Proofs.YtejhpljichmmpaaGreatDoor
open Go.ChangeShapes Go.WideShapes Go.ChangeAt Go.RowKit
theorem Qzv {P:Program} {a:Act} {W W':World} {K:Act->World->Prop} {Q:Exit->Act->World->Prop} {o:Oper} (ρ:Operand->Value) (hρ:a.eval=ρ) (v:Value) (hr:(execOp ρ o).run P W=.ok (.value v) W') (hK:K (a.put o.dst v) W'):o.wp P a W K Q:=by
 unfold Oper.wp;rw [hρ,hr];exact hK
theorem Qmq {P:Program} {o:Oper} {a:Act} {w:World} {K:Act->World->Prop} {Q:Exit->Act->World->Prop} (s x:Operand) (t:TypeId)
 (ho:o.op=.call {callee:=.builtin .append,args:=#[s,x],argTypes:=#[t,t]})
 (base:Nat) (e:TypeId) (i:TypeInfo) (z:Value) (size bytes:Nat) (ht:P.underlying t=some (.slice e)) (hi:P.info? e=some i) (hz:i.zero=some z)
 (hsize:i.size=size) (hby:i.bytes=bytes) (hzs:z.cells.size=size) (hsz:0<size)
 (v:Value) (n:Nat) (xs:List Value) (hs:a.eval s=v) (hown:w.ownsRow base e size v n xs)
 (ad:Addr) (m c:Nat) (news:List Value) (hx:a.eval x=.slice (some ad) m c) (hl:news.length=m*size) (hnews:∀j u,news[j]? = some u->w.cell? (ad.add j)=some u) (h1:∀u∈news,u.oneCell'=true)
 (h63:n+m<=maxLen) (hbytes:(n+m)*bytes<=140737488355328) (hbase:base<=w.heap.size)
 (h:∀v' w',w'.ownsRow base e size v' (n+m) (xs++news)->w.grownBy w' v.ownBlock->(v'=.slice none 0 0↔v=.slice none 0 0/\m=0)->(v'.ownBlock=v.ownBlock∨v'.ownBlock=some w.heap.size)->K (a.put o.dst v') w') :
 o.wp P a w K Q:=by
 obtain ⟨v',w',hr,h2,h3,h4,h5⟩:=run_append_own_at (P:=P) w base t o.type e i z size bytes ht hi hz hsize hby hzs hsz v n xs hown ad m c news hl hnews h1 h63 hbytes hbase;unfold Oper.wp execOp;simp only [ho,resolve,invoke,builtin,Sem.run_bind,Sem.run_pure,Result.andThen_ok,List.map_toArray,List.map_cons,List.map_nil,hs,hx,hr];exact h v' w' h2 h3 h4 h5
theorem Qzw {W:World} {base:Nat} {v:Value} {zs:List Int} (h:Own W base v zs):∃ra rc,v=.slice ra zs.length rc/\zs.length<=rc:=by
 rcases h.2 with ⟨e,hn⟩ | ⟨_,_,_,e,_,_,hn,_⟩
 ·exact ⟨none,0,by rw [e,hn],by omega⟩
 ·exact ⟨_,_,e,hn⟩
def Qef (i:Nat):Nat:=[20,21,22,23,24,25,26,27,28,29,8].getD i 0
theorem Qty:∀i,i<11->Qef i<37:=by decide
theorem Qjf:∀i,i<11->∀j,j<11->Qef i=Qef j->i=j:=by decide
theorem Qq7:∀i,i<11->Qef i≠1:=by decide
theorem Qgc:∀i,i<11->Qef i≠3:=by decide
theorem Qq8:∀i,i<11->Qef i≠5:=by decide
def qN3 (N T E:Int) (a3:Option Addr) (l3 c3 pb:Nat) (cb:Nat) (xa:Option Addr) (xl xc:Nat) (sa:Option Addr) (sl sc:Nat) (PA:World->Value->Prop) (PB:World->Value->Prop) (PC:World->Value->Prop) (i:Nat) (W:World) (x:Value):Prop:=
 match i with
 | 0=>x=.agg #[.int .i64 N,.int .i64 T,.int .i64 E,.slice a3 l3 c3]
 | 1=>x=.agg #[.int .i64 N,.slice a3 l3 c3]
 | 2=>x=.agg #[.int .i64 N,.int .i64 T,.int .i64 E,.slice a3 l3 c3]
 | 3=>x=.slice sa sl sc
 | 4=>x=.agg #[.slice xa xl xc]
 | 5=>PA W x
 | 6=>x=.pointer (some ⟨pb,1,none⟩)
 | 7=>x=.int .i64 T
 | 8=>PB W x
 | 9=>PC W x
 | 10=>PC W x
 | _=>True
theorem Qzx (N T E:Int) (a3:Option Addr) (l3 c3 pb:Nat) (cb:Nat) (xa:Option Addr) (xl xc:Nat) (sa:Option Addr) (sl sc:Nat) (PA:World->Value->Prop) (PB:World->Value->Prop) (PC:World->Value->Prop) (hM_PA:∀W W' v,PA W v->Old W W'->PA W' v) (hM_PB:∀W W' v,PB W v->Old W W'->PB W' v) (hM_PC:∀W W' v,PC W v->Old W W'->PC W' v) (i:Nat) (W W':World) (x:Value) (h:qN3 N T E a3 l3 c3 pb cb xa xl xc sa sl sc PA PB PC i W x) (qo:Old W W'):qN3 N T E a3 l3 c3 pb cb xa xl xc sa sl sc PA PB PC i W' x:=by
 unfold qN3 at h ⊢;split at h
 case h_6=>exact hM_PA _ _ _ h qo
 case h_9=>exact hM_PB _ _ _ h qo
 case h_10=>exact hM_PC _ _ _ h qo
 case h_11=>exact hM_PC _ _ _ h qo
 all_goals first | exact h | trivial
theorem Q1q (w0:World) (N T E:Int) (a3:Option Addr) (l3 c3 pb:Nat) (cb:Nat) (xa:Option Addr) (xl xc:Nat) (sa:Option Addr) (sl sc:Nat) (PA:World->Value->Prop) (PB:World->Value->Prop) (PC:World->Value->Prop) (hM_PA:∀W W' v,PA W v->Old W W'->PA W' v) (hM_PB:∀W W' v,PB W v->Old W W'->PB W' v) (hM_PC:∀W W' v,PC W v->Old W W'->PC W' v) (b_cb:w0.heap[cb]? = some (.cells #[.slice xa xl xc] 37 (0,0))) (b_pb:w0.heap[pb]? = some (.cells #[.int .i64 N,.int .i64 T,.int .i64 E,.slice a3 l3 c3] 34 (0,0)))
 (KS:∀W,Old w0 W->Calls Tryz.prog 45 #[.agg #[.int .i64 N,.int .i64 T,.int .i64 E,.slice a3 l3 c3]] W fun e w'=>e=.returned (.agg #[.int .i64 N,.slice a3 l3 c3])/\Old W w')
 (KA:∀W,Old w0 W->Calls Tryz.prog 46 #[.agg #[.int .i64 N,.int .i64 T,.int .i64 E,.slice a3 l3 c3],.slice sa sl sc,.agg #[.slice xa xl xc]] W fun e w'=>∃v,e=.returned v/\Old W w'/\PA w' v)
 (KB:∀W,Old w0 W->Calls Tryz.prog 47 #[.int .i64 T] W fun e w'=>∃v,e=.returned v/\Old W w'/\PB w' v)
 (KC:∀W,Old w0 W->∀(u5:Value) (u8:Value),PA W u5->PB W u8->Calls Tryz.prog 44 #[.agg #[.int .i64 N,.slice a3 l3 c3],u5,u8] W fun e w'=>∃v,e=.returned v/\Old W w'/\PC w' v)
 (Q:Exit->Act->World->Prop) (b0:Act) (hsz:b0.tmps.size=37) (ha1:b0.eval (.tmp 1)=.slice sa sl sc) (ha3:b0.eval (.tmp 3)=.pointer (some ⟨pb,0,none⟩)) (ha5:b0.eval (.tmp 5)=.pointer (some ⟨cb,0,none⟩))
 (HK:Hid (∀(us:Nat->Value) (W:World),Old w0 W->PC W (us 10)->Q .normal (Qaj b0 ((List.range 11).map fun i=>(Qef i,us i))) W)) :
 Code.wp Tryz.prog ((Tryz.f10.body.bind (Qa0 3)).getD .skip) Q b0 w0:=by
 conv=>arg 2;whnf
 have px_cb:∀W,Old w0 W->W.heap[cb]? = some (.cells #[.slice xa xl xc] 37 (0,0)):=fun W g=>(g.block cb (lt_of_some b_cb)).trans b_cb
 have px_pb:∀W,Old w0 W->W.heap[pb]? = some (.cells #[.int .i64 N,.int .i64 T,.int .i64 E,.slice a3 l3 c3] 34 (0,0)):=fun W g=>(g.block pb (lt_of_some b_pb)).trans b_pb
 have pc_pb_1:∀W,Old w0 W->W.cell? ⟨pb,1,none⟩=some (.int .i64 T):=fun W g=>cell_of_row W pb 1 _ _ (0,0) (px_pb W g)
 refine Qcf (by kernel_rfl) (by kernel_rfl) (by kernel_rfl) Qef (fun i hi=>by rw [hsz];exact Qty i hi) (fun i j hi hj=>Qjf i hi j hj) (qN3 N T E a3 l3 c3 pb cb xa xl xc sa sl sc PA PB PC) (Qzx N T E a3 l3 c3 pb cb xa xl xc sa sl sc PA PB PC hM_PA hM_PB hM_PC) ?_ ?_
 ·refine ⟨?_,?_,?_,?_,?_,?_,?_,?_,?_,?_,?_,trivial⟩
  ·intro a W g hF hd;have e3:=(hF.same 3 Qgc).trans ha3;refine Qbx (k:=pb) e3 (px_pb W g) Tryz.underlying34 rfl (by kernel_rfl) ?_
   exact ⟨_,rfl,Old.refl _,rfl⟩
  ·intro a W g hF hd;have h0:a.eval (.tmp 20)=.agg #[.int .i64 N,.int .i64 T,.int .i64 E,.slice a3 l3 c3]:=hd ⟨0,.data⟩ (by simp) rfl;refine Qag (R:=fun v w'=>v=.agg #[.int .i64 N,.slice a3 l3 c3]∧Old W w') Tryz.call45 (vs:=#[.agg #[.int .i64 N,.int .i64 T,.int .i64 E,.slice a3 l3 c3]]) (by simp [h0]) ((KS W g).mono fun e w' h=>⟨_,h.1,rfl,h.2⟩) ?_
   rintro x w' ⟨rfl,g'⟩;exact ⟨_,rfl,g',rfl⟩
  ·intro a W g hF hd;have e3:=(hF.same 3 Qgc).trans ha3;refine Qbx (k:=pb) e3 (px_pb W g) Tryz.underlying34 rfl (by kernel_rfl) ?_
   exact ⟨_,rfl,Old.refl _,rfl⟩
  ·intro a W g hF hd;have e1:=(hF.same 1 Qq7).trans ha1;refine Qca ?_
   exact ⟨_,rfl,Old.refl _,e1⟩
  ·intro a W g hF hd;have e5:=(hF.same 5 Qq8).trans ha5;refine Qbx (k:=cb) e5 (px_cb W g) Tryz.underlying37 rfl (by kernel_rfl) ?_
   exact ⟨_,rfl,Old.refl _,rfl⟩
  ·intro a W g hF hd;have h2:a.eval (.tmp 22)=.agg #[.int .i64 N,.int .i64 T,.int .i64 E,.slice a3 l3 c3]:=hd ⟨2,.data⟩ (by simp) rfl;have h3:a.eval (.tmp 23)=.slice sa sl sc:=hd ⟨3,.data⟩ (by simp) rfl;have h4:a.eval (.tmp 24)=.agg #[.slice xa xl xc]:=hd ⟨4,.data⟩ (by simp) rfl;refine Qag (R:=fun v w'=>Old W w'∧PA w' v) Tryz.call46 (vs:=#[.agg #[.int .i64 N,.int .i64 T,.int .i64 E,.slice a3 l3 c3],.slice sa sl sc,.agg #[.slice xa xl xc]]) (by simp [h2,h3,h4]) (KA W g) ?_
   rintro x w' ⟨g',hp⟩;exact ⟨_,rfl,g',hp⟩
  ·intro a W g hF hd;have e3:=(hF.same 3 Qgc).trans ha3;obtain ⟨ρ,hρ⟩:∃ρ,a.eval=ρ:=⟨_,rfl⟩
   rw [hρ] at e3;refine Qaf ρ hρ (.pointer (some ⟨pb,1,none⟩)) ?_ ⟨_,rfl,Old.refl _,rfl⟩
   clear g hF hd hρ HK KS KA KB KC ha1 ha3 ha5 px_cb b_cb px_pb b_pb pc_pb_1
   go_simp
   all_goals (first | (rw [IntKind.wrap_i64];omega) | (rw [IntKind.wrap_u64];omega) | omega)
  ·intro a W g hF hd;have h6:a.eval (.tmp 26)=.pointer (some ⟨pb,1,none⟩):=hd ⟨6,.data⟩ (by simp) rfl;have kk0:=pc_pb_1 W g;obtain ⟨ρ,hρ⟩:∃ρ,a.eval=ρ:=⟨_,rfl⟩
   rw [hρ] at h6;refine Qaf ρ hρ (.int .i64 T) ?_ ⟨_,rfl,Old.refl _,rfl⟩
   clear g hF hd hρ HK KS KA KB KC ha1 ha3 ha5 px_cb b_cb px_pb b_pb pc_pb_1
   go_simp
   all_goals (first | (rw [IntKind.wrap_i64];omega) | (rw [IntKind.wrap_u64];omega) | omega)
  ·intro a W g hF hd;have h7:a.eval (.tmp 27)=.int .i64 T:=hd ⟨7,.data⟩ (by simp) rfl;refine Qag (R:=fun v w'=>Old W w'∧PB w' v) Tryz.call47 (vs:=#[.int .i64 T]) (by simp [h7]) (KB W g) ?_
   rintro x w' ⟨g',hp⟩;exact ⟨_,rfl,g',hp⟩
  ·intro a W g hF hd;have h1:a.eval (.tmp 21)=.agg #[.int .i64 N,.slice a3 l3 c3]:=hd ⟨1,.data⟩ (by simp) rfl;have p5:PA W (a.eval (.tmp 25)):=hd ⟨5,.data⟩ (by simp) rfl;have p8:PB W (a.eval (.tmp 28)):=hd ⟨8,.data⟩ (by simp) rfl;refine Qag (R:=fun v w'=>Old W w'∧PC w' v) Tryz.call44 (vs:=#[.agg #[.int .i64 N,.slice a3 l3 c3],a.eval (.tmp 25),a.eval (.tmp 28)]) (by simp [h1]) (KC W g _ _ p5 p8) ?_
   rintro x w' ⟨g',hp⟩;exact ⟨_,rfl,g',hp⟩
  ·intro a W g hF hd;refine Qb6 ?_
   exact ⟨_,rfl,Old.refl _,hd ⟨9,.data⟩ (by simp) rfl⟩
 ·intro a W g hF hq;have hput:=Qc0 (show Fram 11 Qef b0 a from hF) (fun i j hi hj=>Qjf i hi j hj);have hk:=HK.out (fun i=>a.eval (.tmp (Qef i))) W g (hq 10 (by decide));rw [<- hput] at hk;exact hk
def Qeg (i:Nat):Nat:=[15,16,17,18,19,20,21,22,23,24,25,26,27,9].getD i 0
theorem Qtz:∀i,i<14->Qeg i<46:=by decide
theorem Qjg:∀i,i<14->∀j,j<14->Qeg i=Qeg j->i=j:=by decide
theorem Qjh:∀i,i<14->Qeg i≠5:=by decide
theorem Qji:∀i,i<14->Qeg i≠7:=by decide
theorem Qq9:∀i,i<14->Qeg i≠8:=by decide
def qU3 (N:Int) (a3:Option Addr) (l3 c3 sb cb pb m mc:Nat) (ka:Option Addr) (kl kc:Nat) (u0:Option Addr) (n0 e0:Nat) (u1:Option Addr) (n1 e1:Nat) (PA:World->Value->Prop) (PB:World->Value->Prop) (i:Nat) (W:World) (x:Value):Prop:=
 match i with
 | 0=>x=.agg #[.int .i64 N,.slice a3 l3 c3]
 | 1=>x=.pointer (some ⟨cb,0,none⟩)
 | 2=>x=.slice (some ⟨pb,0,none⟩) m mc
 | 3=>x=.pointer (some ⟨pb,0,none⟩)
 | 4=>x=.slice u0 n0 e0
 | 5=>x=.agg #[.int .i64 N,.slice a3 l3 c3]
 | 6=>x=.pointer (some ⟨cb,0,none⟩)
 | 7=>x=.slice (some ⟨pb,0,none⟩) m mc
 | 8=>x=.pointer (some ⟨pb,1,none⟩)
 | 9=>x=.slice u1 n1 e1
 | 10=>x=.slice ka kl kc
 | 11=>PA W x
 | 12=>PB W x
 | 13=>PB W x
 | _=>True
theorem Qzy (N:Int) (a3:Option Addr) (l3 c3 sb cb pb m mc:Nat) (ka:Option Addr) (kl kc:Nat) (u0:Option Addr) (n0 e0:Nat) (u1:Option Addr) (n1 e1:Nat) (PA:World->Value->Prop) (PB:World->Value->Prop) (hM_PA:∀W W' v,PA W v->Old W W'->PA W' v) (hM_PB:∀W W' v,PB W v->Old W W'->PB W' v) (i:Nat) (W W':World) (x:Value) (h:qU3 N a3 l3 c3 sb cb pb m mc ka kl kc u0 n0 e0 u1 n1 e1 PA PB i W x) (qo:Old W W'):qU3 N a3 l3 c3 sb cb pb m mc ka kl kc u0 n0 e0 u1 n1 e1 PA PB i W' x:=by
 unfold qU3 at h ⊢;split at h
 case h_12=>exact hM_PA _ _ _ h qo
 case h_13=>exact hM_PB _ _ _ h qo
 case h_14=>exact hM_PB _ _ _ h qo
 all_goals first | exact h | trivial
theorem Q1r (w0:World) (N:Int) (a3:Option Addr) (l3 c3 sb cb pb m mc:Nat) (ka:Option Addr) (kl kc:Nat) (u0:Option Addr) (n0 e0:Nat) (u1:Option Addr) (n1 e1:Nat) (PA:World->Value->Prop) (PB:World->Value->Prop) (hM_PA:∀W W' v,PA W v->Old W W'->PA W' v) (hM_PB:∀W W' v,PB W v->Old W W'->PB W' v) (b_cb:w0.heap[cb]? = some (.cells #[.slice (some ⟨pb,0,none⟩) m mc] 37 (0,0))) (b_sb:w0.heap[sb]? = some (.cells #[.int .i64 N,.slice a3 l3 c3] 80 (0,0)))
 (hm0:(0:Int)<(m:Int)) (hm1:(1:Int)<(m:Int)) (hc0:∀W,Old w0 W->W.cell? ⟨pb,0,none⟩=some (.slice u0 n0 e0)) (hc1:∀W,Old w0 W->W.cell? ⟨pb,1,none⟩=some (.slice u1 n1 e1))
 (KA:∀W,Old w0 W->Calls Tryz.prog 86 #[.agg #[.int .i64 N,.slice a3 l3 c3],.slice u1 n1 e1,.slice ka kl kc] W fun e w'=>∃v,e=.returned v/\Old W w'/\PA w' v)
 (KB:∀W,Old w0 W->∀(u11:Value),PA W u11->Calls Tryz.prog 85 #[.agg #[.int .i64 N,.slice a3 l3 c3],.slice u0 n0 e0,u11] W fun e w'=>∃v,e=.returned v/\Old W w'/\PB w' v)
 (Q:Exit->Act->World->Prop) (b0:Act) (hsz:b0.tmps.size=46) (ha5:b0.eval (.tmp 5)=.pointer (some ⟨cb,0,none⟩)) (ha7:b0.eval (.tmp 7)=.pointer (some ⟨sb,0,none⟩)) (ha8:b0.eval (.tmp 8)=.slice ka kl kc)
 (HK:Hid (∀(us:Nat->Value) (W:World),Old w0 W->PB W (us 13)->Q .normal (Qaj b0 ((List.range 14).map fun i=>(Qeg i,us i))) W)) :
 Code.wp Tryz.prog ((Tryz.f46.body.bind (Qa0 3)).getD .skip) Q b0 w0:=by
 conv=>arg 2;whnf
 have px_cb:∀W,Old w0 W->W.heap[cb]? = some (.cells #[.slice (some ⟨pb,0,none⟩) m mc] 37 (0,0)):=fun W g=>(g.block cb (lt_of_some b_cb)).trans b_cb
 have px_sb:∀W,Old w0 W->W.heap[sb]? = some (.cells #[.int .i64 N,.slice a3 l3 c3] 80 (0,0)):=fun W g=>(g.block sb (lt_of_some b_sb)).trans b_sb
 have pc_cb_0:∀W,Old w0 W->W.cell? ⟨cb,0,none⟩=some (.slice (some ⟨pb,0,none⟩) m mc):=fun W g=>cell_of_row W cb 0 _ _ (0,0) (px_cb W g)
 refine Qcf (by kernel_rfl) (by kernel_rfl) (by kernel_rfl) Qeg (fun i hi=>by rw [hsz];exact Qtz i hi) (fun i j hi hj=>Qjg i hi j hj) (qU3 N a3 l3 c3 sb cb pb m mc ka kl kc u0 n0 e0 u1 n1 e1 PA PB) (Qzy N a3 l3 c3 sb cb pb m mc ka kl kc u0 n0 e0 u1 n1 e1 PA PB hM_PA hM_PB) ?_ ?_
 ·refine ⟨?_,?_,?_,?_,?_,?_,?_,?_,?_,?_,?_,?_,?_,?_,trivial⟩
  ·intro a W g hF hd;have e7:=(hF.same 7 Qji).trans ha7;refine Qbx (k:=sb) e7 (px_sb W g) Tryz.underlying80 rfl (by kernel_rfl) ?_
   exact ⟨_,rfl,Old.refl _,rfl⟩
  ·intro a W g hF hd;have e5:=(hF.same 5 Qjh).trans ha5;obtain ⟨ρ,hρ⟩:∃ρ,a.eval=ρ:=⟨_,rfl⟩
   rw [hρ] at e5;refine Qaf ρ hρ (.pointer (some ⟨cb,0,none⟩)) ?_ ⟨_,rfl,Old.refl _,rfl⟩
   clear g hF hd hρ HK KA KB ha5 ha7 ha8 px_cb b_cb px_sb b_sb pc_cb_0 hc0 hc1
   go_simp
   all_goals (first | (rw [IntKind.wrap_i64];omega) | (rw [IntKind.wrap_u64];omega) | omega)
  ·intro a W g hF hd;have h1:a.eval (.tmp 16)=.pointer (some ⟨cb,0,none⟩):=hd ⟨1,.data⟩ (by simp) rfl;have kk0:=pc_cb_0 W g;obtain ⟨ρ,hρ⟩:∃ρ,a.eval=ρ:=⟨_,rfl⟩
   rw [hρ] at h1;refine Qaf ρ hρ (.slice (some ⟨pb,0,none⟩) m mc) ?_ ⟨_,rfl,Old.refl _,rfl⟩
   clear g hF hd hρ HK KA KB ha5 ha7 ha8 px_cb b_cb px_sb b_sb pc_cb_0 hc0 hc1
   go_simp
   all_goals (first | (rw [IntKind.wrap_i64];omega) | (rw [IntKind.wrap_u64];omega) | omega)
  ·intro a W g hF hd;have h2:a.eval (.tmp 17)=.slice (some ⟨pb,0,none⟩) m mc:=hd ⟨2,.data⟩ (by simp) rfl;have c1:a.eval (.const (.int .i64 0))=.int .i64 0:=rfl;obtain ⟨ρ,hρ⟩:∃ρ,a.eval=ρ:=⟨_,rfl⟩
   rw [hρ] at h2 c1;refine Qaf ρ hρ (.pointer (some ⟨pb,0,none⟩)) ?_ ⟨_,rfl,Old.refl _,rfl⟩
   clear g hF hd hρ HK KA KB ha5 ha7 ha8 px_cb b_cb px_sb b_sb pc_cb_0 hc0 hc1
   go_simp
   all_goals (first | (rw [IntKind.wrap_i64];omega) | (rw [IntKind.wrap_u64];omega) | omega)
  ·intro a W g hF hd;have h3:a.eval (.tmp 18)=.pointer (some ⟨pb,0,none⟩):=hd ⟨3,.data⟩ (by simp) rfl;have kk:=hc0 W g;obtain ⟨ρ,hρ⟩:∃ρ,a.eval=ρ:=⟨_,rfl⟩
   rw [hρ] at h3;refine Qaf ρ hρ (.slice u0 n0 e0) ?_ ⟨_,rfl,Old.refl _,rfl⟩
   clear g hF hd hρ HK KA KB ha5 ha7 ha8 px_cb b_cb px_sb b_sb pc_cb_0 hc0 hc1
   go_simp
   all_goals (first | (rw [IntKind.wrap_i64];omega) | (rw [IntKind.wrap_u64];omega) | omega)
  ·intro a W g hF hd;have e7:=(hF.same 7 Qji).trans ha7;refine Qbx (k:=sb) e7 (px_sb W g) Tryz.underlying80 rfl (by kernel_rfl) ?_
   exact ⟨_,rfl,Old.refl _,rfl⟩
  ·intro a W g hF hd;have e5:=(hF.same 5 Qjh).trans ha5;obtain ⟨ρ,hρ⟩:∃ρ,a.eval=ρ:=⟨_,rfl⟩
   rw [hρ] at e5;refine Qaf ρ hρ (.pointer (some ⟨cb,0,none⟩)) ?_ ⟨_,rfl,Old.refl _,rfl⟩
   clear g hF hd hρ HK KA KB ha5 ha7 ha8 px_cb b_cb px_sb b_sb pc_cb_0 hc0 hc1
   go_simp
   all_goals (first | (rw [IntKind.wrap_i64];omega) | (rw [IntKind.wrap_u64];omega) | omega)
  ·intro a W g hF hd;have h6:a.eval (.tmp 21)=.pointer (some ⟨cb,0,none⟩):=hd ⟨6,.data⟩ (by simp) rfl;have kk0:=pc_cb_0 W g;obtain ⟨ρ,hρ⟩:∃ρ,a.eval=ρ:=⟨_,rfl⟩
   rw [hρ] at h6;refine Qaf ρ hρ (.slice (some ⟨pb,0,none⟩) m mc) ?_ ⟨_,rfl,Old.refl _,rfl⟩
   clear g hF hd hρ HK KA KB ha5 ha7 ha8 px_cb b_cb px_sb b_sb pc_cb_0 hc0 hc1
   go_simp
   all_goals (first | (rw [IntKind.wrap_i64];omega) | (rw [IntKind.wrap_u64];omega) | omega)
  ·intro a W g hF hd;have h7:a.eval (.tmp 22)=.slice (some ⟨pb,0,none⟩) m mc:=hd ⟨7,.data⟩ (by simp) rfl;have c1:a.eval (.const (.int .i64 1))=.int .i64 1:=rfl;obtain ⟨ρ,hρ⟩:∃ρ,a.eval=ρ:=⟨_,rfl⟩
   rw [hρ] at h7 c1;refine Qaf ρ hρ (.pointer (some ⟨pb,1,none⟩)) ?_ ⟨_,rfl,Old.refl _,rfl⟩
   clear g hF hd hρ HK KA KB ha5 ha7 ha8 px_cb b_cb px_sb b_sb pc_cb_0 hc0 hc1
   go_simp
   all_goals (first | (rw [IntKind.wrap_i64];omega) | (rw [IntKind.wrap_u64];omega) | omega)
  ·intro a W g hF hd;have h8:a.eval (.tmp 23)=.pointer (some ⟨pb,1,none⟩):=hd ⟨8,.data⟩ (by simp) rfl;have kk:=hc1 W g;obtain ⟨ρ,hρ⟩:∃ρ,a.eval=ρ:=⟨_,rfl⟩
   rw [hρ] at h8;refine Qaf ρ hρ (.slice u1 n1 e1) ?_ ⟨_,rfl,Old.refl _,rfl⟩
   clear g hF hd hρ HK KA KB ha5 ha7 ha8 px_cb b_cb px_sb b_sb pc_cb_0 hc0 hc1
   go_simp
   all_goals (first | (rw [IntKind.wrap_i64];omega) | (rw [IntKind.wrap_u64];omega) | omega)
  ·intro a W g hF hd;have e8:=(hF.same 8 Qq9).trans ha8;refine Qca ?_
   exact ⟨_,rfl,Old.refl _,e8⟩
  ·intro a W g hF hd;have h5:a.eval (.tmp 20)=.agg #[.int .i64 N,.slice a3 l3 c3]:=hd ⟨5,.data⟩ (by simp) rfl;have h9:a.eval (.tmp 24)=.slice u1 n1 e1:=hd ⟨9,.data⟩ (by simp) rfl;have h10:a.eval (.tmp 25)=.slice ka kl kc:=hd ⟨10,.data⟩ (by simp) rfl;refine Qag (R:=fun v w'=>Old W w'∧PA w' v) Tryz.call86 (vs:=#[.agg #[.int .i64 N,.slice a3 l3 c3],.slice u1 n1 e1,.slice ka kl kc]) (by simp [h5,h9,h10]) (KA W g) ?_
   rintro x w' ⟨g',hp⟩;exact ⟨_,rfl,g',hp⟩
  ·intro a W g hF hd;have h0:a.eval (.tmp 15)=.agg #[.int .i64 N,.slice a3 l3 c3]:=hd ⟨0,.data⟩ (by simp) rfl;have h4:a.eval (.tmp 19)=.slice u0 n0 e0:=hd ⟨4,.data⟩ (by simp) rfl;have p11:PA W (a.eval (.tmp 26)):=hd ⟨11,.data⟩ (by simp) rfl;refine Qag (R:=fun v w'=>Old W w'∧PB w' v) Tryz.call85 (vs:=#[.agg #[.int .i64 N,.slice a3 l3 c3],.slice u0 n0 e0,a.eval (.tmp 26)]) (by simp [h0,h4]) (KB W g _ p11) ?_
   rintro x w' ⟨g',hp⟩;exact ⟨_,rfl,g',hp⟩
  ·intro a W g hF hd;refine Qb6 ?_
   exact ⟨_,rfl,Old.refl _,hd ⟨12,.data⟩ (by simp) rfl⟩
 ·intro a W g hF hq;have hput:=Qc0 (show Fram 14 Qeg b0 a from hF) (fun i j hi hj=>Qjg i hi j hj);have hk:=HK.out (fun i=>a.eval (.tmp (Qeg i))) W g (hq 13 (by decide));rw [<- hput] at hk;exact hk
def Qd3 (i:Nat):Nat:=[32,33,34,35,36,37,38,39,40,41,42,43,44].getD i 0
theorem Qt0:∀i,i<13->Qd3 i<46:=by decide
theorem Qjj:∀i,i<13->∀j,j<13->Qd3 i=Qd3 j->i=j:=by decide
theorem Qra:∀i,i<13->Qd3 i≠5:=by decide
theorem Qgd:∀i,i<13->Qd3 i≠7:=by decide
theorem Qjk:∀i,i<13->Qd3 i≠8:=by decide
theorem Qrb:∀i,i<13->Qd3 i≠9:=by decide
def qU5 (N:Int) (a3:Option Addr) (l3 c3 sb cb pb m mc:Nat) (ka:Option Addr) (kl kc:Nat) (oa:Option Addr) (ol oc:Nat) (u2:Option Addr) (n2 e2:Nat) (PA:World->Value->Prop) (PB:World->Value->Prop) (PC:World->Value->Prop) (i:Nat) (W:World) (x:Value):Prop:=
 match i with
 | 0=>x=.agg #[.int .i64 N,.slice a3 l3 c3]
 | 1=>x=.slice oa ol oc
 | 2=>x=.agg #[.int .i64 N,.slice a3 l3 c3]
 | 3=>x=.agg #[.int .i64 N,.slice a3 l3 c3]
 | 4=>x=.pointer (some ⟨cb,0,none⟩)
 | 5=>x=.slice (some ⟨pb,0,none⟩) m mc
 | 6=>x=.pointer (some ⟨pb,2,none⟩)
 | 7=>x=.slice u2 n2 e2
 | 8=>x=.slice ka kl kc
 | 9=>PA W x
 | 10=>x=.slice ka kl kc
 | 11=>PB W x
 | 12=>PC W x
 | _=>True
theorem Qzz (N:Int) (a3:Option Addr) (l3 c3 sb cb pb m mc:Nat) (ka:Option Addr) (kl kc:Nat) (oa:Option Addr) (ol oc:Nat) (u2:Option Addr) (n2 e2:Nat) (PA:World->Value->Prop) (PB:World->Value->Prop) (PC:World->Value->Prop) (hM_PA:∀W W' v,PA W v->Old W W'->PA W' v) (hM_PB:∀W W' v,PB W v->Old W W'->PB W' v) (hM_PC:∀W W' v,PC W v->Old W W'->PC W' v) (i:Nat) (W W':World) (x:Value) (h:qU5 N a3 l3 c3 sb cb pb m mc ka kl kc oa ol oc u2 n2 e2 PA PB PC i W x) (qo:Old W W'):qU5 N a3 l3 c3 sb cb pb m mc ka kl kc oa ol oc u2 n2 e2 PA PB PC i W' x:=by
 unfold qU5 at h ⊢;split at h
 case h_10=>exact hM_PA _ _ _ h qo
 case h_12=>exact hM_PB _ _ _ h qo
 case h_13=>exact hM_PC _ _ _ h qo
 all_goals first | exact h | trivial
theorem Q1s (w0:World) (N:Int) (a3:Option Addr) (l3 c3 sb cb pb m mc:Nat) (ka:Option Addr) (kl kc:Nat) (oa:Option Addr) (ol oc:Nat) (u2:Option Addr) (n2 e2:Nat) (PA:World->Value->Prop) (PB:World->Value->Prop) (PC:World->Value->Prop) (hM_PA:∀W W' v,PA W v->Old W W'->PA W' v) (hM_PB:∀W W' v,PB W v->Old W W'->PB W' v) (hM_PC:∀W W' v,PC W v->Old W W'->PC W' v) (b_cb:w0.heap[cb]? = some (.cells #[.slice (some ⟨pb,0,none⟩) m mc] 37 (0,0))) (b_sb:w0.heap[sb]? = some (.cells #[.int .i64 N,.slice a3 l3 c3] 80 (0,0)))
 (hm2:(2:Int)<(m:Int)) (hc2:∀W,Old w0 W->W.cell? ⟨pb,2,none⟩=some (.slice u2 n2 e2))
 (KA:∀W,Old w0 W->Calls Tryz.prog 86 #[.agg #[.int .i64 N,.slice a3 l3 c3],.slice u2 n2 e2,.slice ka kl kc] W fun e w'=>∃v,e=.returned v/\Old W w'/\PA w' v)
 (KB:∀W,Old w0 W->∀(u9:Value),PA W u9->Calls Tryz.prog 86 #[.agg #[.int .i64 N,.slice a3 l3 c3],u9,.slice ka kl kc] W fun e w'=>∃v,e=.returned v/\Old W w'/\PB w' v)
 (KC:∀W,Old w0 W->∀(u11:Value),PB W u11->Calls Tryz.prog 85 #[.agg #[.int .i64 N,.slice a3 l3 c3],.slice oa ol oc,u11] W fun e w'=>∃v,e=.returned v/\Old W w'/\PC w' v)
 (Q:Exit->Act->World->Prop) (b0:Act) (hsz:b0.tmps.size=46) (ha5:b0.eval (.tmp 5)=.pointer (some ⟨cb,0,none⟩)) (ha7:b0.eval (.tmp 7)=.pointer (some ⟨sb,0,none⟩)) (ha8:b0.eval (.tmp 8)=.slice ka kl kc) (ha9:b0.eval (.tmp 9)=.slice oa ol oc)
 (HK:Hid (∀(us:Nat->Value) (W:World),Old w0 W->PC W (us 12)->Q .normal ((Qaj b0 ((List.range 13).map fun i=>(Qd3 i,us i))).put (some 9) (us 12)) W)) :
 Code.wp Tryz.prog ((Tryz.f46.body.bind (Qa0 5)).getD .skip) Q b0 w0:=by
 conv=>arg 2;whnf
 have px_cb:∀W,Old w0 W->W.heap[cb]? = some (.cells #[.slice (some ⟨pb,0,none⟩) m mc] 37 (0,0)):=fun W g=>(g.block cb (lt_of_some b_cb)).trans b_cb
 have px_sb:∀W,Old w0 W->W.heap[sb]? = some (.cells #[.int .i64 N,.slice a3 l3 c3] 80 (0,0)):=fun W g=>(g.block sb (lt_of_some b_sb)).trans b_sb
 have pc_cb_0:∀W,Old w0 W->W.cell? ⟨cb,0,none⟩=some (.slice (some ⟨pb,0,none⟩) m mc):=fun W g=>cell_of_row W cb 0 _ _ (0,0) (px_cb W g)
 refine Qhc 13 (by decide) (by kernel_rfl) (by kernel_rfl) (by kernel_rfl) (by kernel_rfl) (by kernel_rfl) Qd3 (fun i hi=>by rw [hsz];exact Qt0 i hi) (fun i j hi hj=>Qjj i hi j hj) (qU5 N a3 l3 c3 sb cb pb m mc ka kl kc oa ol oc u2 n2 e2 PA PB PC) (Qzz N a3 l3 c3 sb cb pb m mc ka kl kc oa ol oc u2 n2 e2 PA PB PC hM_PA hM_PB hM_PC) [] (fun i W v hi hq=>by cases hi) ?_ ?_
 ·refine ⟨?_,?_,?_,?_,?_,?_,?_,?_,?_,?_,?_,?_,?_,trivial⟩
  ·intro a W g hF hd;refine ⟨fun _=>?_,fun h=>by rw [Qa5 rfl] at h;cases h⟩;have e7:=(hF.same 7 Qgd).trans ha7;refine Qbx (k:=sb) e7 (px_sb W g) Tryz.underlying80 rfl (by kernel_rfl) ?_
   exact ⟨_,rfl,Old.refl _,rfl,(fun h=>absurd h (by decide))⟩
  ·intro a W g hF hd;refine ⟨fun _=>?_,fun h=>by rw [Qa5 rfl] at h;cases h⟩;have e9:=(hF.same 9 Qrb).trans ha9;refine Qca ?_
   exact ⟨_,rfl,Old.refl _,e9,(fun h=>absurd h (by decide))⟩
  ·intro a W g hF hd;refine ⟨fun _=>?_,fun h=>by rw [Qa5 rfl] at h;cases h⟩;have e7:=(hF.same 7 Qgd).trans ha7;refine Qbx (k:=sb) e7 (px_sb W g) Tryz.underlying80 rfl (by kernel_rfl) ?_
   exact ⟨_,rfl,Old.refl _,rfl,(fun h=>absurd h (by decide))⟩
  ·intro a W g hF hd;refine ⟨fun _=>?_,fun h=>by rw [Qa5 rfl] at h;cases h⟩;have e7:=(hF.same 7 Qgd).trans ha7;refine Qbx (k:=sb) e7 (px_sb W g) Tryz.underlying80 rfl (by kernel_rfl) ?_
   exact ⟨_,rfl,Old.refl _,rfl,(fun h=>absurd h (by decide))⟩
  ·intro a W g hF hd;refine ⟨fun _=>?_,fun h=>by rw [Qa5 rfl] at h;cases h⟩;have e5:=(hF.same 5 Qra).trans ha5;obtain ⟨ρ,hρ⟩:∃ρ,a.eval=ρ:=⟨_,rfl⟩
   rw [hρ] at e5;refine Qaf ρ hρ (.pointer (some ⟨cb,0,none⟩)) ?_ ⟨_,rfl,Old.refl _,rfl,(fun h=>absurd h (by decide))⟩
   clear g hF hd hρ HK KA KB KC ha5 ha7 ha8 ha9 px_cb b_cb px_sb b_sb pc_cb_0 hc2
   go_simp
   all_goals (first | (rw [IntKind.wrap_i64];omega) | (rw [IntKind.wrap_u64];omega) | omega)
  ·intro a W g hF hd;refine ⟨fun _=>?_,fun h=>by rw [Qa5 rfl] at h;cases h⟩;have h4:a.eval (.tmp 36)=.pointer (some ⟨cb,0,none⟩):=hd ⟨4,.data⟩ (by simp) rfl;have kk0:=pc_cb_0 W g;obtain ⟨ρ,hρ⟩:∃ρ,a.eval=ρ:=⟨_,rfl⟩
   rw [hρ] at h4;refine Qaf ρ hρ (.slice (some ⟨pb,0,none⟩) m mc) ?_ ⟨_,rfl,Old.refl _,rfl,(fun h=>absurd h (by decide))⟩
   clear g hF hd hρ HK KA KB KC ha5 ha7 ha8 ha9 px_cb b_cb px_sb b_sb pc_cb_0 hc2
   go_simp
   all_goals (first | (rw [IntKind.wrap_i64];omega) | (rw [IntKind.wrap_u64];omega) | omega)
  ·intro a W g hF hd;refine ⟨fun _=>?_,fun h=>by rw [Qa5 rfl] at h;cases h⟩;have h5:a.eval (.tmp 37)=.slice (some ⟨pb,0,none⟩) m mc:=hd ⟨5,.data⟩ (by simp) rfl;have c1:a.eval (.const (.int .i64 2))=.int .i64 2:=rfl;obtain ⟨ρ,hρ⟩:∃ρ,a.eval=ρ:=⟨_,rfl⟩
   rw [hρ] at h5 c1;refine Qaf ρ hρ (.pointer (some ⟨pb,2,none⟩)) ?_ ⟨_,rfl,Old.refl _,rfl,(fun h=>absurd h (by decide))⟩
   clear g hF hd hρ HK KA KB KC ha5 ha7 ha8 ha9 px_cb b_cb px_sb b_sb pc_cb_0 hc2
   go_simp
   all_goals (first | (rw [IntKind.wrap_i64];omega) | (rw [IntKind.wrap_u64];omega) | omega)
  ·intro a W g hF hd;refine ⟨fun _=>?_,fun h=>by rw [Qa5 rfl] at h;cases h⟩;have h6:a.eval (.tmp 38)=.pointer (some ⟨pb,2,none⟩):=hd ⟨6,.data⟩ (by simp) rfl;have kk:=hc2 W g;obtain ⟨ρ,hρ⟩:∃ρ,a.eval=ρ:=⟨_,rfl⟩
   rw [hρ] at h6;refine Qaf ρ hρ (.slice u2 n2 e2) ?_ ⟨_,rfl,Old.refl _,rfl,(fun h=>absurd h (by decide))⟩
   clear g hF hd hρ HK KA KB KC ha5 ha7 ha8 ha9 px_cb b_cb px_sb b_sb pc_cb_0 hc2
   go_simp
   all_goals (first | (rw [IntKind.wrap_i64];omega) | (rw [IntKind.wrap_u64];omega) | omega)
  ·intro a W g hF hd;refine ⟨fun _=>?_,fun h=>by rw [Qa5 rfl] at h;cases h⟩;have e8:=(hF.same 8 Qjk).trans ha8;refine Qca ?_
   exact ⟨_,rfl,Old.refl _,e8,(fun h=>absurd h (by decide))⟩
  ·intro a W g hF hd;refine ⟨fun _=>?_,fun h=>by rw [Qa5 rfl] at h;cases h⟩;have h3:a.eval (.tmp 35)=.agg #[.int .i64 N,.slice a3 l3 c3]:=hd ⟨3,.data⟩ (by simp) rfl;have h7:a.eval (.tmp 39)=.slice u2 n2 e2:=hd ⟨7,.data⟩ (by simp) rfl;have h8:a.eval (.tmp 40)=.slice ka kl kc:=hd ⟨8,.data⟩ (by simp) rfl;refine Qag (R:=fun v w'=>Old W w'∧PA w' v) Tryz.call86 (vs:=#[.agg #[.int .i64 N,.slice a3 l3 c3],.slice u2 n2 e2,.slice ka kl kc]) (by simp [h3,h7,h8]) (KA W g) ?_
   rintro x w' ⟨g',hp⟩;exact ⟨_,rfl,g',hp,(fun h=>absurd h (by decide))⟩
  ·intro a W g hF hd;refine ⟨fun _=>?_,fun h=>by rw [Qa5 rfl] at h;cases h⟩;have e8:=(hF.same 8 Qjk).trans ha8;refine Qca ?_
   exact ⟨_,rfl,Old.refl _,e8,(fun h=>absurd h (by decide))⟩
  ·intro a W g hF hd;refine ⟨fun _=>?_,fun h=>by rw [Qa5 rfl] at h;cases h⟩;have h2:a.eval (.tmp 34)=.agg #[.int .i64 N,.slice a3 l3 c3]:=hd ⟨2,.data⟩ (by simp) rfl;have h10:a.eval (.tmp 42)=.slice ka kl kc:=hd ⟨10,.data⟩ (by simp) rfl;have p9:PA W (a.eval (.tmp 41)):=hd ⟨9,.data⟩ (by simp) rfl;refine Qag (R:=fun v w'=>Old W w'∧PB w' v) Tryz.call86 (vs:=#[.agg #[.int .i64 N,.slice a3 l3 c3],a.eval (.tmp 41),.slice ka kl kc]) (by simp [h2,h10]) (KB W g _ p9) ?_
   rintro x w' ⟨g',hp⟩;exact ⟨_,rfl,g',hp,(fun h=>absurd h (by decide))⟩
  ·intro a W g hF hd;refine ⟨fun _=>?_,fun h=>by rw [Qa5 rfl] at h;cases h⟩;have h0:a.eval (.tmp 32)=.agg #[.int .i64 N,.slice a3 l3 c3]:=hd ⟨0,.data⟩ (by simp) rfl;have h1:a.eval (.tmp 33)=.slice oa ol oc:=hd ⟨1,.data⟩ (by simp) rfl;have p11:PB W (a.eval (.tmp 43)):=hd ⟨11,.data⟩ (by simp) rfl;refine Qag (R:=fun v w'=>Old W w'∧PC w' v) Tryz.call85 (vs:=#[.agg #[.int .i64 N,.slice a3 l3 c3],.slice oa ol oc,a.eval (.tmp 43)]) (by simp [h0,h1]) (KC W g _ p11) ?_
   rintro x w' ⟨g',hp⟩;exact ⟨_,rfl,g',hp,(fun h=>absurd h (by decide))⟩
 ·intro a W g hF hq hne;have hput:=Qc0 (show Fram 13 Qd3 b0 a from hF) (fun i j hi hj=>Qjj i hi j hj);have hk:=HK.out (fun i=>a.eval (.tmp (Qd3 i))) W g (hq 12 (by decide));rw [← hput] at hk;refine Qb6 ?_
  show Qpb _ _ _ _ _
  exact hk
def Qcl (i:Nat):Nat:=[18,19,20,21,22,23,24,25,26,27,28,29,30,31,32,33,7].getD i 0
theorem Qrc:∀i,i<17->Qcl i<36:=by decide
theorem Qh2:∀i,i<17->∀j,j<17->Qcl i=Qcl j->i=j:=by decide
theorem Qrd:∀s,s<18->∀i,i<16->Qcl i≠s:=by decide
def Quo (sb b1 o1 b2 o2 L cap1 cap2 k:Nat) (aa:Option Addr) (cap:Nat) (p N:Int) (x1 x2:Option Addr) (n1 y1 n2 y2:Nat) (zs:List Int) (base:Nat) (i:Nat) (W:World) (xv:Value):Prop:=
 match i with
 | 0=>xv=.slice aa k cap
 | 1=>xv=.int .i64 p
 | 2=>xv=.pointer (some ⟨sb,0,none⟩)
 | 3=>xv=.int .i64 N
 | 4=>xv=.agg #[.int .i64 p,.int .i64 N,.int .i64 0]
 | 5=>xv=.slice (some ⟨b1,o1,none⟩) L cap1
 | 6=>xv=.int .i64 k
 | 7=>xv=.pointer (some ⟨b1,o1+k,none⟩)
 | 8=>xv=.slice x1 n1 y1
 | 9=>xv=.slice (some ⟨b2,o2,none⟩) L cap2
 | 10=>xv=.int .i64 k
 | 11=>xv=.pointer (some ⟨b2,o2+k,none⟩)
 | 12=>xv=.slice x2 n2 y2
 | 13=>∃ra rc,xv=.slice ra zs.length rc/\zs.length<=rc/\Own W base xv zs
 | 14=>∃ra rc g,xv=.slice (some ⟨g,0,none⟩) 1 1/\zs.length<=rc/\Own W base (.slice ra zs.length rc) zs/\W.cell? ⟨g,0,none⟩=some (.slice ra zs.length rc)/\g<W.heap.size
 | _=>True
theorem Qv2 (sb b1 o1 b2 o2 L cap1 cap2 k:Nat) (aa:Option Addr) (cap:Nat) (p N:Int) (x1 x2:Option Addr) (n1 y1 n2 y2:Nat) (zs:List Int) (base:Nat) (i:Nat) (W W':World) (xv:Value) (h:Quo sb b1 o1 b2 o2 L cap1 cap2 k aa cap p N x1 x2 n1 y1 n2 y2 zs base i W xv) (qo:Old W W'):Quo sb b1 o1 b2 o2 L cap1 cap2 k aa cap p N x1 x2 n1 y1 n2 y2 zs base i W' xv:=by
 unfold Quo at h ⊢;split at h
 case h_14=>
  obtain ⟨ra,rc,e,hc,ow⟩:=h;exact ⟨ra,rc,e,hc,ow.old qo⟩
 case h_15=>
  obtain ⟨ra,rc,g,e,hc,ow,hcell,hlt⟩:=h;exact ⟨ra,rc,g,e,hc,ow.old qo,(qo.cell (p:=⟨g,0,none⟩) hlt).trans hcell,Nat.lt_of_lt_of_le hlt qo.size⟩
 all_goals first | exact h | trivial
theorem Qz0 (w0:World) (sb b1 o1 b2 o2 L cap1 cap2 k:Nat) (aa:Option Addr) (cap:Nat) (p N:Int) (x1 x2:Option Addr) (n1 y1 n2 y2:Nat) (zs:List Int) (base:Nat) (hbase:base<=w0.heap.size) (FIN:World->Value->Prop)
 (cN:w0.cell? ⟨sb,0,none⟩=some (.int .i64 N)) (c1:w0.cell? ⟨b1,o1+k,none⟩=some (.slice x1 n1 y1)) (c2:w0.cell? ⟨b2,o2+k,none⟩=some (.slice x2 n2 y2))
 (hk:k<L) (hk6:k<=6) (hL:L<=1048576) (hkL:(k:Int)<(L:Int))
 (KF:∀W,Old w0 W->Calls Tryz.prog 144 #[.agg #[.int .i64 p,.int .i64 N,.int .i64 0],.slice x1 n1 y1,.slice x2 n2 y2] W fun e w'=>∃v',e=.returned v'/\Old W w'/\Own w' W.heap.size v' zs)
 (HEM:∀(W:World) (ra:Option Addr) (rc:Nat),Old w0 W->Own W w0.heap.size (.slice ra zs.length rc) zs->zs.length<=rc->∃vs,W.ownsRow base 22 1 (.slice aa k cap) k vs/\(∀v' w',w'.ownsRow base 22 1 v' (k+1) (vs++[.slice ra zs.length rc])->W.grownBy w' (Value.slice aa k cap).ownBlock->(v'.ownBlock=(Value.slice aa k cap).ownBlock∨v'.ownBlock=some W.heap.size)->FIN w' v'))
 (Q:Exit->Act->World->Prop) (a0:Act) (hsz:a0.tmps.size=36)
 (ha1:a0.eval (.tmp 1)=.slice (some ⟨b1,o1,none⟩) L cap1) (ha2:a0.eval (.tmp 2)=.slice (some ⟨b2,o2,none⟩) L cap2) (ha3:a0.eval (.tmp 3)=.pointer (some ⟨sb,0,none⟩)) (ha7:a0.eval (.tmp 7)=.slice aa k cap) (ha8:a0.eval (.tmp 8)=.int .i64 k) (ha9:a0.eval (.tmp 9)=.int .i64 p)
 (HK:Hid (∀(us:Nat->Value) W,FIN W (us 16)->Q .normal (Qaj a0 ((List.range 17).map fun i=>(Qcl i,us i))) W)) :
 Code.wp Tryz.prog ((Tryz.f86.body.bind (Qa0 5)).getD .skip) Q a0 w0:=by
 conv=>arg 2;whnf
 obtain ⟨i0,ii,iz0,iz1,iz2⟩:=info_parts Tryz.infoInt;obtain ⟨j0,ji,jz0,jz1,jz2⟩:=info_parts Tryz.infoInts;have hsb:=block_lt_of_cell cN;have hb1:=block_lt_of_cell c1;have hb2:=block_lt_of_cell c2;have un:=Qrd;refine Qib 15 rfl rfl rfl (by kernel_rfl) (by kernel_rfl) (by kernel_rfl) (by kernel_rfl) (by kernel_rfl) Qcl (fun i hi=>by rw [hsz];exact Qrc i hi) (fun i j hi hj=>Qh2 i hi j hj) (Quo sb b1 o1 b2 o2 L cap1 cap2 k aa cap p N x1 x2 n1 y1 n2 y2 zs w0.heap.size) (Qv2 sb b1 o1 b2 o2 L cap1 cap2 k aa cap p N x1 x2 n1 y1 n2 y2 zs w0.heap.size) FIN ?_ ?_ ?_ ?_
 ·refine ⟨?_,?_,?_,?_,?_,?_,?_,?_,?_,?_,?_,?_,?_,?_,?_,trivial⟩
  ·intro a W g hF hd;have e1:=(hF.same 1 (un 1 (by decide))).trans ha1;have e2:=(hF.same 2 (un 2 (by decide))).trans ha2;have e3:=(hF.same 3 (un 3 (by decide))).trans ha3;have e7:=(hF.same 7 (un 7 (by decide))).trans ha7;have e8:=(hF.same 8 (un 8 (by decide))).trans ha8;have e9:=(hF.same 9 (un 9 (by decide))).trans ha9;obtain ⟨ρ,hρ⟩:∃ρ,a.eval=ρ:=⟨_,rfl⟩
   rw [hρ] at e1 e2 e3 e7 e8 e9;refine Qaf ρ hρ (.slice aa k cap) ?_ ⟨_,rfl,Old.refl _,rfl⟩
   clear g hF hd hρ HK un ha1 ha2 ha3 ha7 ha8 ha9 cN c1 c2 KF HEM
   go_simp
   all_goals (rw [IntKind.wrap_i64];omega)
  ·intro a W g hF hd;have e1:=(hF.same 1 (un 1 (by decide))).trans ha1;have e2:=(hF.same 2 (un 2 (by decide))).trans ha2;have e3:=(hF.same 3 (un 3 (by decide))).trans ha3;have e7:=(hF.same 7 (un 7 (by decide))).trans ha7;have e8:=(hF.same 8 (un 8 (by decide))).trans ha8;have e9:=(hF.same 9 (un 9 (by decide))).trans ha9;obtain ⟨ρ,hρ⟩:∃ρ,a.eval=ρ:=⟨_,rfl⟩
   rw [hρ] at e1 e2 e3 e7 e8 e9;refine Qaf ρ hρ (.int .i64 p) ?_ ⟨_,rfl,Old.refl _,rfl⟩
   clear g hF hd hρ HK un ha1 ha2 ha3 ha7 ha8 ha9 cN c1 c2 KF HEM
   go_simp
   all_goals (rw [IntKind.wrap_i64];omega)
  ·intro a W g hF hd;have e1:=(hF.same 1 (un 1 (by decide))).trans ha1;have e2:=(hF.same 2 (un 2 (by decide))).trans ha2;have e3:=(hF.same 3 (un 3 (by decide))).trans ha3;have e7:=(hF.same 7 (un 7 (by decide))).trans ha7;have e8:=(hF.same 8 (un 8 (by decide))).trans ha8;have e9:=(hF.same 9 (un 9 (by decide))).trans ha9;obtain ⟨ρ,hρ⟩:∃ρ,a.eval=ρ:=⟨_,rfl⟩
   rw [hρ] at e1 e2 e3 e7 e8 e9;refine Qaf ρ hρ (.pointer (some ⟨sb,0,none⟩)) ?_ ⟨_,rfl,Old.refl _,rfl⟩
   clear g hF hd hρ HK un ha1 ha2 ha3 ha7 ha8 ha9 cN c1 c2 KF HEM
   go_simp
   all_goals (rw [IntKind.wrap_i64];omega)
  ·intro a W g hF hd;have e1:=(hF.same 1 (un 1 (by decide))).trans ha1;have e2:=(hF.same 2 (un 2 (by decide))).trans ha2;have e3:=(hF.same 3 (un 3 (by decide))).trans ha3;have e7:=(hF.same 7 (un 7 (by decide))).trans ha7;have e8:=(hF.same 8 (un 8 (by decide))).trans ha8;have e9:=(hF.same 9 (un 9 (by decide))).trans ha9;have h2:=hd ⟨2,.data⟩ (by simp) rfl;simp only [Quo,Qcl,List.getD_cons_zero,List.getD_cons_succ] at h2;have kcN:=(g.cell (p:=⟨sb,0,none⟩) hsb).trans cN;obtain ⟨ρ,hρ⟩:∃ρ,a.eval=ρ:=⟨_,rfl⟩
   rw [hρ] at h2 e1 e2 e3 e7 e8 e9;refine Qaf ρ hρ (.int .i64 N) ?_ ⟨_,rfl,Old.refl _,rfl⟩
   clear g hF hd hρ HK un ha1 ha2 ha3 ha7 ha8 ha9 cN c1 c2 KF HEM
   go_simp
   all_goals (rw [IntKind.wrap_i64];omega)
  ·intro a W g hF hd;have e1:=(hF.same 1 (un 1 (by decide))).trans ha1;have e2:=(hF.same 2 (un 2 (by decide))).trans ha2;have e3:=(hF.same 3 (un 3 (by decide))).trans ha3;have e7:=(hF.same 7 (un 7 (by decide))).trans ha7;have e8:=(hF.same 8 (un 8 (by decide))).trans ha8;have e9:=(hF.same 9 (un 9 (by decide))).trans ha9;have h1:=hd ⟨1,.data⟩ (by simp) rfl;have h3:=hd ⟨3,.data⟩ (by simp) rfl;simp only [Quo,Qcl,List.getD_cons_zero,List.getD_cons_succ] at h1 h3;obtain ⟨ρ,hρ⟩:∃ρ,a.eval=ρ:=⟨_,rfl⟩
   rw [hρ] at h1 h3 e1 e2 e3 e7 e8 e9;refine Qaf ρ hρ (.agg #[.int .i64 p,.int .i64 N,.int .i64 0]) ?_ ⟨_,rfl,Old.refl _,rfl⟩
   clear g hF hd hρ HK un ha1 ha2 ha3 ha7 ha8 ha9 cN c1 c2 KF HEM
   go_simp
   all_goals (rw [IntKind.wrap_i64];omega)
  ·intro a W g hF hd;have e1:=(hF.same 1 (un 1 (by decide))).trans ha1;have e2:=(hF.same 2 (un 2 (by decide))).trans ha2;have e3:=(hF.same 3 (un 3 (by decide))).trans ha3;have e7:=(hF.same 7 (un 7 (by decide))).trans ha7;have e8:=(hF.same 8 (un 8 (by decide))).trans ha8;have e9:=(hF.same 9 (un 9 (by decide))).trans ha9;obtain ⟨ρ,hρ⟩:∃ρ,a.eval=ρ:=⟨_,rfl⟩
   rw [hρ] at e1 e2 e3 e7 e8 e9;refine Qaf ρ hρ (.slice (some ⟨b1,o1,none⟩) L cap1) ?_ ⟨_,rfl,Old.refl _,rfl⟩
   clear g hF hd hρ HK un ha1 ha2 ha3 ha7 ha8 ha9 cN c1 c2 KF HEM
   go_simp
   all_goals (rw [IntKind.wrap_i64];omega)
  ·intro a W g hF hd;have e1:=(hF.same 1 (un 1 (by decide))).trans ha1;have e2:=(hF.same 2 (un 2 (by decide))).trans ha2;have e3:=(hF.same 3 (un 3 (by decide))).trans ha3;have e7:=(hF.same 7 (un 7 (by decide))).trans ha7;have e8:=(hF.same 8 (un 8 (by decide))).trans ha8;have e9:=(hF.same 9 (un 9 (by decide))).trans ha9;obtain ⟨ρ,hρ⟩:∃ρ,a.eval=ρ:=⟨_,rfl⟩
   rw [hρ] at e1 e2 e3 e7 e8 e9;refine Qaf ρ hρ (.int .i64 k) ?_ ⟨_,rfl,Old.refl _,rfl⟩
   clear g hF hd hρ HK un ha1 ha2 ha3 ha7 ha8 ha9 cN c1 c2 KF HEM
   go_simp
   all_goals (rw [IntKind.wrap_i64];omega)
  ·intro a W g hF hd;have e1:=(hF.same 1 (un 1 (by decide))).trans ha1;have e2:=(hF.same 2 (un 2 (by decide))).trans ha2;have e3:=(hF.same 3 (un 3 (by decide))).trans ha3;have e7:=(hF.same 7 (un 7 (by decide))).trans ha7;have e8:=(hF.same 8 (un 8 (by decide))).trans ha8;have e9:=(hF.same 9 (un 9 (by decide))).trans ha9;have h5:=hd ⟨5,.data⟩ (by simp) rfl;have h6:=hd ⟨6,.data⟩ (by simp) rfl;simp only [Quo,Qcl,List.getD_cons_zero,List.getD_cons_succ] at h5 h6;obtain ⟨ρ,hρ⟩:∃ρ,a.eval=ρ:=⟨_,rfl⟩
   rw [hρ] at h5 h6 e1 e2 e3 e7 e8 e9;refine Qaf ρ hρ (.pointer (some ⟨b1,o1+k,none⟩)) ?_ ⟨_,rfl,Old.refl _,rfl⟩
   clear g hF hd hρ HK un ha1 ha2 ha3 ha7 ha8 ha9 cN c1 c2 KF HEM
   go_simp
   all_goals (rw [IntKind.wrap_i64];omega)
  ·intro a W g hF hd;have e1:=(hF.same 1 (un 1 (by decide))).trans ha1;have e2:=(hF.same 2 (un 2 (by decide))).trans ha2;have e3:=(hF.same 3 (un 3 (by decide))).trans ha3;have e7:=(hF.same 7 (un 7 (by decide))).trans ha7;have e8:=(hF.same 8 (un 8 (by decide))).trans ha8;have e9:=(hF.same 9 (un 9 (by decide))).trans ha9;have h7:=hd ⟨7,.data⟩ (by simp) rfl;simp only [Quo,Qcl,List.getD_cons_zero,List.getD_cons_succ] at h7;have kc1:=(g.cell (p:=⟨b1,o1+k,none⟩) hb1).trans c1;obtain ⟨ρ,hρ⟩:∃ρ,a.eval=ρ:=⟨_,rfl⟩
   rw [hρ] at h7 e1 e2 e3 e7 e8 e9;refine Qaf ρ hρ (.slice x1 n1 y1) ?_ ⟨_,rfl,Old.refl _,rfl⟩
   clear g hF hd hρ HK un ha1 ha2 ha3 ha7 ha8 ha9 cN c1 c2 KF HEM
   go_simp
   all_goals (rw [IntKind.wrap_i64];omega)
  ·intro a W g hF hd;have e1:=(hF.same 1 (un 1 (by decide))).trans ha1;have e2:=(hF.same 2 (un 2 (by decide))).trans ha2;have e3:=(hF.same 3 (un 3 (by decide))).trans ha3;have e7:=(hF.same 7 (un 7 (by decide))).trans ha7;have e8:=(hF.same 8 (un 8 (by decide))).trans ha8;have e9:=(hF.same 9 (un 9 (by decide))).trans ha9;obtain ⟨ρ,hρ⟩:∃ρ,a.eval=ρ:=⟨_,rfl⟩
   rw [hρ] at e1 e2 e3 e7 e8 e9;refine Qaf ρ hρ (.slice (some ⟨b2,o2,none⟩) L cap2) ?_ ⟨_,rfl,Old.refl _,rfl⟩
   clear g hF hd hρ HK un ha1 ha2 ha3 ha7 ha8 ha9 cN c1 c2 KF HEM
   go_simp
   all_goals (rw [IntKind.wrap_i64];omega)
  ·intro a W g hF hd;have e1:=(hF.same 1 (un 1 (by decide))).trans ha1;have e2:=(hF.same 2 (un 2 (by decide))).trans ha2;have e3:=(hF.same 3 (un 3 (by decide))).trans ha3;have e7:=(hF.same 7 (un 7 (by decide))).trans ha7;have e8:=(hF.same 8 (un 8 (by decide))).trans ha8;have e9:=(hF.same 9 (un 9 (by decide))).trans ha9;obtain ⟨ρ,hρ⟩:∃ρ,a.eval=ρ:=⟨_,rfl⟩
   rw [hρ] at e1 e2 e3 e7 e8 e9;refine Qaf ρ hρ (.int .i64 k) ?_ ⟨_,rfl,Old.refl _,rfl⟩
   clear g hF hd hρ HK un ha1 ha2 ha3 ha7 ha8 ha9 cN c1 c2 KF HEM
   go_simp
   all_goals (rw [IntKind.wrap_i64];omega)
  ·intro a W g hF hd;have e1:=(hF.same 1 (un 1 (by decide))).trans ha1;have e2:=(hF.same 2 (un 2 (by decide))).trans ha2;have e3:=(hF.same 3 (un 3 (by decide))).trans ha3;have e7:=(hF.same 7 (un 7 (by decide))).trans ha7;have e8:=(hF.same 8 (un 8 (by decide))).trans ha8;have e9:=(hF.same 9 (un 9 (by decide))).trans ha9;have h9:=hd ⟨9,.data⟩ (by simp) rfl;have h10:=hd ⟨10,.data⟩ (by simp) rfl;simp only [Quo,Qcl,List.getD_cons_zero,List.getD_cons_succ] at h9 h10;obtain ⟨ρ,hρ⟩:∃ρ,a.eval=ρ:=⟨_,rfl⟩
   rw [hρ] at h9 h10 e1 e2 e3 e7 e8 e9;refine Qaf ρ hρ (.pointer (some ⟨b2,o2+k,none⟩)) ?_ ⟨_,rfl,Old.refl _,rfl⟩
   clear g hF hd hρ HK un ha1 ha2 ha3 ha7 ha8 ha9 cN c1 c2 KF HEM
   go_simp
   all_goals (rw [IntKind.wrap_i64];omega)
  ·intro a W g hF hd;have e1:=(hF.same 1 (un 1 (by decide))).trans ha1;have e2:=(hF.same 2 (un 2 (by decide))).trans ha2;have e3:=(hF.same 3 (un 3 (by decide))).trans ha3;have e7:=(hF.same 7 (un 7 (by decide))).trans ha7;have e8:=(hF.same 8 (un 8 (by decide))).trans ha8;have e9:=(hF.same 9 (un 9 (by decide))).trans ha9;have h11:=hd ⟨11,.data⟩ (by simp) rfl;simp only [Quo,Qcl,List.getD_cons_zero,List.getD_cons_succ] at h11;have kc2:=(g.cell (p:=⟨b2,o2+k,none⟩) hb2).trans c2;obtain ⟨ρ,hρ⟩:∃ρ,a.eval=ρ:=⟨_,rfl⟩
   rw [hρ] at h11 e1 e2 e3 e7 e8 e9;refine Qaf ρ hρ (.slice x2 n2 y2) ?_ ⟨_,rfl,Old.refl _,rfl⟩
   clear g hF hd hρ HK un ha1 ha2 ha3 ha7 ha8 ha9 cN c1 c2 KF HEM
   go_simp
   all_goals (rw [IntKind.wrap_i64];omega)
  ·intro a W g hF hd;have h4:a.eval (.tmp 22)=.agg #[.int .i64 p,.int .i64 N,.int .i64 0]:=hd ⟨4,.data⟩ (by simp) rfl;have h8:a.eval (.tmp 26)=.slice x1 n1 y1:=hd ⟨8,.data⟩ (by simp) rfl;have h12:a.eval (.tmp 30)=.slice x2 n2 y2:=hd ⟨12,.data⟩ (by simp) rfl;refine Qag Tryz.call144 (vs:=#[.agg #[.int .i64 p,.int .i64 N,.int .i64 0],.slice x1 n1 y1,.slice x2 n2 y2]) (by simp [h4,h8,h12]) (KF W g) ?_
   rintro x w' ⟨g',o'⟩;obtain ⟨ra,rc,e,hc⟩:=Qzw o';subst e;exact ⟨_,rfl,g',ra,rc,rfl,hc,o'.low g.size⟩
  ·intro a W g hF hd;obtain ⟨ra,rc,h7,hc,ow⟩:∃ra rc,a.eval (.tmp 31)=.slice ra zs.length rc∧zs.length≤rc∧Own W w0.heap.size (a.eval (.tmp 31)) zs:=hd ⟨13,.data⟩ (by simp) rfl
   rw [h7] at ow;obtain ⟨ρ,hρ⟩:∃ρ,a.eval=ρ:=⟨_,rfl⟩
   rw [hρ] at h7;refine Qzv (W':=W.alloc (.cells #[.slice ra zs.length rc] 22)) ρ hρ (.slice (some ⟨W.heap.size,0,none⟩) 1 1) ?_ ⟨_,rfl,(Old.refl W).alloc _,ra,rc,W.heap.size,rfl,hc,ow.alloc _,Qaa _ _ _ _ _ rfl,by simp⟩
   clear g hF hd hρ HK un ha1 ha2 ha3 ha7 ha8 ha9 cN c1 c2 KF HEM ow hc
   go_simp
 ·intro a W g hF hq;have h0:a.eval (.tmp 18)=.slice aa k cap:=hq 0 (by decide);obtain ⟨ra,rc,gg,h8,hc,ow,hcell,hlt⟩:∃ra rc gg,a.eval (.tmp 32)=.slice (some ⟨gg,0,none⟩) 1 1∧zs.length≤rc∧Own W w0.heap.size (.slice ra zs.length rc) zs∧W.cell? ⟨gg,0,none⟩=some (.slice ra zs.length rc)∧gg<W.heap.size:=hq 14 (by decide)
  obtain ⟨vs,ov,hem⟩:=HEM W ra rc g ow hc;refine Qmq _ _ 63 rfl base 22 j0 (.slice none 0 0) 1 24 Tryz.underlying63 ji jz0 jz1 jz2 rfl (by decide) _ k vs h0 ov ⟨gg,0,none⟩ 1 1 [.slice ra zs.length rc] h8 rfl ?_ (Qp1 _ _ _) (by unfold maxLen;omega) (by omega) (Nat.le_trans hbase g.size) ?_
  ·intro j u hj
   match j,hj with
   | 0,hj=>
     have:Value.slice ra zs.length rc=u:=by simpa using hj
     subst this;exact hcell
   | j+1,hj=>simp at hj
  ·intro v' w' o5 g5 x5 l5;exact ⟨v',rfl,hem v' w' o5 g5 l5⟩
 ·intro a W v hv;exact Qb6 (by rw [show a.eval (.tmp 33)=v from hv];exact ⟨rfl,rfl⟩)
 ·intro a W hF hq;have hp:=Qc0 hF (fun i j hi hj=>Qh2 i hi j hj);have hk:=HK.out (fun i=>a.eval (.tmp (Qcl i))) W hq;rw [<- hp] at hk;exact hk
end Go.Proofs.YtejhpljichmmpaaGreatDoor
namespace Go.Proofs.YtejhpljichmmpaaGreatDoor
open Go.ChangeShapes Go.WideShapes Go.ChangeAt Go.RowKit
open M1
theorem Qre (N:Int) (ps:List Int) (xss yss zss:List (List Int)) (v u1 u2:Value) (w:World) (hv:Row w v ps) (h1:Qcc w u1 xss) (h2:Qcc w u2 yss) (hps:1<=ps.length/\ps.length<=6) (hx:xss.length=ps.length) (hy:yss.length=ps.length) (hzl:zss.length=ps.length)
 (KF:∀k,k<ps.length->∀W u t,Row W u (xss.getD k [])->Row W t (yss.getD k [])->Calls Tryz.prog 144 #[.agg #[.int .i64 (ps.getD k 0),.int .i64 N,.int .i64 0],u,t] W fun e w'=>∃v',e=.returned v'/\Old W w'/\Own w' W.heap.size v' (zss.getD k [])) :
 Calls Tryz.prog 86 #[.agg #[.int .i64 N,v],u1,u2] w fun e w'=>∃v',e=.returned v'/\Old w w'/\OwS zss w' w.heap.size w'.heap.size v':=by
 have HKF:Hid (∀k,k<ps.length->∀W u t,Row W u (xss.getD k [])->Row W t (yss.getD k [])->Calls Tryz.prog 144 #[.agg #[.int .i64 (ps.getD k 0),.int .i64 N,.int .i64 0],u,t] W fun e w'=>∃v',e=.returned v'/\Old W w'/\Own w' W.heap.size v' (zss.getD k [])):=KF;clear KF;obtain ⟨a0,cap0,ev⟩:=hv.slice;obtain ⟨a1,cap1,e1⟩:=h1.slice;obtain ⟨a2,cap2,e2⟩:=h2.slice;rw [hx] at e1;rw [hy] at e2;subst ev e1 e2;rcases hv with ⟨a,cap,e,e'⟩ | ⟨b,o,cap,e,hb,h0,hc⟩
 ·subst e';simp at hps
 rcases h1 with ⟨a,cap,e,e'⟩ | ⟨b1,o1,cap,us1,e_1,hb1,h01,hc1⟩
 ·subst e';simp at hx;omega
 rcases h2 with ⟨a,cap,e,e'⟩ | ⟨b2,o2,cap,us2,e_2,hb2,h02,hc2⟩
 ·subst e';simp at hy;omega
 simp only [Value.slice.injEq,true_and] at e e_1 e_2;obtain ⟨rfl,rfl⟩:=e;obtain ⟨rfl,hq1,rfl⟩:=e_1;obtain ⟨rfl,hq2,rfl⟩:=e_2;have HC:Hid (∀j,j<ps.length->w.cell? ⟨b,o+j,none⟩=some (.int .i64 (ps.getD j 0))):=hc;have HC1:Hid (∀j,j<ps.length->w.cell? ⟨b1,o1+j,none⟩=some (us1 j)/\Row w (us1 j) (xss.getD j [])):=fun j hj=>hc1 j (by omega)
 have HC2:Hid (∀j,j<ps.length->w.cell? ⟨b2,o2+j,none⟩=some (us2 j)/\Row w (us2 j) (yss.getD j [])):=fun j hj=>hc2 j (by omega)
 have HZ:Hid (∀k,k<ps.length->zss.take (k+1)=zss.take k++[zss.getD k []]):=fun k hk=>Qeq _ _ (by omega)
 have HZL:Hid (zss.length=ps.length):=hzl;obtain ⟨wB,hwB⟩:∃wB,wB=w.alloc (.cells #[.int .i64 N,.slice (some ⟨b,o,none⟩) ps.length cap0] 80):=⟨_,rfl⟩
 have HAO:Hid (Old w wB):=by rw [hwB];exact (Old.refl w).alloc _
 have hq0:wB.cell? ⟨w.heap.size,0,none⟩=some (.int .i64 N):=by rw [hwB];exact Qaa _ _ _ _ _ rfl
 have hq1':wB.cell? ⟨w.heap.size,1,none⟩=some (.slice (some ⟨b,o,none⟩) ps.length cap0):=by rw [hwB];exact Qaa _ _ _ _ _ rfl
 have hqs:w.heap.size<wB.heap.size:=by rw [hwB];simp
 clear hc hc1 hc2 hzl hq1 hq2 h0 h01 h02 hx hy;go_enter Tryz.func86,Tryz.ntmps86;go_wp2_with fail;rw [<- hwB];clear hwB
 go_loopw [7,13] (fun x i W=>∃(k:Nat) (a:Option Addr) (cap:Nat),k<=ps.length/\i=.int .i64 k/\x=.slice a k cap/\Hid (OwS (zss.take k) W wB.heap.size W.heap.size (.slice a k cap))/\Hid (Old wB W)) (fun _ i _=>ps.length - (intOf i).toNat)
 case atStart=>exact ⟨0,none,0,by omega,rfl,rfl,⟨Nat.le_refl _,Or.inl ⟨rfl,by simp⟩⟩,Old.refl _⟩
 case round=>
  obtain ⟨k,a,cap,hk,rfl,rfl,HO,HG⟩:=hrel;have hsr:=HG.out.size
  by_cases hlt:k<ps.length
  ·have d1:decide ((k:Int)<(ps.length:Int))=true:=by simp;omega
   have hkL:(k:Int)<(ps.length:Int):=by omega
   have HGW:Hid (Old w wr):=Old.trans HAO.out HG.out;have c0:wr.cell? ⟨b,o+k,none⟩=some (.int .i64 (ps.getD k 0)):=(HGW.out.cell (p:=⟨b,o+k,none⟩) hb).trans (HC.out k hlt)
   obtain ⟨p1,p2⟩:=HC1.out k hlt;obtain ⟨xa,ya,f1⟩:=p2.slice;rw [f1] at p1 p2;obtain ⟨p3,p4⟩:=HC2.out k hlt;obtain ⟨xb,yb,f2⟩:=p4.slice;rw [f2] at p3 p4;have c1:wr.cell? ⟨b1,o1+k,none⟩=some (.slice xa (xss.getD k []).length ya):=(HGW.out.cell (p:=⟨b1,o1+k,none⟩) hb1).trans p1
   have c2:wr.cell? ⟨b2,o2+k,none⟩=some (.slice xb (yss.getD k []).length yb):=(HGW.out.cell (p:=⟨b2,o2+k,none⟩) hb2).trans p3
   have R1:Hid (Row wr (.slice xa (xss.getD k []).length ya) (xss.getD k [])):=p2.old HGW.out;have R2:Hid (Row wr (.slice xb (yss.getD k []).length yb) (yss.getD k [])):=p4.old HGW.out;have n0:=(HG.out.cell (p:=⟨w.heap.size,0,none⟩) hqs).trans hq0;have HZK:Hid (zss.take (k+1)=zss.take k++[zss.getD k []]):=HZ.out k hlt;have KFk:=HKF.out k hlt;clear p1 p2 p3 p4 f1 f2;generalize zss.getD k []=zs at *;generalize xss.getD k []=xs at *;generalize yss.getD k []=ys at *;generalize ps.getD k 0=p at *
   have HEMB:Hid (∀(W:World) (ra:Option Addr) (rc:Nat),Old wr W->Own W wr.heap.size (.slice ra zs.length rc) zs->zs.length<=rc->∃vs,W.ownsRow wB.heap.size 22 1 (.slice a k cap) k vs/\(∀v' w',w'.ownsRow wB.heap.size 22 1 v' (k+1) (vs++[.slice ra zs.length rc])->W.grownBy w' (Value.slice a k cap).ownBlock->(v'.ownBlock=(Value.slice a k cap).ownBlock∨v'.ownBlock=some W.heap.size)->OwS (zss.take (k+1)) w' wB.heap.size w'.heap.size v'/\Below (wB.heap.size) wr w')):=fun W ra rc g o hc=>by
    have hl:(zss.take k).length=k:=by rw [List.length_take];have:=HZL.out;omega
    have:=OwS.app HO.out hsr g o hc;rw [hl] at this;rw [HZK.out];obtain ⟨vs,t1,t2⟩:=this;refine ⟨vs,t1,fun v' w' q1 q2 q3=>⟨t2 v' w' q1 q2 q3,?_⟩⟩;refine Below.grown (g.mono hsr) q2 (Nat.le_trans hsr g.size) (fun p hp=>?_);obtain ⟨hh,⟨e,e2⟩ | ⟨p',cap',vs,e,hcap,hl,hhi,_⟩⟩:=HO.out
    ·rw [e] at hp
     cases hp
    ·rw [e] at hp;simp only [Value.ownBlock,Option.some.injEq] at hp;omega
   go_wp2_with fail
   refine Qz0 wr w.heap.size b1 o1 b2 o2 ps.length cap1 cap2 k a cap p N xa xb xs.length ya ys.length yb zs wB.heap.size hsr (fun W v=>OwS (zss.take (k+1)) W wB.heap.size W.heap.size v/\Old wB W) n0 c1 c2 hlt (by omega) (by omega) hkL (fun W g=>KFk W _ _ (R1.out.old g) (R2.out.old g)) (fun W ra rc g o hc=>by
    obtain ⟨vs,t1,t2⟩:=HEMB.out W ra rc g o hc;exact ⟨vs,t1,fun v' w' q1 q2 q3=>⟨(t2 v' w' q1 q2 q3).1,Below.trans HG.out (t2 v' w' q1 q2 q3).2⟩⟩) _ _ ?_ ?_ ?_ ?_ ?_ ?_ ?_ ?_
   iterate 7 (·exact rfl)
   intro us W' hfin;obtain ⟨O5,G5⟩:=hfin;have HO5:Hid (OwS (zss.take (k+1)) W' wB.heap.size W'.heap.size (us 16)):=O5;have HG5:Hid (Old wB W'):=G5;clear O5 G5 c0 c1 c2 n0 KFk HEMB;simp only [Qaj,Act.put,Qcl,List.range,List.range.loop,List.map_cons,List.map_nil,List.getD_cons_zero,List.getD_cons_succ,List.setIfInBounds_toArray,List.set_cons_succ,List.set_cons_zero];have hl1:(zss.take (k+1)).length=k+1:=by rw [List.length_take];have:=HZL.out;omega
   obtain ⟨a5,cap5,e5⟩:=HO5.out.slice;rw [hl1] at e5;rw [e5] at HO5;generalize us 16=u10 at *;subst e5;go_wp2_with fail;exact ⟨⟨k+1,_,_,by omega,by go_num,rfl,HO5,HG5⟩,by simp [intOf];omega⟩
  ·have d1:decide ((k:Int)<(ps.length:Int))=false:=by simp;omega
   obtain rfl:k=ps.length:=by omega
   have HF:Hid (OwS zss wr wB.heap.size wr.heap.size (.slice a ps.length cap)):=by
    have:=HO.out;rw [List.take_of_length_le (by have:=HZL.out;omega)] at this;exact this
   go_wp2_with fail;go_ret;exact ⟨_,rfl,Old.trans HAO.out HG.out,HF.out.low HAO.out.size⟩
end Go.Proofs.YtejhpljichmmpaaGreatDoor
