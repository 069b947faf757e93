/- Proved: what its theorems say. -/
import Derived.Test.YtanijpekdnkicaaGreatDoorTc03
import Derived.Test.YtanijpekdnkicaaGreatDoorTc13
import Derived.Test.YtanijpekdnkicaaGreatDoorTc25
import Derived.Test.YtanijpekdnkicaaGreatDoorTc10
import Derived.Test.YtanijpekdnkicaaGreatDoorTc15
import Derived.Maps.AppendAt
namespace Go.Proofs.YtanijpekdnkicaaGreatDoor
open Go.ChangeShapes Go.WideShapes Go.ChangeAt Go.RowKit
set_option linter.unusedVariables false
set_option linter.unusedSimpArgs false
theorem op_valW {P:Program} {a:Act} {W W':World} {K:Act→World→Prop} {Q:Exit→Act→World→Prop} {o:Oper} (ρ:Operand→Value) (hρ:a.eval=ρ) (v:Value) (hr:(execOp ρ o).run P W=.ok (.value v) W') (hK:K (a.put o.dst v) W'):o.wp P a W K Q:=by
 unfold Oper.wp
 rw [hρ,hr]
 exact hK
theorem op_append_at {P:Program} {o:Oper} {a:Act} {w:World} {K:Act→World→Prop} {Q:Exit→Act→World→Prop} (s x:Operand) (t:TypeId)
 (ho:o.op=.call {callee:=.builtin .append,args:=#[s,x],argTypes:=#[t,t]})
 (base:Nat) (e:TypeId) (i:TypeInfo) (z:Value) (size bytes:Nat) (ht:P.underlying t=some (.slice e)) (hi:P.info? e=some i) (hz:i.zero=some z)
 (hsize:i.size=size) (hby:i.bytes=bytes) (hzs:z.cells.size=size) (hsz:0<size)
 (v:Value) (n:Nat) (xs:List Value) (hs:a.eval s=v) (hown:w.ownsRow base e size v n xs)
 (ad:Addr) (m c:Nat) (news:List Value) (hx:a.eval x=.slice (some ad) m c) (hl:news.length=m*size) (hnews:∀j u,news[j]? = some u→w.cell? (ad.add j)=some u) (h1:∀u∈news,u.oneCell'=true)
 (h63:n+m≤maxLen) (hbytes:(n+m)*bytes≤140737488355328) (hbase:base≤w.heap.size)
 (h:∀v' w',w'.ownsRow base e size v' (n+m) (xs++news)→w.grownBy w' v.ownBlock→(v'=.slice none 0 0↔v=.slice none 0 0∧m=0)→(v'.ownBlock=v.ownBlock∨v'.ownBlock=some w.heap.size)→K (a.put o.dst v') w') :
 o.wp P a w K Q:=by
 obtain ⟨v',w',hr,h2,h3,h4,h5⟩:=run_append_own_at (P:=P) w base t o.type e i z size bytes ht hi hz hsize hby hzs hsz v n xs hown ad m c news hl hnews h1 h63 hbytes hbase
 unfold Oper.wp execOp
 simp only [ho,resolve,invoke,builtin,Sem.run_bind,Sem.run_pure,Result.andThen_ok,List.map_toArray,List.map_cons,List.map_nil,hs,hx,hr]
 exact h v' w' h2 h3 h4 h5
theorem own_fit {W:World} {base:Nat} {v:Value} {zs:List Int} (h:Own W base v zs):∃ra rc,v=.slice ra zs.length rc∧zs.length≤rc:=by
 rcases h.2 with ⟨e,hn⟩ | ⟨_,_,_,e,_,_,hn,_⟩
 ·exact ⟨none,0,by rw [e,hn],by omega⟩
 ·exact ⟨_,_,e,hn⟩
def slotRgM (i:Nat):Nat:=[18,19,20,21,22,23,24,25,26,27,28,29,30,31,32,33,7].getD i 0
theorem slotRgM_lt:∀i,i<17→slotRgM i<36:=by decide
theorem slotRgM_inj:∀i,i<17→∀j,j<17→slotRgM i=slotRgM j→i=j:=by decide
theorem slotRgM_no:∀s,s<18→∀i,i<16→slotRgM i≠s:=by decide
def qRgM (sb b1 o1 b2 o2 L cap1 cap2 k:Nat) (aa:Option Addr) (cap:Nat) (p N:Int) (x1 x2:Option Addr) (n1 y1 n2 y2:Nat) (zs:List Int) (base:Nat) (i:Nat) (W:World) (xv:Value):Prop:=
 match i with
 | 0=>xv=.slice aa k cap
 | 1=>xv=.int .i64 p
 | 2=>xv=.pointer (some ⟨sb,0,none⟩)
 | 3=>xv=.int .i64 N
 | 4=>xv=.agg #[.int .i64 p,.int .i64 N,.int .i64 0]
 | 5=>xv=.slice (some ⟨b1,o1,none⟩) L cap1
 | 6=>xv=.int .i64 k
 | 7=>xv=.pointer (some ⟨b1,o1+k,none⟩)
 | 8=>xv=.slice x1 n1 y1
 | 9=>xv=.slice (some ⟨b2,o2,none⟩) L cap2
 | 10=>xv=.int .i64 k
 | 11=>xv=.pointer (some ⟨b2,o2+k,none⟩)
 | 12=>xv=.slice x2 n2 y2
 | 13=>∃ra rc,xv=.slice ra zs.length rc∧zs.length≤rc∧Own W base xv zs
 | 14=>∃ra rc g,xv=.slice (some ⟨g,0,none⟩) 1 1∧zs.length≤rc∧Own W base (.slice ra zs.length rc) zs∧W.cell? ⟨g,0,none⟩=some (.slice ra zs.length rc)∧g<W.heap.size
 | _=>True
theorem qRgM_old (sb b1 o1 b2 o2 L cap1 cap2 k:Nat) (aa:Option Addr) (cap:Nat) (p N:Int) (x1 x2:Option Addr) (n1 y1 n2 y2:Nat) (zs:List Int) (base:Nat) (i:Nat) (W W':World) (xv:Value) (h:qRgM sb b1 o1 b2 o2 L cap1 cap2 k aa cap p N x1 x2 n1 y1 n2 y2 zs base i W xv) (qo:Old W W'):qRgM sb b1 o1 b2 o2 L cap1 cap2 k aa cap p N x1 x2 n1 y1 n2 y2 zs base i W' xv:=by
 unfold qRgM at h ⊢
 split at h
 case h_14=>
  obtain ⟨ra,rc,e,hc,ow⟩:=h
  exact ⟨ra,rc,e,hc,ow.old qo⟩
 case h_15=>
  obtain ⟨ra,rc,g,e,hc,ow,hcell,hlt⟩:=h
  exact ⟨ra,rc,g,e,hc,ow.old qo,(qo.cell (p:=⟨g,0,none⟩) hlt).trans hcell,Nat.lt_of_lt_of_le hlt qo.size⟩
 all_goals first | exact h | trivial
set_option maxRecDepth 100000 in
set_option maxHeartbeats 4000000 in
theorem reg_RgM (w0:World) (sb b1 o1 b2 o2 L cap1 cap2 k:Nat) (aa:Option Addr) (cap:Nat) (p N:Int) (x1 x2:Option Addr) (n1 y1 n2 y2:Nat) (zs:List Int) (base:Nat) (hbase:base≤w0.heap.size) (FIN:World→Value→Prop)
 (cN:w0.cell? ⟨sb,0,none⟩=some (.int .i64 N)) (c1:w0.cell? ⟨b1,o1+k,none⟩=some (.slice x1 n1 y1)) (c2:w0.cell? ⟨b2,o2+k,none⟩=some (.slice x2 n2 y2))
 (hk:k<L) (hk6:k≤6) (hL:L≤1048576) (hkL:(k:Int)<(L:Int))
 (KF:∀W,Old w0 W→Calls Tryz.prog 105 #[.agg #[.int .i64 p,.int .i64 N,.int .i64 0],.slice x1 n1 y1,.slice x2 n2 y2] W fun e w'=>∃v',e=.returned v'∧Old W w'∧Own w' W.heap.size v' zs)
 (HEM:∀(W:World) (ra:Option Addr) (rc:Nat),Old w0 W→Own W w0.heap.size (.slice ra zs.length rc) zs→zs.length≤rc→∃vs,W.ownsRow base 22 1 (.slice aa k cap) k vs∧(∀v' w',w'.ownsRow base 22 1 v' (k+1) (vs++[.slice ra zs.length rc])→W.grownBy w' (Value.slice aa k cap).ownBlock→(v'.ownBlock=(Value.slice aa k cap).ownBlock∨v'.ownBlock=some W.heap.size)→FIN w' v'))
 (Q:Exit→Act→World→Prop) (a0:Act) (hsz:a0.tmps.size=36)
 (ha1:a0.eval (.tmp 1)=.slice (some ⟨b1,o1,none⟩) L cap1) (ha2:a0.eval (.tmp 2)=.slice (some ⟨b2,o2,none⟩) L cap2) (ha3:a0.eval (.tmp 3)=.pointer (some ⟨sb,0,none⟩)) (ha7:a0.eval (.tmp 7)=.slice aa k cap) (ha8:a0.eval (.tmp 8)=.int .i64 k) (ha9:a0.eval (.tmp 9)=.int .i64 p)
 (HK:Hid (∀(us:Nat→Value) W,FIN W (us 16)→Q .normal (putAll a0 ((List.range 17).map fun i=>(slotRgM i,us i))) W)) :
 Code.wp Tryz.prog ((Tryz.f79.body.bind (regionAtmul 5)).getD .skip) Q a0 w0:=by
 conv=>arg 2;whnf
 obtain ⟨i0,ii,iz0,iz1,iz2⟩:=info_parts Tryz.infoInt
 obtain ⟨j0,ji,jz0,jz1,jz2⟩:=info_parts Tryz.infoInts
 have hsb:=block_lt_of_cell cN
 have hb1:=block_lt_of_cell c1
 have hb2:=block_lt_of_cell c2
 have un:=slotRgM_no
 refine wp_region_turn 15 rfl rfl rfl (by kernel_rfl) (by kernel_rfl) (by kernel_rfl) (by kernel_rfl) (by kernel_rfl) slotRgM (fun i hi=>by rw [hsz];exact slotRgM_lt i hi) (fun i j hi hj=>slotRgM_inj i hi j hj) (qRgM sb b1 o1 b2 o2 L cap1 cap2 k aa cap p N x1 x2 n1 y1 n2 y2 zs w0.heap.size) (qRgM_old sb b1 o1 b2 o2 L cap1 cap2 k aa cap p N x1 x2 n1 y1 n2 y2 zs w0.heap.size) FIN ?_ ?_ ?_ ?_
 ·refine ⟨?_,?_,?_,?_,?_,?_,?_,?_,?_,?_,?_,?_,?_,?_,?_,trivial⟩
  ·intro a W g hF hd
   have e1:=(hF.same 1 (un 1 (by decide))).trans ha1
   have e2:=(hF.same 2 (un 2 (by decide))).trans ha2
   have e3:=(hF.same 3 (un 3 (by decide))).trans ha3
   have e7:=(hF.same 7 (un 7 (by decide))).trans ha7
   have e8:=(hF.same 8 (un 8 (by decide))).trans ha8
   have e9:=(hF.same 9 (un 9 (by decide))).trans ha9
   obtain ⟨ρ,hρ⟩:∃ρ,a.eval=ρ:=⟨_,rfl⟩
   rw [hρ] at e1 e2 e3 e7 e8 e9
   refine op_val ρ hρ (.slice aa k cap) ?_ ⟨_,rfl,Old.refl _,rfl⟩
   clear g hF hd hρ HK un ha1 ha2 ha3 ha7 ha8 ha9 cN c1 c2 KF HEM
   go_simp
   all_goals (rw [IntKind.wrap_i64];omega)
  ·intro a W g hF hd
   have e1:=(hF.same 1 (un 1 (by decide))).trans ha1
   have e2:=(hF.same 2 (un 2 (by decide))).trans ha2
   have e3:=(hF.same 3 (un 3 (by decide))).trans ha3
   have e7:=(hF.same 7 (un 7 (by decide))).trans ha7
   have e8:=(hF.same 8 (un 8 (by decide))).trans ha8
   have e9:=(hF.same 9 (un 9 (by decide))).trans ha9
   obtain ⟨ρ,hρ⟩:∃ρ,a.eval=ρ:=⟨_,rfl⟩
   rw [hρ] at e1 e2 e3 e7 e8 e9
   refine op_val ρ hρ (.int .i64 p) ?_ ⟨_,rfl,Old.refl _,rfl⟩
   clear g hF hd hρ HK un ha1 ha2 ha3 ha7 ha8 ha9 cN c1 c2 KF HEM
   go_simp
   all_goals (rw [IntKind.wrap_i64];omega)
  ·intro a W g hF hd
   have e1:=(hF.same 1 (un 1 (by decide))).trans ha1
   have e2:=(hF.same 2 (un 2 (by decide))).trans ha2
   have e3:=(hF.same 3 (un 3 (by decide))).trans ha3
   have e7:=(hF.same 7 (un 7 (by decide))).trans ha7
   have e8:=(hF.same 8 (un 8 (by decide))).trans ha8
   have e9:=(hF.same 9 (un 9 (by decide))).trans ha9
   obtain ⟨ρ,hρ⟩:∃ρ,a.eval=ρ:=⟨_,rfl⟩
   rw [hρ] at e1 e2 e3 e7 e8 e9
   refine op_val ρ hρ (.pointer (some ⟨sb,0,none⟩)) ?_ ⟨_,rfl,Old.refl _,rfl⟩
   clear g hF hd hρ HK un ha1 ha2 ha3 ha7 ha8 ha9 cN c1 c2 KF HEM
   go_simp
   all_goals (rw [IntKind.wrap_i64];omega)
  ·intro a W g hF hd
   have e1:=(hF.same 1 (un 1 (by decide))).trans ha1
   have e2:=(hF.same 2 (un 2 (by decide))).trans ha2
   have e3:=(hF.same 3 (un 3 (by decide))).trans ha3
   have e7:=(hF.same 7 (un 7 (by decide))).trans ha7
   have e8:=(hF.same 8 (un 8 (by decide))).trans ha8
   have e9:=(hF.same 9 (un 9 (by decide))).trans ha9
   have h2:=hd ⟨2,.data⟩ (by simp) rfl
   simp only [qRgM,slotRgM,List.getD_cons_zero,List.getD_cons_succ] at h2
   have kcN:=(g.cell (p:=⟨sb,0,none⟩) hsb).trans cN
   obtain ⟨ρ,hρ⟩:∃ρ,a.eval=ρ:=⟨_,rfl⟩
   rw [hρ] at h2 e1 e2 e3 e7 e8 e9
   refine op_val ρ hρ (.int .i64 N) ?_ ⟨_,rfl,Old.refl _,rfl⟩
   clear g hF hd hρ HK un ha1 ha2 ha3 ha7 ha8 ha9 cN c1 c2 KF HEM
   go_simp
   all_goals (rw [IntKind.wrap_i64];omega)
  ·intro a W g hF hd
   have e1:=(hF.same 1 (un 1 (by decide))).trans ha1
   have e2:=(hF.same 2 (un 2 (by decide))).trans ha2
   have e3:=(hF.same 3 (un 3 (by decide))).trans ha3
   have e7:=(hF.same 7 (un 7 (by decide))).trans ha7
   have e8:=(hF.same 8 (un 8 (by decide))).trans ha8
   have e9:=(hF.same 9 (un 9 (by decide))).trans ha9
   have h1:=hd ⟨1,.data⟩ (by simp) rfl
   have h3:=hd ⟨3,.data⟩ (by simp) rfl
   simp only [qRgM,slotRgM,List.getD_cons_zero,List.getD_cons_succ] at h1 h3
   obtain ⟨ρ,hρ⟩:∃ρ,a.eval=ρ:=⟨_,rfl⟩
   rw [hρ] at h1 h3 e1 e2 e3 e7 e8 e9
   refine op_val ρ hρ (.agg #[.int .i64 p,.int .i64 N,.int .i64 0]) ?_ ⟨_,rfl,Old.refl _,rfl⟩
   clear g hF hd hρ HK un ha1 ha2 ha3 ha7 ha8 ha9 cN c1 c2 KF HEM
   go_simp
   all_goals (rw [IntKind.wrap_i64];omega)
  ·intro a W g hF hd
   have e1:=(hF.same 1 (un 1 (by decide))).trans ha1
   have e2:=(hF.same 2 (un 2 (by decide))).trans ha2
   have e3:=(hF.same 3 (un 3 (by decide))).trans ha3
   have e7:=(hF.same 7 (un 7 (by decide))).trans ha7
   have e8:=(hF.same 8 (un 8 (by decide))).trans ha8
   have e9:=(hF.same 9 (un 9 (by decide))).trans ha9
   obtain ⟨ρ,hρ⟩:∃ρ,a.eval=ρ:=⟨_,rfl⟩
   rw [hρ] at e1 e2 e3 e7 e8 e9
   refine op_val ρ hρ (.slice (some ⟨b1,o1,none⟩) L cap1) ?_ ⟨_,rfl,Old.refl _,rfl⟩
   clear g hF hd hρ HK un ha1 ha2 ha3 ha7 ha8 ha9 cN c1 c2 KF HEM
   go_simp
   all_goals (rw [IntKind.wrap_i64];omega)
  ·intro a W g hF hd
   have e1:=(hF.same 1 (un 1 (by decide))).trans ha1
   have e2:=(hF.same 2 (un 2 (by decide))).trans ha2
   have e3:=(hF.same 3 (un 3 (by decide))).trans ha3
   have e7:=(hF.same 7 (un 7 (by decide))).trans ha7
   have e8:=(hF.same 8 (un 8 (by decide))).trans ha8
   have e9:=(hF.same 9 (un 9 (by decide))).trans ha9
   obtain ⟨ρ,hρ⟩:∃ρ,a.eval=ρ:=⟨_,rfl⟩
   rw [hρ] at e1 e2 e3 e7 e8 e9
   refine op_val ρ hρ (.int .i64 k) ?_ ⟨_,rfl,Old.refl _,rfl⟩
   clear g hF hd hρ HK un ha1 ha2 ha3 ha7 ha8 ha9 cN c1 c2 KF HEM
   go_simp
   all_goals (rw [IntKind.wrap_i64];omega)
  ·intro a W g hF hd
   have e1:=(hF.same 1 (un 1 (by decide))).trans ha1
   have e2:=(hF.same 2 (un 2 (by decide))).trans ha2
   have e3:=(hF.same 3 (un 3 (by decide))).trans ha3
   have e7:=(hF.same 7 (un 7 (by decide))).trans ha7
   have e8:=(hF.same 8 (un 8 (by decide))).trans ha8
   have e9:=(hF.same 9 (un 9 (by decide))).trans ha9
   have h5:=hd ⟨5,.data⟩ (by simp) rfl
   have h6:=hd ⟨6,.data⟩ (by simp) rfl
   simp only [qRgM,slotRgM,List.getD_cons_zero,List.getD_cons_succ] at h5 h6
   obtain ⟨ρ,hρ⟩:∃ρ,a.eval=ρ:=⟨_,rfl⟩
   rw [hρ] at h5 h6 e1 e2 e3 e7 e8 e9
   refine op_val ρ hρ (.pointer (some ⟨b1,o1+k,none⟩)) ?_ ⟨_,rfl,Old.refl _,rfl⟩
   clear g hF hd hρ HK un ha1 ha2 ha3 ha7 ha8 ha9 cN c1 c2 KF HEM
   go_simp
   all_goals (rw [IntKind.wrap_i64];omega)
  ·intro a W g hF hd
   have e1:=(hF.same 1 (un 1 (by decide))).trans ha1
   have e2:=(hF.same 2 (un 2 (by decide))).trans ha2
   have e3:=(hF.same 3 (un 3 (by decide))).trans ha3
   have e7:=(hF.same 7 (un 7 (by decide))).trans ha7
   have e8:=(hF.same 8 (un 8 (by decide))).trans ha8
   have e9:=(hF.same 9 (un 9 (by decide))).trans ha9
   have h7:=hd ⟨7,.data⟩ (by simp) rfl
   simp only [qRgM,slotRgM,List.getD_cons_zero,List.getD_cons_succ] at h7
   have kc1:=(g.cell (p:=⟨b1,o1+k,none⟩) hb1).trans c1
   obtain ⟨ρ,hρ⟩:∃ρ,a.eval=ρ:=⟨_,rfl⟩
   rw [hρ] at h7 e1 e2 e3 e7 e8 e9
   refine op_val ρ hρ (.slice x1 n1 y1) ?_ ⟨_,rfl,Old.refl _,rfl⟩
   clear g hF hd hρ HK un ha1 ha2 ha3 ha7 ha8 ha9 cN c1 c2 KF HEM
   go_simp
   all_goals (rw [IntKind.wrap_i64];omega)
  ·intro a W g hF hd
   have e1:=(hF.same 1 (un 1 (by decide))).trans ha1
   have e2:=(hF.same 2 (un 2 (by decide))).trans ha2
   have e3:=(hF.same 3 (un 3 (by decide))).trans ha3
   have e7:=(hF.same 7 (un 7 (by decide))).trans ha7
   have e8:=(hF.same 8 (un 8 (by decide))).trans ha8
   have e9:=(hF.same 9 (un 9 (by decide))).trans ha9
   obtain ⟨ρ,hρ⟩:∃ρ,a.eval=ρ:=⟨_,rfl⟩
   rw [hρ] at e1 e2 e3 e7 e8 e9
   refine op_val ρ hρ (.slice (some ⟨b2,o2,none⟩) L cap2) ?_ ⟨_,rfl,Old.refl _,rfl⟩
   clear g hF hd hρ HK un ha1 ha2 ha3 ha7 ha8 ha9 cN c1 c2 KF HEM
   go_simp
   all_goals (rw [IntKind.wrap_i64];omega)
  ·intro a W g hF hd
   have e1:=(hF.same 1 (un 1 (by decide))).trans ha1
   have e2:=(hF.same 2 (un 2 (by decide))).trans ha2
   have e3:=(hF.same 3 (un 3 (by decide))).trans ha3
   have e7:=(hF.same 7 (un 7 (by decide))).trans ha7
   have e8:=(hF.same 8 (un 8 (by decide))).trans ha8
   have e9:=(hF.same 9 (un 9 (by decide))).trans ha9
   obtain ⟨ρ,hρ⟩:∃ρ,a.eval=ρ:=⟨_,rfl⟩
   rw [hρ] at e1 e2 e3 e7 e8 e9
   refine op_val ρ hρ (.int .i64 k) ?_ ⟨_,rfl,Old.refl _,rfl⟩
   clear g hF hd hρ HK un ha1 ha2 ha3 ha7 ha8 ha9 cN c1 c2 KF HEM
   go_simp
   all_goals (rw [IntKind.wrap_i64];omega)
  ·intro a W g hF hd
   have e1:=(hF.same 1 (un 1 (by decide))).trans ha1
   have e2:=(hF.same 2 (un 2 (by decide))).trans ha2
   have e3:=(hF.same 3 (un 3 (by decide))).trans ha3
   have e7:=(hF.same 7 (un 7 (by decide))).trans ha7
   have e8:=(hF.same 8 (un 8 (by decide))).trans ha8
   have e9:=(hF.same 9 (un 9 (by decide))).trans ha9
   have h9:=hd ⟨9,.data⟩ (by simp) rfl
   have h10:=hd ⟨10,.data⟩ (by simp) rfl
   simp only [qRgM,slotRgM,List.getD_cons_zero,List.getD_cons_succ] at h9 h10
   obtain ⟨ρ,hρ⟩:∃ρ,a.eval=ρ:=⟨_,rfl⟩
   rw [hρ] at h9 h10 e1 e2 e3 e7 e8 e9
   refine op_val ρ hρ (.pointer (some ⟨b2,o2+k,none⟩)) ?_ ⟨_,rfl,Old.refl _,rfl⟩
   clear g hF hd hρ HK un ha1 ha2 ha3 ha7 ha8 ha9 cN c1 c2 KF HEM
   go_simp
   all_goals (rw [IntKind.wrap_i64];omega)
  ·intro a W g hF hd
   have e1:=(hF.same 1 (un 1 (by decide))).trans ha1
   have e2:=(hF.same 2 (un 2 (by decide))).trans ha2
   have e3:=(hF.same 3 (un 3 (by decide))).trans ha3
   have e7:=(hF.same 7 (un 7 (by decide))).trans ha7
   have e8:=(hF.same 8 (un 8 (by decide))).trans ha8
   have e9:=(hF.same 9 (un 9 (by decide))).trans ha9
   have h11:=hd ⟨11,.data⟩ (by simp) rfl
   simp only [qRgM,slotRgM,List.getD_cons_zero,List.getD_cons_succ] at h11
   have kc2:=(g.cell (p:=⟨b2,o2+k,none⟩) hb2).trans c2
   obtain ⟨ρ,hρ⟩:∃ρ,a.eval=ρ:=⟨_,rfl⟩
   rw [hρ] at h11 e1 e2 e3 e7 e8 e9
   refine op_val ρ hρ (.slice x2 n2 y2) ?_ ⟨_,rfl,Old.refl _,rfl⟩
   clear g hF hd hρ HK un ha1 ha2 ha3 ha7 ha8 ha9 cN c1 c2 KF HEM
   go_simp
   all_goals (rw [IntKind.wrap_i64];omega)
  ·intro a W g hF hd
   have h4:a.eval (.tmp 22)=.agg #[.int .i64 p,.int .i64 N,.int .i64 0]:=hd ⟨4,.data⟩ (by simp) rfl
   have h8:a.eval (.tmp 26)=.slice x1 n1 y1:=hd ⟨8,.data⟩ (by simp) rfl
   have h12:a.eval (.tmp 30)=.slice x2 n2 y2:=hd ⟨12,.data⟩ (by simp) rfl
   refine op_call_ret Tryz.call105 (vs:=#[.agg #[.int .i64 p,.int .i64 N,.int .i64 0],.slice x1 n1 y1,.slice x2 n2 y2]) (by simp [h4,h8,h12]) (KF W g) ?_
   rintro x w' ⟨g',o'⟩
   obtain ⟨ra,rc,e,hc⟩:=own_fit o'
   subst e
   exact ⟨_,rfl,g',ra,rc,rfl,hc,o'.low g.size⟩
  ·intro a W g hF hd
   obtain ⟨ra,rc,h7,hc,ow⟩:∃ra rc,a.eval (.tmp 31)=.slice ra zs.length rc∧zs.length≤rc∧Own W w0.heap.size (a.eval (.tmp 31)) zs:=hd ⟨13,.data⟩ (by simp) rfl
   rw [h7] at ow
   obtain ⟨ρ,hρ⟩:∃ρ,a.eval=ρ:=⟨_,rfl⟩
   rw [hρ] at h7
   refine op_valW (W':=W.alloc (.cells #[.slice ra zs.length rc] 22)) ρ hρ (.slice (some ⟨W.heap.size,0,none⟩) 1 1) ?_ ⟨_,rfl,(Old.refl W).alloc _,ra,rc,W.heap.size,rfl,hc,ow.alloc _,cell_at _ _ _ _ _ rfl,by simp⟩
   clear g hF hd hρ HK un ha1 ha2 ha3 ha7 ha8 ha9 cN c1 c2 KF HEM ow hc
   go_simp
 ·intro a W g hF hq
  have h0:a.eval (.tmp 18)=.slice aa k cap:=hq 0 (by decide)
  obtain ⟨ra,rc,gg,h8,hc,ow,hcell,hlt⟩:∃ra rc gg,a.eval (.tmp 32)=.slice (some ⟨gg,0,none⟩) 1 1∧zs.length≤rc∧Own W w0.heap.size (.slice ra zs.length rc) zs∧W.cell? ⟨gg,0,none⟩=some (.slice ra zs.length rc)∧gg<W.heap.size:=hq 14 (by decide)
  obtain ⟨vs,ov,hem⟩:=HEM W ra rc g ow hc
  refine op_append_at _ _ 69 rfl base 22 j0 (.slice none 0 0) 1 24 Tryz.underlying69 ji jz0 jz1 jz2 rfl (by decide) _ k vs h0 ov ⟨gg,0,none⟩ 1 1 [.slice ra zs.length rc] h8 rfl ?_ (one_sl _ _ _) (by unfold maxLen;omega) (by omega) (Nat.le_trans hbase g.size) ?_
  ·intro j u hj
   match j,hj with
   | 0,hj=>
     have:Value.slice ra zs.length rc=u:=by simpa using hj
     subst this
     exact hcell
   | j+1,hj=>simp at hj
  ·intro v' w' o5 g5 x5 l5
   exact ⟨v',rfl,hem v' w' o5 g5 l5⟩
 ·intro a W v hv
  exact op_assign (by rw [show a.eval (.tmp 33)=v from hv];exact ⟨rfl,rfl⟩)
 ·intro a W hF hq
  have hp:=fram_put hF (fun i j hi hj=>slotRgM_inj i hi j hj)
  have hk:=HK.out (fun i=>a.eval (.tmp (slotRgM i))) W hq
  rw [← hp] at hk
  exact hk
end Go.Proofs.YtanijpekdnkicaaGreatDoor
namespace Go.Proofs.YtanijpekdnkicaaGreatDoor
open Go.ChangeShapes Go.WideShapes Go.ChangeAt Go.RowKit
open M1
set_option linter.unusedVariables false
set_option linter.unusedSimpArgs false
set_option maxRecDepth 100000 in
set_option maxHeartbeats 8000000 in
theorem spec_l5Mul (N:Int) (ps:List Int) (xss yss zss:List (List Int)) (v u1 u2:Value) (w:World) (hv:Row w v ps) (h1:RowS w u1 xss) (h2:RowS w u2 yss) (hps:1≤ps.length∧ps.length≤6) (hx:xss.length=ps.length) (hy:yss.length=ps.length) (hzl:zss.length=ps.length)
 (KF:∀k,k<ps.length→∀W u t,Row W u (xss.getD k [])→Row W t (yss.getD k [])→Calls Tryz.prog 105 #[.agg #[.int .i64 (ps.getD k 0),.int .i64 N,.int .i64 0],u,t] W fun e w'=>∃v',e=.returned v'∧Old W w'∧Own w' W.heap.size v' (zss.getD k [])) :
 Calls Tryz.prog 79 #[.agg #[.int .i64 N,v],u1,u2] w fun e w'=>∃v',e=.returned v'∧Old w w'∧OwS zss w' w.heap.size w'.heap.size v':=by
 have HKF:Hid (∀k,k<ps.length→∀W u t,Row W u (xss.getD k [])→Row W t (yss.getD k [])→Calls Tryz.prog 105 #[.agg #[.int .i64 (ps.getD k 0),.int .i64 N,.int .i64 0],u,t] W fun e w'=>∃v',e=.returned v'∧Old W w'∧Own w' W.heap.size v' (zss.getD k [])):=KF
 clear KF
 obtain ⟨a0,cap0,ev⟩:=hv.slice
 obtain ⟨a1,cap1,e1⟩:=h1.slice
 obtain ⟨a2,cap2,e2⟩:=h2.slice
 rw [hx] at e1
 rw [hy] at e2
 subst ev e1 e2
 rcases hv with ⟨a,cap,e,e'⟩ | ⟨b,o,cap,e,hb,h0,hc⟩
 ·subst e'
  simp at hps
 rcases h1 with ⟨a,cap,e,e'⟩ | ⟨b1,o1,cap,us1,e_1,hb1,h01,hc1⟩
 ·subst e'
  simp at hx
  omega
 rcases h2 with ⟨a,cap,e,e'⟩ | ⟨b2,o2,cap,us2,e_2,hb2,h02,hc2⟩
 ·subst e'
  simp at hy
  omega
 simp only [Value.slice.injEq,true_and] at e e_1 e_2
 obtain ⟨rfl,rfl⟩:=e
 obtain ⟨rfl,hq1,rfl⟩:=e_1
 obtain ⟨rfl,hq2,rfl⟩:=e_2
 have HC:Hid (∀j,j<ps.length→w.cell? ⟨b,o+j,none⟩=some (.int .i64 (ps.getD j 0))):=hc
 have HC1:Hid (∀j,j<ps.length→w.cell? ⟨b1,o1+j,none⟩=some (us1 j)∧Row w (us1 j) (xss.getD j [])):=fun j hj=>hc1 j (by omega)
 have HC2:Hid (∀j,j<ps.length→w.cell? ⟨b2,o2+j,none⟩=some (us2 j)∧Row w (us2 j) (yss.getD j [])):=fun j hj=>hc2 j (by omega)
 have HZ:Hid (∀k,k<ps.length→zss.take (k+1)=zss.take k++[zss.getD k []]):=fun k hk=>take_succL _ _ (by omega)
 have HZL:Hid (zss.length=ps.length):=hzl
 obtain ⟨wB,hwB⟩:∃wB,wB=w.alloc (.cells #[.int .i64 N,.slice (some ⟨b,o,none⟩) ps.length cap0] 104):=⟨_,rfl⟩
 have HAO:Hid (Old w wB):=by rw [hwB];exact (Old.refl w).alloc _
 have hq0:wB.cell? ⟨w.heap.size,0,none⟩=some (.int .i64 N):=by rw [hwB];exact cell_at _ _ _ _ _ rfl
 have hq1':wB.cell? ⟨w.heap.size,1,none⟩=some (.slice (some ⟨b,o,none⟩) ps.length cap0):=by rw [hwB];exact cell_at _ _ _ _ _ rfl
 have hqs:w.heap.size<wB.heap.size:=by rw [hwB];simp
 clear hc hc1 hc2 hzl hq1 hq2 h0 h01 h02 hx hy
 go_enter Tryz.func79,Tryz.ntmps79
 go_wp2_with fail
 rw [← hwB]
 clear hwB
 go_loopw [7,13] (fun x i W=>∃(k:Nat) (a:Option Addr) (cap:Nat),k≤ps.length∧i=.int .i64 k∧x=.slice a k cap∧Hid (OwS (zss.take k) W wB.heap.size W.heap.size (.slice a k cap))∧Hid (Old wB W)) (fun _ i _=>ps.length - (intOf i).toNat)
 case atStart=>exact ⟨0,none,0,by omega,rfl,rfl,⟨Nat.le_refl _,Or.inl ⟨rfl,by simp⟩⟩,Old.refl _⟩
 case round=>
  obtain ⟨k,a,cap,hk,rfl,rfl,HO,HG⟩:=hrel
  have hsr:=HG.out.size
  by_cases hlt:k<ps.length
  ·have d1:decide ((k:Int)<(ps.length:Int))=true:=by simp;omega
   have hkL:(k:Int)<(ps.length:Int):=by omega
   have HGW:Hid (Old w wr):=Old.trans HAO.out HG.out
   have c0:wr.cell? ⟨b,o+k,none⟩=some (.int .i64 (ps.getD k 0)):=(HGW.out.cell (p:=⟨b,o+k,none⟩) hb).trans (HC.out k hlt)
   obtain ⟨p1,p2⟩:=HC1.out k hlt
   obtain ⟨xa,ya,f1⟩:=p2.slice
   rw [f1] at p1 p2
   obtain ⟨p3,p4⟩:=HC2.out k hlt
   obtain ⟨xb,yb,f2⟩:=p4.slice
   rw [f2] at p3 p4
   have c1:wr.cell? ⟨b1,o1+k,none⟩=some (.slice xa (xss.getD k []).length ya):=(HGW.out.cell (p:=⟨b1,o1+k,none⟩) hb1).trans p1
   have c2:wr.cell? ⟨b2,o2+k,none⟩=some (.slice xb (yss.getD k []).length yb):=(HGW.out.cell (p:=⟨b2,o2+k,none⟩) hb2).trans p3
   have R1:Hid (Row wr (.slice xa (xss.getD k []).length ya) (xss.getD k [])):=p2.old HGW.out
   have R2:Hid (Row wr (.slice xb (yss.getD k []).length yb) (yss.getD k [])):=p4.old HGW.out
   have n0:=(HG.out.cell (p:=⟨w.heap.size,0,none⟩) hqs).trans hq0
   have HZK:Hid (zss.take (k+1)=zss.take k++[zss.getD k []]):=HZ.out k hlt
   have KFk:=HKF.out k hlt
   clear p1 p2 p3 p4 f1 f2
   generalize zss.getD k []=zs at *
   generalize xss.getD k []=xs at *
   generalize yss.getD k []=ys at *
   generalize ps.getD k 0=p at *
   have HEMB:Hid (∀(W:World) (ra:Option Addr) (rc:Nat),Old wr W→Own W wr.heap.size (.slice ra zs.length rc) zs→zs.length≤rc→∃vs,W.ownsRow wB.heap.size 22 1 (.slice a k cap) k vs∧(∀v' w',w'.ownsRow wB.heap.size 22 1 v' (k+1) (vs++[.slice ra zs.length rc])→W.grownBy w' (Value.slice a k cap).ownBlock→(v'.ownBlock=(Value.slice a k cap).ownBlock∨v'.ownBlock=some W.heap.size)→OwS (zss.take (k+1)) w' wB.heap.size w'.heap.size v'∧Below (wB.heap.size) wr w')):=fun W ra rc g o hc=>by
    have hl:(zss.take k).length=k:=by rw [List.length_take];have:=HZL.out;omega
    have:=OwS.app HO.out hsr g o hc
    rw [hl] at this
    rw [HZK.out]
    obtain ⟨vs,t1,t2⟩:=this
    refine ⟨vs,t1,fun v' w' q1 q2 q3=>⟨t2 v' w' q1 q2 q3,?_⟩⟩
    refine Below.grown (g.mono hsr) q2 (Nat.le_trans hsr g.size) (fun p hp=>?_)
    obtain ⟨hh,⟨e,e2⟩ | ⟨p',cap',vs,e,hcap,hl,hhi,_⟩⟩:=HO.out
    ·rw [e] at hp
     cases hp
    ·rw [e] at hp
     simp only [Value.ownBlock,Option.some.injEq] at hp
     omega
   go_wp2_with fail
   refine reg_RgM wr w.heap.size b1 o1 b2 o2 ps.length cap1 cap2 k a cap p N xa xb xs.length ya ys.length yb zs wB.heap.size hsr (fun W v=>OwS (zss.take (k+1)) W wB.heap.size W.heap.size v∧Old wB W) n0 c1 c2 hlt (by omega) (by omega) hkL (fun W g=>KFk W _ _ (R1.out.old g) (R2.out.old g)) (fun W ra rc g o hc=>by
    obtain ⟨vs,t1,t2⟩:=HEMB.out W ra rc g o hc
    exact ⟨vs,t1,fun v' w' q1 q2 q3=>⟨(t2 v' w' q1 q2 q3).1,Below.trans HG.out (t2 v' w' q1 q2 q3).2⟩⟩) _ _ ?_ ?_ ?_ ?_ ?_ ?_ ?_ ?_
   iterate 7 (·exact rfl)
   intro us W' hfin
   obtain ⟨O5,G5⟩:=hfin
   have HO5:Hid (OwS (zss.take (k+1)) W' wB.heap.size W'.heap.size (us 16)):=O5
   have HG5:Hid (Old wB W'):=G5
   clear O5 G5 c0 c1 c2 n0 KFk HEMB
   simp only [putAll,Act.put,slotRgM,List.range,List.range.loop,List.map_cons,List.map_nil,List.getD_cons_zero,List.getD_cons_succ,List.setIfInBounds_toArray,List.set_cons_succ,List.set_cons_zero]
   have hl1:(zss.take (k+1)).length=k+1:=by rw [List.length_take];have:=HZL.out;omega
   obtain ⟨a5,cap5,e5⟩:=HO5.out.slice
   rw [hl1] at e5
   rw [e5] at HO5
   generalize us 16=u10 at *
   subst e5
   go_wp2_with fail
   exact ⟨⟨k+1,_,_,by omega,by go_num,rfl,HO5,HG5⟩,by simp [intOf];omega⟩
  ·have d1:decide ((k:Int)<(ps.length:Int))=false:=by simp;omega
   obtain rfl:k=ps.length:=by omega
   have HF:Hid (OwS zss wr wB.heap.size wr.heap.size (.slice a ps.length cap)):=by
    have:=HO.out
    rw [List.take_of_length_le (by have:=HZL.out;omega)] at this
    exact this
   go_wp2_with fail
   go_ret
   exact ⟨_,rfl,Old.trans HAO.out HG.out,HF.out.low HAO.out.size⟩
end Go.Proofs.YtanijpekdnkicaaGreatDoor
namespace Go.Proofs.YtanijpekdnkicaaGreatDoor
open Go.ChangeShapes Go.WideShapes Go.ChangeAt Go.RowKit
set_option linter.unusedVariables false
set_option linter.unusedSimpArgs false
def slotRgT (i:Nat):Nat:=[18,19,20,21,22,23,24,25,26,27,28,29,7].getD i 0
theorem slotRgT_lt:∀i,i<13→slotRgT i<32:=by decide
theorem slotRgT_inj:∀i,i<13→∀j,j<13→slotRgT i=slotRgT j→i=j:=by decide
theorem slotRgT_no:∀s,s<18→∀i,i<12→slotRgT i≠s:=by decide
def qRgT (sb b1 o1 L cap1 k:Nat) (aa:Option Addr) (cap:Nat) (p N t:Int) (x1:Option Addr) (n1 y1:Nat) (zs:List Int) (base:Nat) (i:Nat) (W:World) (xv:Value):Prop:=
 match i with
 | 0=>xv=.slice aa k cap
 | 1=>xv=.int .i64 p
 | 2=>xv=.pointer (some ⟨sb,0,none⟩)
 | 3=>xv=.int .i64 N
 | 4=>xv=.slice (some ⟨b1,o1,none⟩) L cap1
 | 5=>xv=.int .i64 k
 | 6=>xv=.pointer (some ⟨b1,o1+k,none⟩)
 | 7=>xv=.slice x1 n1 y1
 | 8=>xv=.int .i64 t
 | 9=>∃ra rc,xv=.slice ra zs.length rc∧zs.length≤rc∧Own W base xv zs
 | 10=>∃ra rc g,xv=.slice (some ⟨g,0,none⟩) 1 1∧zs.length≤rc∧Own W base (.slice ra zs.length rc) zs∧W.cell? ⟨g,0,none⟩=some (.slice ra zs.length rc)∧g<W.heap.size
 | _=>True
theorem qRgT_old (sb b1 o1 L cap1 k:Nat) (aa:Option Addr) (cap:Nat) (p N t:Int) (x1:Option Addr) (n1 y1:Nat) (zs:List Int) (base:Nat) (i:Nat) (W W':World) (xv:Value) (h:qRgT sb b1 o1 L cap1 k aa cap p N t x1 n1 y1 zs base i W xv) (qo:Old W W'):qRgT sb b1 o1 L cap1 k aa cap p N t x1 n1 y1 zs base i W' xv:=by
 unfold qRgT at h ⊢
 split at h
 case h_10=>
  obtain ⟨ra,rc,e,hc,ow⟩:=h
  exact ⟨ra,rc,e,hc,ow.old qo⟩
 case h_11=>
  obtain ⟨ra,rc,g,e,hc,ow,hcell,hlt⟩:=h
  exact ⟨ra,rc,g,e,hc,ow.old qo,(qo.cell (p:=⟨g,0,none⟩) hlt).trans hcell,Nat.lt_of_lt_of_le hlt qo.size⟩
 all_goals first | exact h | trivial
set_option maxRecDepth 100000 in
set_option maxHeartbeats 4000000 in
theorem reg_RgT (w0:World) (sb b1 o1 L cap1 k:Nat) (aa:Option Addr) (cap:Nat) (p N t:Int) (x1:Option Addr) (n1 y1:Nat) (zs:List Int) (base:Nat) (hbase:base≤w0.heap.size) (FIN:World→Value→Prop)
 (cN:w0.cell? ⟨sb,0,none⟩=some (.int .i64 N)) (c1:w0.cell? ⟨b1,o1+k,none⟩=some (.slice x1 n1 y1))
 (hk:k<L) (hk6:k≤6) (hL:L≤1048576) (hkL:(k:Int)<(L:Int))
 (KF:∀W,Old w0 W→Calls Tryz.prog 92 #[.int .i64 p,.int .i64 N,.slice x1 n1 y1,.int .i64 t] W fun e w'=>∃v',e=.returned v'∧Old W w'∧Own w' W.heap.size v' zs)
 (HEM:∀(W:World) (ra:Option Addr) (rc:Nat),Old w0 W→Own W w0.heap.size (.slice ra zs.length rc) zs→zs.length≤rc→∃vs,W.ownsRow base 22 1 (.slice aa k cap) k vs∧(∀v' w',w'.ownsRow base 22 1 v' (k+1) (vs++[.slice ra zs.length rc])→W.grownBy w' (Value.slice aa k cap).ownBlock→(v'.ownBlock=(Value.slice aa k cap).ownBlock∨v'.ownBlock=some W.heap.size)→FIN w' v'))
 (Q:Exit→Act→World→Prop) (a0:Act) (hsz:a0.tmps.size=32)
 (ha1:a0.eval (.tmp 1)=.slice (some ⟨b1,o1,none⟩) L cap1) (ha2:a0.eval (.tmp 2)=.int .i64 t) (ha3:a0.eval (.tmp 3)=.pointer (some ⟨sb,0,none⟩)) (ha7:a0.eval (.tmp 7)=.slice aa k cap) (ha8:a0.eval (.tmp 8)=.int .i64 k) (ha9:a0.eval (.tmp 9)=.int .i64 p)
 (HK:Hid (∀(us:Nat→Value) W,FIN W (us 12)→Q .normal (putAll a0 ((List.range 13).map fun i=>(slotRgT i,us i))) W)) :
 Code.wp Tryz.prog ((Tryz.f56.body.bind (regionAtmul 5)).getD .skip) Q a0 w0:=by
 conv=>arg 2;whnf
 obtain ⟨i0,ii,iz0,iz1,iz2⟩:=info_parts Tryz.infoInt
 obtain ⟨j0,ji,jz0,jz1,jz2⟩:=info_parts Tryz.infoInts
 have hsb:=block_lt_of_cell cN
 have hb1:=block_lt_of_cell c1
 have un:=slotRgT_no
 refine wp_region_turn 11 rfl rfl rfl (by kernel_rfl) (by kernel_rfl) (by kernel_rfl) (by kernel_rfl) (by kernel_rfl) slotRgT (fun i hi=>by rw [hsz];exact slotRgT_lt i hi) (fun i j hi hj=>slotRgT_inj i hi j hj) (qRgT sb b1 o1 L cap1 k aa cap p N t x1 n1 y1 zs w0.heap.size) (qRgT_old sb b1 o1 L cap1 k aa cap p N t x1 n1 y1 zs w0.heap.size) FIN ?_ ?_ ?_ ?_
 ·refine ⟨?_,?_,?_,?_,?_,?_,?_,?_,?_,?_,?_,trivial⟩
  ·intro a W g hF hd
   have e1:=(hF.same 1 (un 1 (by decide))).trans ha1
   have e2:=(hF.same 2 (un 2 (by decide))).trans ha2
   have e3:=(hF.same 3 (un 3 (by decide))).trans ha3
   have e7:=(hF.same 7 (un 7 (by decide))).trans ha7
   have e8:=(hF.same 8 (un 8 (by decide))).trans ha8
   have e9:=(hF.same 9 (un 9 (by decide))).trans ha9
   obtain ⟨ρ,hρ⟩:∃ρ,a.eval=ρ:=⟨_,rfl⟩
   rw [hρ] at e1 e2 e3 e7 e8 e9
   refine op_val ρ hρ (.slice aa k cap) ?_ ⟨_,rfl,Old.refl _,rfl⟩
   clear g hF hd hρ HK un ha1 ha2 ha3 ha7 ha8 ha9 cN c1 KF HEM
   go_simp
   all_goals (rw [IntKind.wrap_i64];omega)
  ·intro a W g hF hd
   have e1:=(hF.same 1 (un 1 (by decide))).trans ha1
   have e2:=(hF.same 2 (un 2 (by decide))).trans ha2
   have e3:=(hF.same 3 (un 3 (by decide))).trans ha3
   have e7:=(hF.same 7 (un 7 (by decide))).trans ha7
   have e8:=(hF.same 8 (un 8 (by decide))).trans ha8
   have e9:=(hF.same 9 (un 9 (by decide))).trans ha9
   obtain ⟨ρ,hρ⟩:∃ρ,a.eval=ρ:=⟨_,rfl⟩
   rw [hρ] at e1 e2 e3 e7 e8 e9
   refine op_val ρ hρ (.int .i64 p) ?_ ⟨_,rfl,Old.refl _,rfl⟩
   clear g hF hd hρ HK un ha1 ha2 ha3 ha7 ha8 ha9 cN c1 KF HEM
   go_simp
   all_goals (rw [IntKind.wrap_i64];omega)
  ·intro a W g hF hd
   have e1:=(hF.same 1 (un 1 (by decide))).trans ha1
   have e2:=(hF.same 2 (un 2 (by decide))).trans ha2
   have e3:=(hF.same 3 (un 3 (by decide))).trans ha3
   have e7:=(hF.same 7 (un 7 (by decide))).trans ha7
   have e8:=(hF.same 8 (un 8 (by decide))).trans ha8
   have e9:=(hF.same 9 (un 9 (by decide))).trans ha9
   obtain ⟨ρ,hρ⟩:∃ρ,a.eval=ρ:=⟨_,rfl⟩
   rw [hρ] at e1 e2 e3 e7 e8 e9
   refine op_val ρ hρ (.pointer (some ⟨sb,0,none⟩)) ?_ ⟨_,rfl,Old.refl _,rfl⟩
   clear g hF hd hρ HK un ha1 ha2 ha3 ha7 ha8 ha9 cN c1 KF HEM
   go_simp
   all_goals (rw [IntKind.wrap_i64];omega)
  ·intro a W g hF hd
   have e1:=(hF.same 1 (un 1 (by decide))).trans ha1
   have e2:=(hF.same 2 (un 2 (by decide))).trans ha2
   have e3:=(hF.same 3 (un 3 (by decide))).trans ha3
   have e7:=(hF.same 7 (un 7 (by decide))).trans ha7
   have e8:=(hF.same 8 (un 8 (by decide))).trans ha8
   have e9:=(hF.same 9 (un 9 (by decide))).trans ha9
   have h2:=hd ⟨2,.data⟩ (by simp) rfl
   simp only [qRgT,slotRgT,List.getD_cons_zero,List.getD_cons_succ] at h2
   have kcN:=(g.cell (p:=⟨sb,0,none⟩) hsb).trans cN
   obtain ⟨ρ,hρ⟩:∃ρ,a.eval=ρ:=⟨_,rfl⟩
   rw [hρ] at h2 e1 e2 e3 e7 e8 e9
   refine op_val ρ hρ (.int .i64 N) ?_ ⟨_,rfl,Old.refl _,rfl⟩
   clear g hF hd hρ HK un ha1 ha2 ha3 ha7 ha8 ha9 cN c1 KF HEM
   go_simp
   all_goals (rw [IntKind.wrap_i64];omega)
  ·intro a W g hF hd
   have e1:=(hF.same 1 (un 1 (by decide))).trans ha1
   have e2:=(hF.same 2 (un 2 (by decide))).trans ha2
   have e3:=(hF.same 3 (un 3 (by decide))).trans ha3
   have e7:=(hF.same 7 (un 7 (by decide))).trans ha7
   have e8:=(hF.same 8 (un 8 (by decide))).trans ha8
   have e9:=(hF.same 9 (un 9 (by decide))).trans ha9
   obtain ⟨ρ,hρ⟩:∃ρ,a.eval=ρ:=⟨_,rfl⟩
   rw [hρ] at e1 e2 e3 e7 e8 e9
   refine op_val ρ hρ (.slice (some ⟨b1,o1,none⟩) L cap1) ?_ ⟨_,rfl,Old.refl _,rfl⟩
   clear g hF hd hρ HK un ha1 ha2 ha3 ha7 ha8 ha9 cN c1 KF HEM
   go_simp
   all_goals (rw [IntKind.wrap_i64];omega)
  ·intro a W g hF hd
   have e1:=(hF.same 1 (un 1 (by decide))).trans ha1
   have e2:=(hF.same 2 (un 2 (by decide))).trans ha2
   have e3:=(hF.same 3 (un 3 (by decide))).trans ha3
   have e7:=(hF.same 7 (un 7 (by decide))).trans ha7
   have e8:=(hF.same 8 (un 8 (by decide))).trans ha8
   have e9:=(hF.same 9 (un 9 (by decide))).trans ha9
   obtain ⟨ρ,hρ⟩:∃ρ,a.eval=ρ:=⟨_,rfl⟩
   rw [hρ] at e1 e2 e3 e7 e8 e9
   refine op_val ρ hρ (.int .i64 k) ?_ ⟨_,rfl,Old.refl _,rfl⟩
   clear g hF hd hρ HK un ha1 ha2 ha3 ha7 ha8 ha9 cN c1 KF HEM
   go_simp
   all_goals (rw [IntKind.wrap_i64];omega)
  ·intro a W g hF hd
   have e1:=(hF.same 1 (un 1 (by decide))).trans ha1
   have e2:=(hF.same 2 (un 2 (by decide))).trans ha2
   have e3:=(hF.same 3 (un 3 (by decide))).trans ha3
   have e7:=(hF.same 7 (un 7 (by decide))).trans ha7
   have e8:=(hF.same 8 (un 8 (by decide))).trans ha8
   have e9:=(hF.same 9 (un 9 (by decide))).trans ha9
   have h4:=hd ⟨4,.data⟩ (by simp) rfl
   have h5:=hd ⟨5,.data⟩ (by simp) rfl
   simp only [qRgT,slotRgT,List.getD_cons_zero,List.getD_cons_succ] at h4 h5
   obtain ⟨ρ,hρ⟩:∃ρ,a.eval=ρ:=⟨_,rfl⟩
   rw [hρ] at h4 h5 e1 e2 e3 e7 e8 e9
   refine op_val ρ hρ (.pointer (some ⟨b1,o1+k,none⟩)) ?_ ⟨_,rfl,Old.refl _,rfl⟩
   clear g hF hd hρ HK un ha1 ha2 ha3 ha7 ha8 ha9 cN c1 KF HEM
   go_simp
   all_goals (rw [IntKind.wrap_i64];omega)
  ·intro a W g hF hd
   have e1:=(hF.same 1 (un 1 (by decide))).trans ha1
   have e2:=(hF.same 2 (un 2 (by decide))).trans ha2
   have e3:=(hF.same 3 (un 3 (by decide))).trans ha3
   have e7:=(hF.same 7 (un 7 (by decide))).trans ha7
   have e8:=(hF.same 8 (un 8 (by decide))).trans ha8
   have e9:=(hF.same 9 (un 9 (by decide))).trans ha9
   have h6:=hd ⟨6,.data⟩ (by simp) rfl
   simp only [qRgT,slotRgT,List.getD_cons_zero,List.getD_cons_succ] at h6
   have kc1:=(g.cell (p:=⟨b1,o1+k,none⟩) hb1).trans c1
   obtain ⟨ρ,hρ⟩:∃ρ,a.eval=ρ:=⟨_,rfl⟩
   rw [hρ] at h6 e1 e2 e3 e7 e8 e9
   refine op_val ρ hρ (.slice x1 n1 y1) ?_ ⟨_,rfl,Old.refl _,rfl⟩
   clear g hF hd hρ HK un ha1 ha2 ha3 ha7 ha8 ha9 cN c1 KF HEM
   go_simp
   all_goals (rw [IntKind.wrap_i64];omega)
  ·intro a W g hF hd
   have e1:=(hF.same 1 (un 1 (by decide))).trans ha1
   have e2:=(hF.same 2 (un 2 (by decide))).trans ha2
   have e3:=(hF.same 3 (un 3 (by decide))).trans ha3
   have e7:=(hF.same 7 (un 7 (by decide))).trans ha7
   have e8:=(hF.same 8 (un 8 (by decide))).trans ha8
   have e9:=(hF.same 9 (un 9 (by decide))).trans ha9
   obtain ⟨ρ,hρ⟩:∃ρ,a.eval=ρ:=⟨_,rfl⟩
   rw [hρ] at e1 e2 e3 e7 e8 e9
   refine op_val ρ hρ (.int .i64 t) ?_ ⟨_,rfl,Old.refl _,rfl⟩
   clear g hF hd hρ HK un ha1 ha2 ha3 ha7 ha8 ha9 cN c1 KF HEM
   go_simp
   all_goals (rw [IntKind.wrap_i64];omega)
  ·intro a W g hF hd
   have h1:a.eval (.tmp 19)=.int .i64 p:=hd ⟨1,.data⟩ (by simp) rfl
   have h3:a.eval (.tmp 21)=.int .i64 N:=hd ⟨3,.data⟩ (by simp) rfl
   have h7:a.eval (.tmp 25)=.slice x1 n1 y1:=hd ⟨7,.data⟩ (by simp) rfl
   have h8:a.eval (.tmp 26)=.int .i64 t:=hd ⟨8,.data⟩ (by simp) rfl
   refine op_call_ret Tryz.call92 (vs:=#[.int .i64 p,.int .i64 N,.slice x1 n1 y1,.int .i64 t]) (by simp [h1,h3,h7,h8]) (KF W g) ?_
   rintro x w' ⟨g',o'⟩
   obtain ⟨ra,rc,e,hc⟩:=own_fit o'
   subst e
   exact ⟨_,rfl,g',ra,rc,rfl,hc,o'.low g.size⟩
  ·intro a W g hF hd
   obtain ⟨ra,rc,h7,hc,ow⟩:∃ra rc,a.eval (.tmp 27)=.slice ra zs.length rc∧zs.length≤rc∧Own W w0.heap.size (a.eval (.tmp 27)) zs:=hd ⟨9,.data⟩ (by simp) rfl
   rw [h7] at ow
   obtain ⟨ρ,hρ⟩:∃ρ,a.eval=ρ:=⟨_,rfl⟩
   rw [hρ] at h7
   refine op_valW (W':=W.alloc (.cells #[.slice ra zs.length rc] 22)) ρ hρ (.slice (some ⟨W.heap.size,0,none⟩) 1 1) ?_ ⟨_,rfl,(Old.refl W).alloc _,ra,rc,W.heap.size,rfl,hc,ow.alloc _,cell_at _ _ _ _ _ rfl,by simp⟩
   clear g hF hd hρ HK un ha1 ha2 ha3 ha7 ha8 ha9 cN c1 KF HEM ow hc
   go_simp
 ·intro a W g hF hq
  have h0:a.eval (.tmp 18)=.slice aa k cap:=hq 0 (by decide)
  obtain ⟨ra,rc,gg,h8,hc,ow,hcell,hlt⟩:∃ra rc gg,a.eval (.tmp 28)=.slice (some ⟨gg,0,none⟩) 1 1∧zs.length≤rc∧Own W w0.heap.size (.slice ra zs.length rc) zs∧W.cell? ⟨gg,0,none⟩=some (.slice ra zs.length rc)∧gg<W.heap.size:=hq 10 (by decide)
  obtain ⟨vs,ov,hem⟩:=HEM W ra rc g ow hc
  refine op_append_at _ _ 69 rfl base 22 j0 (.slice none 0 0) 1 24 Tryz.underlying69 ji jz0 jz1 jz2 rfl (by decide) _ k vs h0 ov ⟨gg,0,none⟩ 1 1 [.slice ra zs.length rc] h8 rfl ?_ (one_sl _ _ _) (by unfold maxLen;omega) (by omega) (Nat.le_trans hbase g.size) ?_
  ·intro j u hj
   match j,hj with
   | 0,hj=>
     have:Value.slice ra zs.length rc=u:=by simpa using hj
     subst this
     exact hcell
   | j+1,hj=>simp at hj
  ·intro v' w' o5 g5 x5 l5
   exact ⟨v',rfl,hem v' w' o5 g5 l5⟩
 ·intro a W v hv
  exact op_assign (by rw [show a.eval (.tmp 29)=v from hv];exact ⟨rfl,rfl⟩)
 ·intro a W hF hq
  have hp:=fram_put hF (fun i j hi hj=>slotRgT_inj i hi j hj)
  have hk:=HK.out (fun i=>a.eval (.tmp (slotRgT i))) W hq
  rw [← hp] at hk
  exact hk
end Go.Proofs.YtanijpekdnkicaaGreatDoor
namespace Go.Proofs.YtanijpekdnkicaaGreatDoor
open Go.ChangeShapes Go.WideShapes Go.ChangeAt Go.RowKit
open M1
set_option linter.unusedVariables false
set_option linter.unusedSimpArgs false
set_option maxRecDepth 100000 in
set_option maxHeartbeats 8000000 in
theorem spec_l5Turn (N t:Int) (ps:List Int) (xss zss:List (List Int)) (v u1:Value) (w:World) (hv:Row w v ps) (h1:RowS w u1 xss) (hps:1≤ps.length∧ps.length≤6) (hx:xss.length=ps.length) (hzl:zss.length=ps.length)
 (KF:∀k,k<ps.length→∀W u,Row W u (xss.getD k [])→Calls Tryz.prog 92 #[.int .i64 (ps.getD k 0),.int .i64 N,u,.int .i64 t] W fun e w'=>∃v',e=.returned v'∧Old W w'∧Own w' W.heap.size v' (zss.getD k [])) :
 Calls Tryz.prog 56 #[.agg #[.int .i64 N,v],u1,.int .i64 t] w fun e w'=>∃v',e=.returned v'∧Old w w'∧OwS zss w' w.heap.size w'.heap.size v':=by
 have HKF:Hid (∀k,k<ps.length→∀W u,Row W u (xss.getD k [])→Calls Tryz.prog 92 #[.int .i64 (ps.getD k 0),.int .i64 N,u,.int .i64 t] W fun e w'=>∃v',e=.returned v'∧Old W w'∧Own w' W.heap.size v' (zss.getD k [])):=KF
 clear KF
 obtain ⟨a0,cap0,ev⟩:=hv.slice
 obtain ⟨a1,cap1,e1⟩:=h1.slice
 rw [hx] at e1
 subst ev e1
 rcases hv with ⟨a,cap,e,e'⟩ | ⟨b,o,cap,e,hb,h0,hc⟩
 ·subst e'
  simp at hps
 rcases h1 with ⟨a,cap,e,e'⟩ | ⟨b1,o1,cap,us1,e_1,hb1,h01,hc1⟩
 ·subst e'
  simp at hx
  omega
 simp only [Value.slice.injEq,true_and] at e e_1
 obtain ⟨rfl,rfl⟩:=e
 obtain ⟨rfl,hq1,rfl⟩:=e_1
 have HC:Hid (∀j,j<ps.length→w.cell? ⟨b,o+j,none⟩=some (.int .i64 (ps.getD j 0))):=hc
 have HC1:Hid (∀j,j<ps.length→w.cell? ⟨b1,o1+j,none⟩=some (us1 j)∧Row w (us1 j) (xss.getD j [])):=fun j hj=>hc1 j (by omega)
 have HZ:Hid (∀k,k<ps.length→zss.take (k+1)=zss.take k++[zss.getD k []]):=fun k hk=>take_succL _ _ (by omega)
 have HZL:Hid (zss.length=ps.length):=hzl
 obtain ⟨wB,hwB⟩:∃wB,wB=w.alloc (.cells #[.int .i64 N,.slice (some ⟨b,o,none⟩) ps.length cap0] 104):=⟨_,rfl⟩
 have HAO:Hid (Old w wB):=by rw [hwB];exact (Old.refl w).alloc _
 have hq0:wB.cell? ⟨w.heap.size,0,none⟩=some (.int .i64 N):=by rw [hwB];exact cell_at _ _ _ _ _ rfl
 have hq1':wB.cell? ⟨w.heap.size,1,none⟩=some (.slice (some ⟨b,o,none⟩) ps.length cap0):=by rw [hwB];exact cell_at _ _ _ _ _ rfl
 have hqs:w.heap.size<wB.heap.size:=by rw [hwB];simp
 clear hc hc1 hzl hq1 h0 h01 hx
 go_enter Tryz.func56,Tryz.ntmps56
 go_wp2_with fail
 rw [← hwB]
 clear hwB
 go_loopw [7,13] (fun x i W=>∃(k:Nat) (a:Option Addr) (cap:Nat),k≤ps.length∧i=.int .i64 k∧x=.slice a k cap∧Hid (OwS (zss.take k) W wB.heap.size W.heap.size (.slice a k cap))∧Hid (Old wB W)) (fun _ i _=>ps.length - (intOf i).toNat)
 case atStart=>exact ⟨0,none,0,by omega,rfl,rfl,⟨Nat.le_refl _,Or.inl ⟨rfl,by simp⟩⟩,Old.refl _⟩
 case round=>
  obtain ⟨k,a,cap,hk,rfl,rfl,HO,HG⟩:=hrel
  have hsr:=HG.out.size
  by_cases hlt:k<ps.length
  ·have d1:decide ((k:Int)<(ps.length:Int))=true:=by simp;omega
   have hkL:(k:Int)<(ps.length:Int):=by omega
   have HGW:Hid (Old w wr):=Old.trans HAO.out HG.out
   have c0:wr.cell? ⟨b,o+k,none⟩=some (.int .i64 (ps.getD k 0)):=(HGW.out.cell (p:=⟨b,o+k,none⟩) hb).trans (HC.out k hlt)
   obtain ⟨p1,p2⟩:=HC1.out k hlt
   obtain ⟨xa,ya,f1⟩:=p2.slice
   rw [f1] at p1 p2
   have c1:wr.cell? ⟨b1,o1+k,none⟩=some (.slice xa (xss.getD k []).length ya):=(HGW.out.cell (p:=⟨b1,o1+k,none⟩) hb1).trans p1
   have R1:Hid (Row wr (.slice xa (xss.getD k []).length ya) (xss.getD k [])):=p2.old HGW.out
   have n0:=(HG.out.cell (p:=⟨w.heap.size,0,none⟩) hqs).trans hq0
   have HZK:Hid (zss.take (k+1)=zss.take k++[zss.getD k []]):=HZ.out k hlt
   have KFk:=HKF.out k hlt
   clear p1 p2 f1
   generalize zss.getD k []=zs at *
   generalize xss.getD k []=xs at *
   generalize ps.getD k 0=p at *
   have HEMB:Hid (∀(W:World) (ra:Option Addr) (rc:Nat),Old wr W→Own W wr.heap.size (.slice ra zs.length rc) zs→zs.length≤rc→∃vs,W.ownsRow wB.heap.size 22 1 (.slice a k cap) k vs∧(∀v' w',w'.ownsRow wB.heap.size 22 1 v' (k+1) (vs++[.slice ra zs.length rc])→W.grownBy w' (Value.slice a k cap).ownBlock→(v'.ownBlock=(Value.slice a k cap).ownBlock∨v'.ownBlock=some W.heap.size)→OwS (zss.take (k+1)) w' wB.heap.size w'.heap.size v'∧Below (wB.heap.size) wr w')):=fun W ra rc g o hc=>by
    have hl:(zss.take k).length=k:=by rw [List.length_take];have:=HZL.out;omega
    have:=OwS.app HO.out hsr g o hc
    rw [hl] at this
    rw [HZK.out]
    obtain ⟨vs,t1,t2⟩:=this
    refine ⟨vs,t1,fun v' w' q1 q2 q3=>⟨t2 v' w' q1 q2 q3,?_⟩⟩
    refine Below.grown (g.mono hsr) q2 (Nat.le_trans hsr g.size) (fun p hp=>?_)
    obtain ⟨hh,⟨e,e2⟩ | ⟨p',cap',vs,e,hcap,hl,hhi,_⟩⟩:=HO.out
    ·rw [e] at hp
     cases hp
    ·rw [e] at hp
     simp only [Value.ownBlock,Option.some.injEq] at hp
     omega
   go_wp2_with fail
   refine reg_RgT wr w.heap.size b1 o1 ps.length cap1 k a cap p N t xa xs.length ya zs wB.heap.size hsr (fun W v=>OwS (zss.take (k+1)) W wB.heap.size W.heap.size v∧Old wB W) n0 c1 hlt (by omega) (by omega) hkL (fun W g=>KFk W _ (R1.out.old g)) (fun W ra rc g o hc=>by
    obtain ⟨vs,t1,t2⟩:=HEMB.out W ra rc g o hc
    exact ⟨vs,t1,fun v' w' q1 q2 q3=>⟨(t2 v' w' q1 q2 q3).1,Below.trans HG.out (t2 v' w' q1 q2 q3).2⟩⟩) _ _ ?_ ?_ ?_ ?_ ?_ ?_ ?_ ?_
   iterate 7 (·exact rfl)
   intro us W' hfin
   obtain ⟨O5,G5⟩:=hfin
   have HO5:Hid (OwS (zss.take (k+1)) W' wB.heap.size W'.heap.size (us 12)):=O5
   have HG5:Hid (Old wB W'):=G5
   clear O5 G5 c0 c1 n0 KFk HEMB
   simp only [putAll,Act.put,slotRgT,List.range,List.range.loop,List.map_cons,List.map_nil,List.getD_cons_zero,List.getD_cons_succ,List.setIfInBounds_toArray,List.set_cons_succ,List.set_cons_zero]
   have hl1:(zss.take (k+1)).length=k+1:=by rw [List.length_take];have:=HZL.out;omega
   obtain ⟨a5,cap5,e5⟩:=HO5.out.slice
   rw [hl1] at e5
   rw [e5] at HO5
   generalize us 12=u10 at *
   subst e5
   go_wp2_with fail
   exact ⟨⟨k+1,_,_,by omega,by go_num,rfl,HO5,HG5⟩,by simp [intOf];omega⟩
  ·have d1:decide ((k:Int)<(ps.length:Int))=false:=by simp;omega
   obtain rfl:k=ps.length:=by omega
   have HF:Hid (OwS zss wr wB.heap.size wr.heap.size (.slice a ps.length cap)):=by
    have:=HO.out
    rw [List.take_of_length_le (by have:=HZL.out;omega)] at this
    exact this
   go_wp2_with fail
   go_ret
   exact ⟨_,rfl,Old.trans HAO.out HG.out,HF.out.low HAO.out.size⟩
end Go.Proofs.YtanijpekdnkicaaGreatDoor
