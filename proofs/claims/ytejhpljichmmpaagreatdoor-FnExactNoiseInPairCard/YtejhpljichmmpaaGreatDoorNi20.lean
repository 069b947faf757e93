/- Proved: what its theorems say. -/
import Derived.Deep.RegionLawGrows
import Derived.Test.YtejhpljichmmpaaGreatDoorNi02
set_option linter.unusedVariables false
set_option linter.unusedSimpArgs false
set_option maxHeartbeats 4000000
namespace Go.Proofs.YtejhpljichmmpaaGreatDoor
open Go.ChangeShapes Go.WideShapes Go.ChangeAt Go.RowKit
theorem Qpt {P:Program} (t u ty e e':TypeId) (ht:P.underlying t=some (.slice e)) (hu:P.underlying u=some (.slice e')) (x1 x2:Option Addr) (n1 c1 n2 c2:Nat) (w:World) :
 (Builtin.append_ #[t,u] ty #[.slice x1 n1 c1,.slice x2 n2 c2]).run P w=(Builtin.append_ #[t,t] ty #[.slice x1 n1 c1,.slice x2 n2 c2]).run P w:=by
 simp [Builtin.append_,run_underlying ht,run_underlying hu]
theorem Qhn {P:Program} {ops:Array Oper} {o:Oper} {a:Act} {w:World} {K:Act->World->Prop} {Q:Exit->Act->World->Prop} {E:Prop}
 (hg:o.guard=none) (s x:Operand) (t u:TypeId) (hop:o.op=Op.call {callee:=Callee.builtin Builtin.append,args:=#[s,x],argTypes:=#[t,u]})
 (e e':TypeId) (i:TypeInfo) (z:Value) (size bytes:Nat) (h1:P.underlying t=some (.slice e)) (h1':P.underlying u=some (.slice e')) (h2:P.info? e=some i) (h3:i.zero=some z) (h4:i.size=size) (h5:i.bytes=bytes) (h6:z.cells.size=size) (h7:0<size)
 (b:Addr) (hs:a.eval s=.slice (some b) 0 0)
 (ad:Addr) (m c:Nat) (news:List Value) (hx:a.eval x=.slice (some ad) m c) (hn:news.length=m*size) (hc:∀j u,news[j]? = some u->w.cell? (ad.add j)=some u)
 (hfull:0<m) (b1:m<=maxLen) (b2:m*bytes<=140737488355328)
 (hK:∀v' w',w'.ownsRow w.heap.size e size v' m news->w.grownBy w' none->K (a.put o.dst v') w') :
 if Region.wanted o (yielded ops a.tmps)=true then Oper.wp P o a w K Q else E:=by
 have hw:Region.wanted o (yielded ops a.tmps)=true:=by simp [Region.wanted,hg]
 rw [if_pos hw];obtain ⟨v',w',hrun,r1,r2⟩:=run_append_arg_grows (P:=P) w t o.type e i z size bytes h1 h2 h3 h4 h5 h6 h7 b 0 0 [] (by simp) (fun j u h=>by simp at h) ad m c news hn hc (by omega) (by simpa using b1) (by simpa using b2);rw [<- Qpt t u o.type e e' h1 h1'] at hrun;unfold Oper.wp;simp [execOp,hop,resolve,invoke,builtin,hs,hx,hrun,Result.andThen];exact hK v' w' (by simpa using r1) r2
theorem Qm6 {P:Program} (w:World) (t u ty e e':TypeId) (i:TypeInfo) (ht:P.underlying t=some (.slice e)) (hu:P.underlying u=some (.slice e')) (hi:P.info? e=some i) (b:Addr) (a:Option Addr) (c:Nat) :
 (Builtin.append_ #[t,u] ty #[.slice (some b) 0 0,.slice a 0 c]).run P w=.ok (.slice (some b) 0 0) w:=by
 cases a <;> simp [Builtin.append_,run_underlying ht,run_underlying hu,sizeOf,typeInfo,hi,Builtin.lenOf,Builtin.firstCells,storeCells,loadCells,loadCellsFrom,Result.andThen]
theorem Qge {P:Program} {ops:Array Oper} {o:Oper} {a:Act} {w:World} {K:Act->World->Prop} {Q:Exit->Act->World->Prop} {E:Prop}
 (hg:o.guard=none) (s x:Operand) (t u:TypeId) (hop:o.op=Op.call {callee:=Callee.builtin Builtin.append,args:=#[s,x],argTypes:=#[t,u]})
 (e e':TypeId) (i:TypeInfo) (h1:P.underlying t=some (.slice e)) (h1':P.underlying u=some (.slice e')) (h2:P.info? e=some i)
 (b:Addr) (hs:a.eval s=.slice (some b) 0 0) (ad:Option Addr) (c:Nat) (hx:a.eval x=.slice ad 0 c)
 (hK:K (a.put o.dst (.slice (some b) 0 0)) w) :
 if Region.wanted o (yielded ops a.tmps)=true then Oper.wp P o a w K Q else E:=by
 have hw:Region.wanted o (yielded ops a.tmps)=true:=by simp [Region.wanted,hg]
 rw [if_pos hw];have hrun:=Qm6 (P:=P) w t u o.type e e' i h1 h1' h2 b ad c;unfold Oper.wp;simp [execOp,hop,resolve,invoke,builtin,hs,hx,hrun,Result.andThen];exact hK
end Go.Proofs.YtejhpljichmmpaaGreatDoor
namespace Go.Proofs.YtejhpljichmmpaaGreatDoor
open Go.ChangeShapes Go.WideShapes Go.ChangeAt Go.RowKit
open M2
theorem Qfa {w w':World} (h:w.heap=w'.heap) (p:Addr):w.cell? p=w'.cell? p:=World.cell?_of_block (by rw [h])
theorem Qot {w w':World} (h:w.heap=w'.heap) (p:Addr):w.frozen? p=w'.frozen? p:=World.frozen?_of_block (by rw [h])
theorem Qt3 {w:World} {base base' n:Nat} {v:Value} {xs:List Value} (h:w.ownsRow base 3 1 v n xs) (hb:base'<=base):w.ownsRow base' 3 1 v n xs:=by
 refine ⟨h.1,?_⟩;rcases h.2 with hn | ⟨p,cap,cur,rfl,hb1,rest⟩
 ·exact .inl hn
 ·exact .inr ⟨p,cap,cur,rfl,Nat.le_trans hb hb1,rest⟩
theorem Qt4 (n:Bool) (a:Option Addr) (cap:Nat) (w:World) :
 Calls Tryz.prog 48 #[.agg #[.bool n,.slice a 0 cap]] w fun e w'=>∃v',e=.returned (.tuple #[.agg #[.bool n,v'],.bool true])/\Old w w'/\Own w' w.heap.size v' []:=by
 obtain ⟨i0,hi,hz0,hz1,hz2⟩:=info_parts Tryz.infoInt;go_enter Tryz.func48,Tryz.ntmps48;go_wp2_with fail
 go_region_law (refine Qge rfl (.tmp 11) (.tmp 13) 22 83 rfl 3 3 i0 Tryz.underlying22 Tryz.underlying83 hi ⟨w.heap.size+1+1,0,none⟩ (by simp [Act.eval,Act.put]) a cap (by simp [Act.eval,Act.put]) ?_)
 all_goals
  go_wp2_with fail;refine bodyPost_ret (v:=.tuple #[.agg #[.bool n,.slice (some ⟨w.heap.size+1+1,0,none⟩) 0 0],.bool true]) (by simp [results,Tryz.results48,go_sem]) rfl ⟨_,rfl,?_,?_⟩
  ·exact Below.drew ((((Old.refl w).alloc _).alloc _).alloc _)
  ·have:=World.ownsRow_lit (base:=w.heap.size) (e:=3) (size:=1) ((w.alloc (Obj.cells #[Value.bool n,Value.slice a 0 cap] 85)).alloc (Obj.cells #[Value.bool n,Value.slice (some {block:=w.heap.size+1+1,off:=0}) 0 0] 31)) #[] 0 (by simp;omega) (by unfold maxLen;omega) (by simp);simp at this;exact this
theorem Qt5 (n:Bool) (xs:List Nat) (b o cap:Nat) (w:World) (h0:0<xs.length) (h40:xs.length<=40) (hc:∀j,j<xs.length->w.cell? ⟨b,o+j,none⟩=some (.int .i64 ((xs.getD j 0:Nat):Int))) (hb:b<w.heap.size) :
 Calls Tryz.prog 48 #[.agg #[.bool n,.slice (some ⟨b,o,none⟩) xs.length cap]] w fun e w'=>∃v',e=.returned (.tuple #[.agg #[.bool n,v'],.bool true])/\Old w w'/\Own w' w.heap.size v' (toI xs):=by
 obtain ⟨i0,hi,hz0,hz1,hz2⟩:=info_parts Tryz.infoInt;have HC:Hid (∀j,j<xs.length->w.cell? ⟨b,o+j,none⟩=some (.int .i64 ((xs.getD j 0:Nat):Int))):=hc;clear hc;have d0:decide ((40:Int)<(xs.length:Int))=false:=Qvb (by omega);go_enter Tryz.func48,Tryz.ntmps48;go_wp2_with fail
 have HN:Hid (∀W,Old w W->∀j u,((toI xs).map (Value.int .i64))[j]? = some u->W.cell? ((⟨b,o,none⟩:Addr).add j)=some u):=by
  intro W g j u hj
  have hjl:j<xs.length:=by
   have:=(List.getElem?_eq_some_iff.1 hj).1
   simpa [toI] using this
  have e1:=HC.out j hjl
  have e2:u=.int .i64 ((xs.getD j 0:Nat):Int):=by
   simp [toI,hjl] at hj;rw [<- hj];simp [List.getD,hjl]
  rw [e2,<- e1]
  have:(⟨b,o,none⟩:Addr).add j=⟨b,o+j,none⟩:=by
   unfold Addr.add;split
   ·rename_i h;simp [h]
   ·rfl
  rw [this];exact g.cell (p:=⟨b,o+j,none⟩) hb
 have HA:Hid (∀t1 t2 t3 xs1 xs2 xs3 k,Old w ((((w.alloc (.cells xs1 t1)).alloc (.cells xs2 t2)).drewN k).alloc (.cells xs3 t3))):=fun t1 t2 t3 xs1 xs2 xs3 k=>((((Old.refl w).alloc _).alloc _).drewN _).alloc _
 go_region_law (refine Qhn rfl (.tmp 11) (.tmp 13) 22 83 rfl 3 3 i0 (.int .i64 0) 1 8 Tryz.underlying22 Tryz.underlying83 hi hz0 hz1 hz2 rfl (by decide) ⟨w.heap.size+1+1,0,none⟩ (by simp [Act.eval,Act.put]) ⟨b,o,none⟩ xs.length cap ((toI xs).map (Value.int .i64)) (by simp [Act.eval,Act.put]) (by simp [toI]) (HN.out _ (HA.out _ _ _ _ _ _ 1)) h0 (by unfold maxLen;omega) (by omega) ?_;intro v5 w5 o5 g5;have gg:=Qb1 g5;have a0_ : w5.cell? ⟨w.heap.size,0,none⟩=some (Value.bool n):=(gg.cell (p:=⟨w.heap.size,0,none⟩) (by simp;try omega)).trans ((Qfa rfl _).trans (Q07 w #[Value.bool n,Value.slice (some ⟨b,o,none⟩) xs.length cap] #[Value.bool false,Value.slice none 0 0] #[] 85 31 3 0));have a1_ : w5.cell? ⟨w.heap.size,1,none⟩=some (Value.slice (some ⟨b,o,none⟩) xs.length cap):=(gg.cell (p:=⟨w.heap.size,1,none⟩) (by simp;try omega)).trans ((Qfa rfl _).trans (Q07 w #[Value.bool n,Value.slice (some ⟨b,o,none⟩) xs.length cap] #[Value.bool false,Value.slice none 0 0] #[] 85 31 3 1));have q0_ : w5.cell? ⟨w.heap.size+1,0,none⟩=some (Value.bool false):=(gg.cell (p:=⟨w.heap.size+1,0,none⟩) (by simp;try omega)).trans ((Qfa rfl _).trans (Q08 w #[Value.bool n,Value.slice (some ⟨b,o,none⟩) xs.length cap] #[Value.bool false,Value.slice none 0 0] #[] 85 31 3 0));have q1_ : w5.cell? ⟨w.heap.size+1,1,none⟩=some (Value.slice none 0 0):=(gg.cell (p:=⟨w.heap.size+1,1,none⟩) (by simp;try omega)).trans ((Qfa rfl _).trans (Q08 w #[Value.bool n,Value.slice (some ⟨b,o,none⟩) xs.length cap] #[Value.bool false,Value.slice none 0 0] #[] 85 31 3 1));have f0_ : w5.frozen? ⟨w.heap.size+1,0,none⟩=false:=(gg.frozen (p:=⟨w.heap.size+1,0,none⟩) (by simp;try omega)).trans ((Qot rfl _).trans (Q09 w #[Value.bool n,Value.slice (some ⟨b,o,none⟩) xs.length cap] #[Value.bool false,Value.slice none 0 0] #[] 85 31 3 0));have f1_ : w5.frozen? ⟨w.heap.size+1,1,none⟩=false:=(gg.frozen (p:=⟨w.heap.size+1,1,none⟩) (by simp;try omega)).trans ((Qot rfl _).trans (Q09 w #[Value.bool n,Value.slice (some ⟨b,o,none⟩) xs.length cap] #[Value.bool false,Value.slice none 0 0] #[] 85 31 3 1));have O5:Own w5 (w.heap.size+3) v5 (toI xs):=by {unfold Own;rw [Qar];exact Qt3 o5 (by simp)};obtain ⟨a5,cap5,rfl⟩:=(Own.row O5).sliceN;have HG5:Hid (Old w w5):=Old.trans (HA.out _ _ _ _ _ _ 1) gg;have HO5:Hid (Own w5 (w.heap.size+3) (.slice a5 xs.length cap5) (toI xs)):=O5;clear gg g5 o5 O5)
 all_goals
  go_wp2_with fail;refine bodyPost_ret (v:=.tuple #[.agg #[.bool n,.slice a5 xs.length cap5],.bool true]) (by simp [results,Tryz.results48,go_sem,q0_,q1_]) rfl ⟨_,rfl,?_,?_⟩
  ·exact (HG5.out.own (p:=⟨w.heap.size+1,0,none⟩) (by simp) _).own (p:=⟨w.heap.size+1,1,none⟩) (by simp) _
  ·refine Own.low (base:=w.heap.size+3) (ownsRow_setCell_other (ownsRow_setCell_other HO5.out (fun e=>?_) _) (fun e=>?_) _) (by omega)
   ·have:=(HO5.out.lt (w.heap.size+1) e).1;omega
   ·have:=(HO5.out.lt (w.heap.size+1) e).1;omega
theorem Qxt (n:Bool) (xs:List Nat) (v:Value) (w:World) (hv:Row w v (toI xs)) (h40:xs.length<=40) :
 Calls Tryz.prog 48 #[.agg #[.bool n,v]] w fun e w'=>∃v',e=.returned (.tuple #[.agg #[.bool n,v'],.bool true])/\Old w w'/\Own w' w.heap.size v' (toI xs):=by
 obtain ⟨a0,cap0,rfl⟩:=hv.sliceN;rcases Nat.eq_zero_or_pos xs.length with h0 | h0
 ·obtain rfl:=List.length_eq_zero_iff.1 h0;exact Qt4 n a0 cap0 w
 ·obtain ⟨b,o,rfl,hb,hc⟩:=Row.at hv h0;exact Qt5 n xs b o cap0 w h0 h40 hc hb
end Go.Proofs.YtejhpljichmmpaaGreatDoor
