/- Proved: what its theorems say. -/
import Derived.Test.YtdaepfjocofkjaaGreatDoorEn00
import Derived.Deep.RegionWith
set_option linter.unusedVariables false
set_option linter.unusedSimpArgs false
set_option maxHeartbeats 4000000
namespace Go.Proofs.YtdaepfjocofkjaaGreatDoor
open Go.ChangeShapes Go.WideShapes Go.ChangeAt Go.RowKit
open M2
abbrev StW (w:World) (k:Nat) (x y:Value) (t:TypeId):Prop:=w.heap[k]? = some (.cells #[x,y] t (0,0))
theorem StW.c0 {w:World} {k:Nat} {x y:Value} {t:TypeId} (h:StW w k x y t):w.cell? ⟨k,0,none⟩=some x:=cell_of_row w k 0 _ t (0,0) h
theorem StW.c1 {w:World} {k:Nat} {x y:Value} {t:TypeId} (h:StW w k x y t):w.cell? ⟨k,1,none⟩=some y:=cell_of_row w k 1 _ t (0,0) h
theorem StW.f0 {w:World} {k:Nat} {x y:Value} {t:TypeId} (h:StW w k x y t):w.frozen? ⟨k,0,none⟩=false:=frozen_of_row w k 0 _ t h
theorem StW.f1 {w:World} {k:Nat} {x y:Value} {t:TypeId} (h:StW w k x y t):w.frozen? ⟨k,1,none⟩=false:=frozen_of_row w k 1 _ t h
theorem StW.lt {w:World} {k:Nat} {x y:Value} {t:TypeId} (h:StW w k x y t):k<w.heap.size:=(Array.getElem?_eq_some_iff.1 h).1
theorem StW.old {w w':World} {k:Nat} {x y:Value} {t:TypeId} (h:StW w k x y t) (g:Old w w'):StW w' k x y t:=(g.block k h.lt).trans h
theorem StW.new (w:World) (x y:Value) (t:TypeId):StW (w.alloc (.cells #[x,y] t)) w.heap.size x y t:=heap_alloc_new w _
end Go.Proofs.YtdaepfjocofkjaaGreatDoor
namespace Go.Proofs.YtdaepfjocofkjaaGreatDoor
open Go.ChangeShapes Go.WideShapes Go.ChangeAt Go.RowKit
theorem StW.at2 (w:World) (x y x' y':Value) (t t':TypeId):StW ((w.alloc (.cells #[x,y] t)).alloc (.cells #[x',y'] t')) (w.heap.size+1) x' y' t':=heap_alloc2_new w _ _
theorem StW.at1 (w:World) (x y x' y':Value) (t t':TypeId):StW ((w.alloc (.cells #[x,y] t)).alloc (.cells #[x',y'] t')) w.heap.size x y t:=heap_alloc2_old w _ _
def Bk (w:World) (k:Nat) (cs:Array Value) (t:TypeId):Prop:=w.heap[k]? = some (.cells cs t (0,0))
theorem Bk.lt {w:World} {k:Nat} {cs:Array Value} {t:TypeId} (h:Bk w k cs t):k<w.heap.size:=(Array.getElem?_eq_some_iff.1 h).1
theorem Bk.old {w w':World} {k:Nat} {cs:Array Value} {t:TypeId} (h:Bk w k cs t) (g:Old w w'):Bk w' k cs t:=(g.block k h.lt).trans h
theorem Bk.chg {w w':World} {k:Nat} {cs:Array Value} {t:TypeId} {lo hi:Nat} (h:Bk w k cs t) (c:Chg w w' lo hi) (hk:k<lo∨hi<=k):Bk w' k cs t:=(c.block k h.lt hk).trans h
theorem Bk.new' (w:World) {k:Nat} (cs:Array Value) (t:TypeId) (hk:w.heap.size=k):Bk (w.alloc (.cells cs t)) k cs t:=by
 subst hk;exact heap_alloc_new w _
theorem Bk.alloc {w:World} {k:Nat} {cs:Array Value} {t:TypeId} (h:Bk w k cs t) (o:Obj):Bk (w.alloc o) k cs t:=h.old ((Old.refl w).alloc o)
theorem Bk.c {w:World} {k:Nat} {cs:Array Value} {t:TypeId} (h:Bk w k cs t) {i:Nat} {v:Value} (hi:cs[i]? = some v):w.cell? ⟨k,i,none⟩=some v:=by
 rw [<- hi];exact cell_of_row w k i cs t (0,0) h
def OwI (xs:List Int) (W:World) (lo hi:Nat) (v:Value):Prop:=Own W lo v xs/\hi<=W.heap.size/\∀b,v.ownBlock=some b->b<hi
theorem OwI.of {W w':World} {v:Value} {xs:List Int} (o:Own w' W.heap.size v xs):OwI xs w' W.heap.size w'.heap.size v:=⟨o,Nat.le_refl _,fun b hb=>(o.lt b hb).2⟩
theorem OwI.row {W:World} {lo hi:Nat} {v:Value} {xs:List Int} (h:OwI xs W lo hi v):Row W v xs:=Own.row h.1
theorem Qys {W W':World} {lo hi:Nat} {v:Value} {xs:List Int} (h:Own W lo v xs) (hh:∀b,v.ownBlock=some b->b<hi) (hf:∀b,lo<=b->b<hi->W'.heap[b]? = W.heap[b]?):Own W' lo v xs:=by
 refine ⟨h.1,?_⟩;rcases h.2 with hn | ⟨p,cap,cur,rfl,hb,hgg,rest⟩
 ·exact .inl hn
 ·refine .inr ⟨p,cap,cur,rfl,hb,?_,rest⟩;rw [hf p hb (hh p rfl)];exact hgg
theorem Qn0 (xs:List Int):Far (OwI xs):=fun W W' lo hi v h hf hs=>⟨Qys h.1 h.2.2 hf,Nat.le_trans h.2.1 hs,h.2.2⟩
theorem OwI.mark {W w':World} {lo hi:Nat} {v:Value} {xs ys:List Int} (h:OwI xs W lo hi v) (g:W.grownBy w' v.ownBlock) (o:Own w' lo v ys):Chg W w' lo hi/\OwI ys w' lo hi v:=
 ⟨Qxi g (fun b hb=>⟨(h.1.lt b hb).1,h.2.2 b hb⟩),o,Nat.le_trans h.2.1 g.size,h.2.2⟩
def Qdk (left:Int) (len:Nat):Int:=if left<(len:Int) then -1 else left - len
theorem Qfm {left:Int} {len:Nat} (h:¬Qdk left len<0) (h0:0<=left):(len:Int)<=left/\Qdk left len=left - len/\0<=Qdk left len:=by
 unfold Qdk at *;split at h
 ·omega
 ·rename_i h2
  rw [if_neg h2];omega
abbrev Qb0:=World->(Nat->Prop)->List Value->Prop
structure GoodT (E:Qb0):Prop where
 far:∀{W W':World} {B:Nat->Prop} {cs:List Value},E W B cs->(∀b,B b->W'.heap[b]? = W.heap[b]?)->E W' B cs
 lt:∀{W:World} {B:Nat->Prop} {cs:List Value},E W B cs->∀b,B b->b<W.heap.size
def TI (xs:List Int):Qb0:=fun W B cs=>∃a c,cs=[.slice a xs.length c]/\Own W 0 (.slice a xs.length c) xs/\xs.length<=c/\∀b,B b↔(Value.slice a xs.length c).ownBlock=some b
def Qbg (n:Nat) (vs:List Value) (j:Nat):List Value:=(vs.drop (j*n)).take n
structure TSc (T:TypeId) (n m k:Nat) (Es:Nat->Qb0) (W:World) (p cap:Nat) (vs:List Value) (Bs:Nat->Nat->Prop):Prop where
 row:W.ownsRow 0 T n (.slice (some ⟨p,0,none⟩) m cap) m vs
 el:∀j,j<k->Es j W (Bs j) (Qbg n vs j)
 np:∀j,j<k->¬Bs j p
 dis:∀i j,i<k->j<k->i≠j->∀b,Bs i b->Bs j b->False
def TS (T:TypeId) (n m:Nat) (Es:Nat->Qb0):Qb0:=fun W B cs=>
 (m=0/\cs=[.slice none 0 0]/\∀b,¬B b)∨∃p cap vs Bs,cs=[.slice (some ⟨p,0,none⟩) m cap]/\TSc T n m m Es W p cap vs Bs/\∀b,B b↔b=p∨∃j,j<m/\Bs j b
def Ows (E:Qb0) (W:World) (lo hi:Nat) (cs:List Value):Prop:=hi<=W.heap.size/\∃B,E W B cs/\∀b,B b->lo<=b/\b<hi
theorem Qho {W W':World} {base p n m cap:Nat} {T:TypeId} {vs:List Value} (h:W.ownsRow base T n (.slice (some ⟨p,0,none⟩) m cap) m vs) (hf:W'.heap[p]? = W.heap[p]?):W'.ownsRow base T n (.slice (some ⟨p,0,none⟩) m cap) m vs:=by
 refine ⟨h.1,?_⟩;rcases h.2 with ⟨hn,_⟩ | ⟨p',cap',cur,e,hb,hgg,rest⟩
 ·cases hn
 ·simp only [Value.slice.injEq,Option.some.injEq,Addr.mk.injEq,true_and,and_true] at e;obtain ⟨rfl,rfl⟩:=e;exact .inr ⟨p,cap,cur,rfl,hb,hf.trans hgg,rest⟩
theorem Qa1 {W:World} {base p n m cap:Nat} {T:TypeId} {vs:List Value} (h:W.ownsRow base T n (.slice (some ⟨p,0,none⟩) m cap) m vs):p<W.heap.size:=(h.lt p rfl).2
theorem Qpq {W W':World} {base:Nat} {v:Value} {xs:List Int} (h:Own W base v xs) (hf:∀b,v.ownBlock=some b->W'.heap[b]? = W.heap[b]?):Own W' base v xs:=by
 refine ⟨h.1,?_⟩;rcases h.2 with hn | ⟨p,cap,cur,rfl,hb,hgg,rest⟩
 ·exact .inl hn
 ·exact .inr ⟨p,cap,cur,rfl,hb,(hf p rfl).trans hgg,rest⟩
theorem Qcg (xs:List Int):GoodT (TI xs):=by
 constructor
 ·rintro W W' B cs ⟨a,c,e,o,f,hb⟩ hf;exact ⟨a,c,e,Qpq o (fun b h=>hf b ((hb b).2 h)),f,hb⟩
 ·rintro W B cs ⟨a,c,e,o,f,hb⟩ b h;exact (o.lt b ((hb b).1 h)).2
theorem TSc.far {T:TypeId} {n m k:Nat} {Es:Nat->Qb0} {W W':World} {p cap:Nat} {vs:List Value} {Bs:Nat->Nat->Prop} (g:∀j,GoodT (Es j)) (h:TSc T n m k Es W p cap vs Bs) (hp:W'.heap[p]? = W.heap[p]?) (hf:∀j b,j<k->Bs j b->W'.heap[b]? = W.heap[b]?):TSc T n m k Es W' p cap vs Bs:=
 ⟨Qho h.row hp,fun j hj=>(g j).far (h.el j hj) (fun b hb=>hf j b hj hb),h.np,h.dis⟩
theorem TSc.lt {T:TypeId} {n m k:Nat} {Es:Nat->Qb0} {W:World} {p cap:Nat} {vs:List Value} {Bs:Nat->Nat->Prop} (g:∀j,GoodT (Es j)) (h:TSc T n m k Es W p cap vs Bs) (j b:Nat) (hj:j<k) (hb:Bs j b):b<W.heap.size:=(g j).lt (h.el j hj) b hb
theorem TSc.old {T:TypeId} {n m k:Nat} {Es:Nat->Qb0} {W W':World} {p cap:Nat} {vs:List Value} {Bs:Nat->Nat->Prop} (g:∀j,GoodT (Es j)) (h:TSc T n m k Es W p cap vs Bs) (q:Old W W'):TSc T n m k Es W' p cap vs Bs:=
 h.far g (q.block p (Qa1 h.row)) (fun j b hj hb=>q.block b (h.lt g j b hj hb))
theorem Qe2 (T:TypeId) (n m:Nat) {Es:Nat->Qb0} (g:∀j,GoodT (Es j)):GoodT (TS T n m Es):=by
 constructor
 ·rintro W W' B cs (h | ⟨p,cap,vs,Bs,e,h,hb⟩) hf
  ·exact .inl h
  ·exact .inr ⟨p,cap,vs,Bs,e,h.far g (hf p ((hb p).2 (.inl rfl))) (fun j b hj hB=>hf b ((hb b).2 (.inr ⟨j,hj,hB⟩))),hb⟩
 ·rintro W B cs (h | ⟨p,cap,vs,Bs,e,h,hb⟩) b hB
  ·exact absurd hB (h.2.2 b)
  ·rcases (hb b).1 hB with rfl | ⟨j,hj,hB⟩
   ·exact Qa1 h.row
   ·exact h.lt g j b hj hB
theorem Qkh {E:Qb0} (g:GoodT E):Far (Ows E):=fun W W' lo hi cs h hf hs=>by
 obtain ⟨hh,B,hE,hb⟩:=h;exact ⟨by omega,B,g.far hE (fun b hB=>hf b (hb b hB).1 (hb b hB).2),hb⟩
theorem Ows.low {E:Qb0} {W:World} {lo lo' hi hi':Nat} {cs:List Value} (h:Ows E W lo hi cs) (hl:lo'<=lo) (hh:hi<=hi') (hs:hi'<=W.heap.size):Ows E W lo' hi' cs:=by
 obtain ⟨_,B,hE,hb⟩:=h;exact ⟨hs,B,hE,fun b hB=>by have:=hb b hB;omega⟩
theorem Ows.old {E:Qb0} (g:GoodT E) {W W':World} {lo hi:Nat} {cs:List Value} (h:Ows E W lo hi cs) (q:Old W W'):Ows E W' lo hi cs:=(Qkh g).old h q h.1
theorem TS.slice {T:TypeId} {n m:Nat} {Es:Nat->Qb0} {W:World} {B:Nat->Prop} {v:Value} (h:TS T n m Es W B [v]):∃a c,v=.slice a m c:=by
 rcases h with ⟨h0,h1,_⟩ | ⟨p,cap,vs,Bs,e,_⟩
 ·simp at h1;exact ⟨none,0,by rw [h1,h0]⟩
 ·simp at e;exact ⟨_,_,e⟩
theorem TI.slice {xs:List Int} {W:World} {B:Nat->Prop} {v:Value} (h:TI xs W B [v]):∃a c,v=.slice a xs.length c:=by
 obtain ⟨a,c,e,_⟩:=h;simp at e;exact ⟨a,c,e⟩
theorem TI.row {xs:List Int} {W:World} {B:Nat->Prop} {v:Value} (h:TI xs W B [v]):Row W v xs:=by
 obtain ⟨a,c,e,o,_⟩:=h;simp at e;rw [e];exact Own.row o
theorem Qbm {n m:Nat} {vs:List Value} (h:vs.length=m*n) (j:Nat) (hj:j<m):(Qbg n vs j).length=n:=by
 unfold Qbg;rw [List.length_take,List.length_drop,h];have:(j+1)*n<=m*n:=Nat.mul_le_mul_right n hj;rw [Nat.add_mul] at this;omega
theorem Qdl (n:Nat) (vs:List Value) (j i:Nat) (hi:i<n):(Qbg n vs j)[i]? = vs[j*n+i]?:=by
 unfold Qbg;rw [List.getElem?_take,if_pos hi,List.getElem?_drop]
theorem Qb8 (n:Nat) (vs:List Value) (j i q:Nat) (x:Value) (hi:i<n):Qbg n (vs.set (j*n+i) x) q=if q=j then (Qbg n vs j).set i x else Qbg n vs q:=by
 apply List.ext_getElem?
 intro r;rcases Nat.lt_or_ge r n with hr | hr
 ·rw [Qdl n _ q r hr,List.getElem?_set]
  by_cases hq:q=j
  ·subst hq;rw [if_pos rfl,List.getElem?_set,Qdl n vs q r hr]
   by_cases hri:i=r
   ·subst hri;rw [if_pos rfl,if_pos rfl]
    by_cases hlen:q*n+i<vs.length
    ·rw [if_pos hlen,if_pos];unfold Qbg;rw [List.length_take,List.length_drop];omega
    ·rw [if_neg hlen,if_neg];unfold Qbg;rw [List.length_take,List.length_drop];omega
   ·rw [if_neg (by omega),if_neg hri]
  ·rw [if_neg hq,if_neg,Qdl n vs q r hr];intro e;apply hq;have h1:(j*n+i)/n=j:=by rw [Nat.mul_comm,Nat.mul_add_div (by omega),Nat.div_eq_of_lt hi];omega
   have h2:(q*n+r)/n=q:=by rw [Nat.mul_comm,Nat.mul_add_div (by omega),Nat.div_eq_of_lt hr];omega
   rw [<- h1,<- h2,e]
 ·have l1:∀(us:List Value) (z:Nat),(Qbg n us z)[r]? = none:=fun us z=>by
   apply List.getElem?_eq_none
   unfold Qbg;rw [List.length_take];omega
  rw [l1];split
  ·rw [List.getElem?_set];rw [if_neg (by omega)];exact (l1 vs j).symm
  ·exact (l1 vs q).symm
theorem TSc.cell {T:TypeId} {n m k:Nat} {Es:Nat->Qb0} {W:World} {p cap:Nat} {vs:List Value} {Bs:Nat->Nat->Prop} (h:TSc T n m k Es W p cap vs Bs) (j i:Nat) (hj:j<m) (hi:i<n):W.cell? ⟨p,j*n+i,none⟩=(Qbg n vs j)[i]?:=by
 rw [World.ownsRow.cellAt h.row (j*n+i) (by
  have:(j+1)*n<=m*n:=Nat.mul_le_mul_right n hj;rw [Nat.add_mul] at this;omega),Qdl n vs j i hi]
theorem TSc.frozen {T:TypeId} {n m k:Nat} {Es:Nat->Qb0} {W:World} {p cap:Nat} {vs:List Value} {Bs:Nat->Nat->Prop} (h:TSc T n m k Es W p cap vs Bs) (j:Nat):W.frozen? ⟨p,j,none⟩=false:=World.ownsRow.frozenAt h.row j
theorem TSc.sub {T:TypeId} {n m k:Nat} {Es:Nat->Qb0} {W w':World} {p cap:Nat} {vs:List Value} {Bs:Nat->Nat->Prop} (g:∀j,GoodT (Es j)) (h:TSc T n m k Es W p cap vs Bs) (j:Nat) (hj:j<k) {E':Qb0}
 (hf:∀b,b<W.heap.size->¬Bs j b->w'.heap[b]? = W.heap[b]?) (he:E' w' (Bs j) (Qbg n vs j)):TSc T n m k (fun q=>if q=j then E' else Es q) w' p cap vs Bs:=by
 refine ⟨Qho h.row (hf p (Qa1 h.row) (h.np j hj)),fun q hq=>?_,h.np,h.dis⟩
 by_cases hqj:q=j
 ·subst hqj;rw [if_pos rfl];exact he
 ·rw [if_neg hqj];exact (g q).far (h.el q hq) (fun b hb=>hf b (h.lt g q b hq hb) (fun hx=>h.dis q j hq hj hqj b hb hx))
theorem TSc.start {T:TypeId} {n m:Nat} {Es:Nat->Qb0} {W:World} {p cap:Nat} {vs:List Value} (h:W.ownsRow 0 T n (.slice (some ⟨p,0,none⟩) m cap) m vs):TSc T n m 0 Es W p cap vs (fun _ _=>False):=
 ⟨h,fun j hj=>by omega,fun j hj=>by omega,fun i j hi=>by omega⟩
theorem TSc.fill {T:TypeId} {n m k:Nat} {Es:Nat->Qb0} {W:World} {p cap:Nat} {vs:List Value} {Bs:Nat->Nat->Prop} (g:∀j,GoodT (Es j)) (h:TSc T n m k Es W p cap vs Bs) (i:Nat) (hi:i<n) (x:Value):TSc T n m k Es (W.setCell ⟨p,k*n+i,none⟩ x) p cap (vs.set (k*n+i) x) Bs:=by
 have hot:∀b,b≠p->(W.setCell ⟨p,k*n+i,none⟩ x).heap[b]? = W.heap[b]?:=fun b hb=>heap_setCell_other _ _ _ _ hb
 refine ⟨(World.ownsRow.stored h.row _ _).1,fun q hq=>?_,h.np,h.dis⟩;rw [Qb8 n vs k i q x hi,if_neg (by omega)];exact (g q).far (h.el q hq) (fun b hb=>hot b (fun e=>h.np q hq (by rw [<- e];exact hb)))
theorem TSc.more {T:TypeId} {n m k:Nat} {Es:Nat->Qb0} {W:World} {p cap:Nat} {vs:List Value} {Bs:Nat->Nat->Prop} {B:Nat->Prop} (h:TSc T n m k Es W p cap vs Bs) (he:Es k W B (Qbg n vs k)) (hp:¬B p) (hd:∀j,j<k->∀b,Bs j b->B b->False):TSc T n m (k+1) Es W p cap vs (fun q=>if q=k then B else Bs q):=by
 refine ⟨h.row,fun j hj=>?_,fun j hj=>?_,fun i j hi hj hij b=>?_⟩
 ·by_cases e:j=k
  ·subst e;simp only [if_true];exact he
  ·simp only [e,if_false];exact h.el j (by omega)
 ·by_cases e:j=k
  ·simp only [e,if_true];exact hp
  ·simp only [e,if_false];exact h.np j (by omega)
 ·by_cases e:i=k
  ·have e2:¬j=k:=by omega
   simp only [e,e2,if_true,if_false];exact fun h1 h2=>hd j (by omega) b h2 h1
  ·by_cases e2:j=k
   ·simp only [e,e2,if_true,if_false];exact fun h1 h2=>hd i (by omega) b h1 h2
   ·simp only [e,e2,if_false];exact h.dis i j (by omega) (by omega) hij b
theorem TSc.done {T:TypeId} {n m:Nat} {Es:Nat->Qb0} {W:World} {p cap lo:Nat} {vs:List Value} {Bs:Nat->Nat->Prop} (g:∀j,GoodT (Es j)) (h:TSc T n m m Es W p cap vs Bs) (hp:lo<=p) (hb:∀j b,j<m->Bs j b->lo<=b):Ows (TS T n m Es) W lo W.heap.size [.slice (some ⟨p,0,none⟩) m cap]:=by
 refine ⟨Nat.le_refl _,fun b=>b=p∨∃j,j<m/\Bs j b,.inr ⟨p,cap,vs,Bs,rfl,h,fun b=>Iff.rfl⟩,fun b hB=>?_⟩;rcases hB with rfl | ⟨j,hj,hB⟩
 ·exact ⟨hp,Qa1 h.row⟩
 ·exact ⟨hb j b hj hB,h.lt g j b hj hB⟩
theorem TSc.ext {T:TypeId} {n m k:Nat} {Es Es':Nat->Qb0} {W:World} {p cap:Nat} {vs:List Value} {Bs:Nat->Nat->Prop} (he:∀j,j<k->Es j=Es' j) (h:TSc T n m k Es W p cap vs Bs):TSc T n m k Es' W p cap vs Bs:=
 ⟨h.row,fun j hj=>by rw [<- he j hj];exact h.el j hj,h.np,h.dis⟩
theorem TI.of {W:World} {lo:Nat} {v:Value} {xs:List Int} (o:Own W lo v xs):∃B,TI xs W B [v]/\∀b,B b->lo<=b:=by
 obtain ⟨a,c,rfl⟩:=(Own.row o).slice;refine ⟨fun b=>(Value.slice a xs.length c).ownBlock=some b,⟨a,c,rfl,Own.low o (Nat.zero_le _),?_,fun b=>Iff.rfl⟩,fun b hb=>(o.lt b hb).1⟩;rcases o.2 with ⟨e,h0⟩ | ⟨p,cap,cur,e,_,_,h,_⟩
 ·simp at e;omega
 ·simp only [Value.slice.injEq] at e;omega
theorem TI.own {W:World} {lo:Nat} {B:Nat->Prop} {v:Value} {xs:List Int} (h:TI xs W B [v]) (hb:∀b,B b->lo<=b):Own W lo v xs:=by
 obtain ⟨a,c,e,o,f,hB⟩:=h;simp at e;subst e;refine ⟨o.1,?_⟩;rcases o.2 with hn | ⟨p,cap,cur,e,_,rest⟩
 ·exact .inl hn
 ·refine .inr ⟨p,cap,cur,e,hb p ((hB p).2 (by rw [e];rfl)),rest⟩
theorem TI.blocks {W:World} {B:Nat->Prop} {v:Value} {xs:List Int} (h:TI xs W B [v]):∀b,B b↔v.ownBlock=some b:=by
 obtain ⟨a,c,e,o,f,hB⟩:=h;simp at e;subst e;exact hB
theorem Ows.nil {T:TypeId} {n:Nat} {Es:Nat->Qb0} {W:World} {lo hi:Nat} (hh:hi<=W.heap.size):Ows (TS T n 0 Es) W lo hi [.slice none 0 0]:=
 ⟨hh,fun _=>False,.inl ⟨rfl,rfl,fun b hb=>hb⟩,fun b hb=>hb.elim⟩
end Go.Proofs.YtdaepfjocofkjaaGreatDoor
namespace Go.Proofs.YtdaepfjocofkjaaGreatDoor
open Go.ChangeShapes Go.WideShapes Go.ChangeAt Go.RowKit
open M2
def sv (neg:Bool) (xs:List Nat):Int:=if neg then -(val xs:Int) else (val xs:Int)
def Gw (neg:Bool) (xs:List Nat):Prop:=Nrm xs/\(neg=true->xs≠[])
def ng (z:Int):Bool:=decide (z<0)
def dg (z:Int):List Nat:=dig z.natAbs
theorem Qyt (xs ys:List Nat) (v u:Value) (w:World) (hv:Row w v (toI xs)) (hu:Row w u (toI ys)) (ha:Lim xs) (hb:Nrm ys) (hl:ys≠[]) (la:xs.length<=1048576) (lb:ys.length<=1048000) :
 Calls Tryz.prog 57 #[v,u] w fun e w'=>∃v1 v2,e=.returned (.tuple #[v1,v2])/\Old w w'/\Own w' w.heap.size v1 (toI (dig (val xs/val ys)))/\Own w' w.heap.size v2 (toI (dig (val xs%val ys))):=by
 by_cases h1:ys.length=1
 ·obtain ⟨d,rfl⟩:=List.length_eq_one_iff.1 h1;have hd:d≠0:=by have:=hb.2 (by simp);simpa using this
  have hd2:=hb.1.head;have e:val [d]=d:=by simp [val]
  rw [e];exact Qvh xs d v u w hv hu ha (by omega) hd2 la
 ·have h0:ys.length≠0:=fun h=>hl (List.length_eq_zero_iff.1 h)
  exact Qvi xs ys v u w hv hu ha hb (by omega) la lb
theorem Qju (a:Int) (b:Nat) (q:Int) (r:Nat) (hr:r<b) (h:(r:Int)+(b:Int)*q=a):a/(b:Int)=q/\a%(b:Int)=(r:Int):=
 (Int.ediv_emod_unique (by omega)).2 ⟨h,by omega,by omega⟩
theorem Qki (xs:List Nat) (D:Nat) (hD:0<D) (h0:val xs%D=0):decide (0<(dig (val xs/D)).length)=ng (sv true xs/(D:Int))/\dig (val xs/D)=dg (sv true xs/(D:Int))/\0=(sv true xs%(D:Int)).toNat:=by
 obtain ⟨e1,e2⟩:=Qju (sv true xs) D (-((val xs/D:Nat):Int)) 0 hD (by
  have:=Nat.mod_add_div (val xs) D;rw [h0] at this;unfold sv;simp only [if_true];rw [Int.mul_neg,<- Int.natCast_mul];omega)
 rw [e1,e2];refine ⟨?_,by simp only [dg,Int.natAbs_neg,Int.natAbs_natCast],by simp⟩;unfold ng;rw [decide_eq_decide];constructor
 ·intro h;rcases Nat.eq_zero_or_pos (val xs/D) with h1 | h1
  ·rw [h1,Qa5] at h;simp at h
  ·omega
 ·intro h;have:=Qlv (n:=val xs/D) (by omega);rcases Nat.eq_zero_or_pos (dig (val xs/D)).length with h2 | h2
  ·exact absurd (List.length_eq_zero_iff.1 h2) this
  ·exact h2
theorem Qqz (xs:List Nat) (D:Nat) (hD:0<D) (h0:0<val xs%D):true=ng (sv true xs/(D:Int))/\dig (val xs/D+1)=dg (sv true xs/(D:Int))/\D - val xs%D=(sv true xs%(D:Int)).toNat:=by
 have hm:=Nat.mod_lt (val xs) hD
 obtain ⟨e1,e2⟩:=Qju (sv true xs) D (-((val xs/D+1:Nat):Int)) (D - val xs%D) (by omega) (by
  have:=Nat.mod_add_div (val xs) D;have e:D*(val xs/D+1)=D*(val xs/D)+D:=by rw [Nat.mul_add,Nat.mul_one]
  unfold sv;simp only [if_true];rw [Int.mul_neg,<- Int.natCast_mul,e];omega)
 rw [e1,e2];refine ⟨?_,by simp only [dg,Int.natAbs_neg,Int.natAbs_natCast],(Int.toNat_natCast _).symm⟩;generalize val xs/D=k;simp only [ng];symm;apply decide_eq_true;omega
theorem Qq0 (n:Bool) (xs:List Nat) (m:Nat) (v:Value) (w:World) (hv:Row w v (toI xs)) (ha:Lim xs) (la:xs.length<=2000) (hm:1<=m) (hm':m<=268435456) :
 Calls Tryz.prog 91 #[.agg #[.bool n,v],.int .i64 m] w fun e w'=>e=.returned (.int .i64 (sv n xs%(m:Int)))/\Old w w':=by
 have HV:=Qaa hv;obtain ⟨a0,cap0,rfl⟩:=hv.sliceN;clear hv;have hlt:val xs%m<m:=Nat.mod_lt _ (by omega);have e0:sv false xs%(m:Int)=((val xs%m:Nat):Int):=by simp [sv]
 have e1:0<val xs%m->sv true xs%(m:Int)=(m:Int) - ((val xs%m:Nat):Int):=fun h=>by
  have:=(Qqz xs m (by omega) h).2.2;have h2:=Int.emod_nonneg (sv true xs) (show (m:Int)≠0 by omega);omega
 have e2:val xs%m=0->sv true xs%(m:Int)=((val xs%m:Nat):Int):=fun h=>by
  have:=(Qki xs m (by omega) h).2.2;have h2:=Int.emod_nonneg (sv true xs) (show (m:Int)≠0 by omega);omega
 have c:=fun W (h:Row W (.slice a0 xs.length cap0) (toI xs))=>Qvg xs m _ W h ha (by omega) hm hm'
 generalize val xs%m=r at *
 have key:∀(z:Int),(n=false->z=(r:Int))->(n=true->0<r->z=(m:Int) - (r:Int))->(n=true->r=0->z=(r:Int))->
  Calls Tryz.prog 91 #[.agg #[.bool n,.slice a0 xs.length cap0],.int .i64 m] w fun e w'=>e=.returned (.int .i64 z)/\Old w w':=by
  intro z h1 h2 h3;clear e0 e1 e2
  cases n with
  | false=>
    have:=h1 rfl;subst this;clear h1 h2 h3;go_enter Tryz.func91,Tryz.ntmps91;go_wp2_with fail;refine (c _ (HV.out.old ((Old.refl w).alloc _))).mono ?_
    rintro e w2 ⟨rfl,g2⟩;have q0:w2.cell? ⟨w.heap.size,0,none⟩=some (Value.bool false):=(g2.cell (p:=⟨w.heap.size,0,none⟩) (by simp)).trans (Qae _ _ _ _ _ rfl)
    have HG:=Qaa (Old.trans ((Old.refl w).alloc _) g2);clear g2;go_wp2_with fail;go_ret;exact ⟨rfl,HG.out⟩
  | true=>
    rcases Nat.eq_zero_or_pos r with h0 | h0
    ·have:=h3 rfl h0;subst this;have d0:decide (0<r)=false:=decide_eq_false (by omega);clear h1 h2 h3 h0;go_enter Tryz.func91,Tryz.ntmps91;go_wp2_with fail;refine (c _ (HV.out.old ((Old.refl w).alloc _))).mono ?_
     rintro e w2 ⟨rfl,g2⟩;have q0:w2.cell? ⟨w.heap.size,0,none⟩=some (Value.bool true):=(g2.cell (p:=⟨w.heap.size,0,none⟩) (by simp)).trans (Qae _ _ _ _ _ rfl)
     have HG:=Qaa (Old.trans ((Old.refl w).alloc _) g2);clear g2;go_wp2_with fail;go_ret;exact ⟨rfl,HG.out⟩
    ·have:=h2 rfl h0;subst this;clear h1 h2 h3;go_enter Tryz.func91,Tryz.ntmps91;go_wp2_with fail;refine (c _ (HV.out.old ((Old.refl w).alloc _))).mono ?_
     rintro e w2 ⟨rfl,g2⟩;have q0:w2.cell? ⟨w.heap.size,0,none⟩=some (Value.bool true):=(g2.cell (p:=⟨w.heap.size,0,none⟩) (by simp)).trans (Qae _ _ _ _ _ rfl)
     have HG:=Qaa (Old.trans ((Old.refl w).alloc _) g2);clear g2;go_wp2_with fail;go_ret;exact ⟨rfl,HG.out⟩
 refine key _ (fun h=>?_) (fun h h0=>?_) (fun h h0=>?_)
 ·subst h;exact e0
 ·subst h;exact e1 h0
 ·subst h;exact e2 h0
end Go.Proofs.YtdaepfjocofkjaaGreatDoor
