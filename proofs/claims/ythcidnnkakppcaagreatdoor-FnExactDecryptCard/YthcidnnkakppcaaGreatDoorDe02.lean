/- Proved: what its theorems say. -/
import Derived.Test.YthcidnnkakppcaaGreatDoorDe00
import Derived.Deep.RegionWith
set_option linter.unusedVariables false
set_option linter.unusedSimpArgs false
set_option maxHeartbeats 4000000
namespace Go.Proofs.YthcidnnkakppcaaGreatDoor
open Go.ChangeShapes Go.WideShapes Go.ChangeAt Go.RowKit
open M2
abbrev StW (w:World) (k:Nat) (x y:Value) (t:TypeId):Prop:=w.heap[k]? = some (.cells #[x,y] t (0,0))
theorem StW.c0 {w:World} {k:Nat} {x y:Value} {t:TypeId} (h:StW w k x y t):w.cell? ⟨k,0,none⟩=some x:=cell_of_row w k 0 _ t (0,0) h
theorem StW.c1 {w:World} {k:Nat} {x y:Value} {t:TypeId} (h:StW w k x y t):w.cell? ⟨k,1,none⟩=some y:=cell_of_row w k 1 _ t (0,0) h
theorem StW.f0 {w:World} {k:Nat} {x y:Value} {t:TypeId} (h:StW w k x y t):w.frozen? ⟨k,0,none⟩=false:=frozen_of_row w k 0 _ t h
theorem StW.f1 {w:World} {k:Nat} {x y:Value} {t:TypeId} (h:StW w k x y t):w.frozen? ⟨k,1,none⟩=false:=frozen_of_row w k 1 _ t h
theorem StW.lt {w:World} {k:Nat} {x y:Value} {t:TypeId} (h:StW w k x y t):k<w.heap.size:=(Array.getElem?_eq_some_iff.1 h).1
theorem StW.old {w w':World} {k:Nat} {x y:Value} {t:TypeId} (h:StW w k x y t) (g:Old w w'):StW w' k x y t:=(g.block k h.lt).trans h
theorem StW.new (w:World) (x y:Value) (t:TypeId):StW (w.alloc (.cells #[x,y] t)) w.heap.size x y t:=heap_alloc_new w _
end Go.Proofs.YthcidnnkakppcaaGreatDoor
namespace Go.Proofs.YthcidnnkakppcaaGreatDoor
open Go.ChangeShapes Go.WideShapes Go.ChangeAt Go.RowKit
theorem StW.at2 (w:World) (x y x' y':Value) (t t':TypeId):StW ((w.alloc (.cells #[x,y] t)).alloc (.cells #[x',y'] t')) (w.heap.size+1) x' y' t':=heap_alloc2_new w _ _
theorem StW.at1 (w:World) (x y x' y':Value) (t t':TypeId):StW ((w.alloc (.cells #[x,y] t)).alloc (.cells #[x',y'] t')) w.heap.size x y t:=heap_alloc2_old w _ _
structure Made (w0:World) (rb:Bool) (rl:List Nat) (W:World) (k:Nat) (a:Option Addr) (cap:Nat):Prop where
 old:Old w0 W
 st:StW W k (.bool rb) (.slice a (toI rl).length cap) 65
 own:Own W w0.heap.size (.slice a (toI rl).length cap) (toI rl)
 lo:w0.heap.size<=k
theorem Qpr {w0 w5:World} {rb:Bool} {rl:List Nat} {a:Option Addr} {cap base k:Nat} (g:Old w0 w5) (o:Own w5 base (.slice a (toI rl).length cap) (toI rl)) (s:StW w5 k (.bool false) (.slice none 0 0) 65) (hb:w0.heap.size≤base) (hk:w0.heap.size≤k) (hne:k<base) :
  Made w0 rb rl ((w5.setCell ⟨k,0,none⟩ (.bool rb)).setCell ⟨k,1,none⟩ (.slice a (toI rl).length cap)) k a cap:=by
 refine ⟨(g.own (p:=⟨k,0,none⟩) hk _).own (p:=⟨k,1,none⟩) hk _,?_,?_,hk⟩
 ·have h1:=heap_setCell_same w5 k 0 _ _ (.bool rb) s;have h2:=heap_setCell_same _ k 1 _ _ (.slice a (toI rl).length cap) h1;exact h2
 ·refine Own.low (base:=base) (ownsRow_setCell_other (ownsRow_setCell_other o (fun e=>?_) _) (fun e=>?_) _) hb
  ·have:=(o.lt k e).1;omega
  ·have:=(o.lt k e).1;omega
def Bk (w:World) (k:Nat) (cs:Array Value) (t:TypeId):Prop:=w.heap[k]? = some (.cells cs t (0,0))
theorem Bk.lt {w:World} {k:Nat} {cs:Array Value} {t:TypeId} (h:Bk w k cs t):k<w.heap.size:=(Array.getElem?_eq_some_iff.1 h).1
theorem Bk.old {w w':World} {k:Nat} {cs:Array Value} {t:TypeId} (h:Bk w k cs t) (g:Old w w'):Bk w' k cs t:=(g.block k h.lt).trans h
theorem Bk.chg {w w':World} {k:Nat} {cs:Array Value} {t:TypeId} {lo hi:Nat} (h:Bk w k cs t) (c:Chg w w' lo hi) (hk:k<lo∨hi<=k):Bk w' k cs t:=(c.block k h.lt hk).trans h
theorem Bk.new' (w:World) {k:Nat} (cs:Array Value) (t:TypeId) (hk:w.heap.size=k):Bk (w.alloc (.cells cs t)) k cs t:=by
 subst hk;exact heap_alloc_new w _
theorem Bk.alloc {w:World} {k:Nat} {cs:Array Value} {t:TypeId} (h:Bk w k cs t) (o:Obj):Bk (w.alloc o) k cs t:=h.old ((Old.refl w).alloc o)
theorem Bk.c {w:World} {k:Nat} {cs:Array Value} {t:TypeId} (h:Bk w k cs t) {i:Nat} {v:Value} (hi:cs[i]? = some v):w.cell? ⟨k,i,none⟩=some v:=by
 rw [<- hi];exact cell_of_row w k i cs t (0,0) h
def OwI (xs:List Int) (W:World) (lo hi:Nat) (v:Value):Prop:=Own W lo v xs/\hi<=W.heap.size/\∀b,v.ownBlock=some b->b<hi
theorem OwI.of {W w':World} {v:Value} {xs:List Int} (o:Own w' W.heap.size v xs):OwI xs w' W.heap.size w'.heap.size v:=⟨o,Nat.le_refl _,fun b hb=>(o.lt b hb).2⟩
theorem OwI.row {W:World} {lo hi:Nat} {v:Value} {xs:List Int} (h:OwI xs W lo hi v):Row W v xs:=Own.row h.1
theorem Qzf {W W':World} {lo hi:Nat} {v:Value} {xs:List Int} (h:Own W lo v xs) (hh:∀b,v.ownBlock=some b->b<hi) (hf:∀b,lo<=b->b<hi->W'.heap[b]? = W.heap[b]?):Own W' lo v xs:=by
 refine ⟨h.1,?_⟩;rcases h.2 with hn | ⟨p,cap,cur,rfl,hb,hgg,rest⟩
 ·exact .inl hn
 ·refine .inr ⟨p,cap,cur,rfl,hb,?_,rest⟩;rw [hf p hb (hh p rfl)];exact hgg
theorem Qj2 (xs:List Int):Far (OwI xs):=fun W W' lo hi v h hf hs=>⟨Qzf h.1 h.2.2 hf,Nat.le_trans h.2.1 hs,h.2.2⟩
theorem OwI.mark {W w':World} {lo hi:Nat} {v:Value} {xs ys:List Int} (h:OwI xs W lo hi v) (g:W.grownBy w' v.ownBlock) (o:Own w' lo v ys):Chg W w' lo hi/\OwI ys w' lo hi v:=
 ⟨Q12 g (fun b hb=>⟨(h.1.lt b hb).1,h.2.2 b hb⟩),o,Nat.le_trans h.2.1 g.size,h.2.2⟩
def Qdk (left:Int) (len:Nat):Int:=if left<(len:Int) then -1 else left - len
theorem Qfk {left:Int} {len:Nat} (h:¬Qdk left len<0) (h0:0<=left):(len:Int)<=left/\Qdk left len=left - len/\0<=Qdk left len:=by
 unfold Qdk at *;split at h
 ·omega
 ·rename_i h2
  rw [if_neg h2];omega
abbrev Qba:=World->(Nat->Prop)->List Value->Prop
structure GoodT (E:Qba):Prop where
 far:∀{W W':World} {B:Nat->Prop} {cs:List Value},E W B cs->(∀b,B b->W'.heap[b]? = W.heap[b]?)->E W' B cs
 lt:∀{W:World} {B:Nat->Prop} {cs:List Value},E W B cs->∀b,B b->b<W.heap.size
def TI (xs:List Int):Qba:=fun W B cs=>∃a c,cs=[.slice a xs.length c]/\Own W 0 (.slice a xs.length c) xs/\xs.length<=c/\∀b,B b↔(Value.slice a xs.length c).ownBlock=some b
def TB (s:Bool) (E:Qba):Qba:=fun W B cs=>∃x,cs=[.bool s,x]/\E W B [x]
def Qaz (n:Nat) (vs:List Value) (j:Nat):List Value:=(vs.drop (j*n)).take n
structure TSc (T:TypeId) (n m k:Nat) (Es:Nat->Qba) (W:World) (p cap:Nat) (vs:List Value) (Bs:Nat->Nat->Prop):Prop where
 row:W.ownsRow 0 T n (.slice (some ⟨p,0,none⟩) m cap) m vs
 el:∀j,j<k->Es j W (Bs j) (Qaz n vs j)
 np:∀j,j<k->¬Bs j p
 dis:∀i j,i<k->j<k->i≠j->∀b,Bs i b->Bs j b->False
def TS (T:TypeId) (n m:Nat) (Es:Nat->Qba):Qba:=fun W B cs=>
 (m=0/\cs=[.slice none 0 0]/\∀b,¬B b)∨∃p cap vs Bs,cs=[.slice (some ⟨p,0,none⟩) m cap]/\TSc T n m m Es W p cap vs Bs/\∀b,B b↔b=p∨∃j,j<m/\Bs j b
def Ows (E:Qba) (W:World) (lo hi:Nat) (cs:List Value):Prop:=hi<=W.heap.size/\∃B,E W B cs/\∀b,B b->lo<=b/\b<hi
theorem Qhk {W W':World} {base p n m cap:Nat} {T:TypeId} {vs:List Value} (h:W.ownsRow base T n (.slice (some ⟨p,0,none⟩) m cap) m vs) (hf:W'.heap[p]? = W.heap[p]?):W'.ownsRow base T n (.slice (some ⟨p,0,none⟩) m cap) m vs:=by
 refine ⟨h.1,?_⟩;rcases h.2 with ⟨hn,_⟩ | ⟨p',cap',cur,e,hb,hgg,rest⟩
 ·cases hn
 ·simp only [Value.slice.injEq,Option.some.injEq,Addr.mk.injEq,true_and,and_true] at e;obtain ⟨rfl,rfl⟩:=e;exact .inr ⟨p,cap,cur,rfl,hb,hf.trans hgg,rest⟩
theorem Qa1 {W:World} {base p n m cap:Nat} {T:TypeId} {vs:List Value} (h:W.ownsRow base T n (.slice (some ⟨p,0,none⟩) m cap) m vs):p<W.heap.size:=(h.lt p rfl).2
theorem Qps {W W':World} {base:Nat} {v:Value} {xs:List Int} (h:Own W base v xs) (hf:∀b,v.ownBlock=some b->W'.heap[b]? = W.heap[b]?):Own W' base v xs:=by
 refine ⟨h.1,?_⟩;rcases h.2 with hn | ⟨p,cap,cur,rfl,hb,hgg,rest⟩
 ·exact .inl hn
 ·exact .inr ⟨p,cap,cur,rfl,hb,(hf p rfl).trans hgg,rest⟩
theorem Qcr (xs:List Int):GoodT (TI xs):=by
 constructor
 ·rintro W W' B cs ⟨a,c,e,o,f,hb⟩ hf;exact ⟨a,c,e,Qps o (fun b h=>hf b ((hb b).2 h)),f,hb⟩
 ·rintro W B cs ⟨a,c,e,o,f,hb⟩ b h;exact (o.lt b ((hb b).1 h)).2
theorem Qso (s:Bool) {E:Qba} (g:GoodT E):GoodT (TB s E):=by
 constructor
 ·rintro W W' B cs ⟨x,e,h⟩ hf;exact ⟨x,e,g.far h hf⟩
 ·rintro W B cs ⟨x,e,h⟩ b hb;exact g.lt h b hb
theorem TSc.far {T:TypeId} {n m k:Nat} {Es:Nat->Qba} {W W':World} {p cap:Nat} {vs:List Value} {Bs:Nat->Nat->Prop} (g:∀j,GoodT (Es j)) (h:TSc T n m k Es W p cap vs Bs) (hp:W'.heap[p]? = W.heap[p]?) (hf:∀j b,j<k->Bs j b->W'.heap[b]? = W.heap[b]?):TSc T n m k Es W' p cap vs Bs:=
 ⟨Qhk h.row hp,fun j hj=>(g j).far (h.el j hj) (fun b hb=>hf j b hj hb),h.np,h.dis⟩
theorem TSc.lt {T:TypeId} {n m k:Nat} {Es:Nat->Qba} {W:World} {p cap:Nat} {vs:List Value} {Bs:Nat->Nat->Prop} (g:∀j,GoodT (Es j)) (h:TSc T n m k Es W p cap vs Bs) (j b:Nat) (hj:j<k) (hb:Bs j b):b<W.heap.size:=(g j).lt (h.el j hj) b hb
theorem TSc.old {T:TypeId} {n m k:Nat} {Es:Nat->Qba} {W W':World} {p cap:Nat} {vs:List Value} {Bs:Nat->Nat->Prop} (g:∀j,GoodT (Es j)) (h:TSc T n m k Es W p cap vs Bs) (q:Old W W'):TSc T n m k Es W' p cap vs Bs:=
 h.far g (q.block p (Qa1 h.row)) (fun j b hj hb=>q.block b (h.lt g j b hj hb))
theorem Qsp (T:TypeId) (n m:Nat) {Es:Nat->Qba} (g:∀j,GoodT (Es j)):GoodT (TS T n m Es):=by
 constructor
 ·rintro W W' B cs (h | ⟨p,cap,vs,Bs,e,h,hb⟩) hf
  ·exact .inl h
  ·exact .inr ⟨p,cap,vs,Bs,e,h.far g (hf p ((hb p).2 (.inl rfl))) (fun j b hj hB=>hf b ((hb b).2 (.inr ⟨j,hj,hB⟩))),hb⟩
 ·rintro W B cs (h | ⟨p,cap,vs,Bs,e,h,hb⟩) b hB
  ·exact absurd hB (h.2.2 b)
  ·rcases (hb b).1 hB with rfl | ⟨j,hj,hB⟩
   ·exact Qa1 h.row
   ·exact h.lt g j b hj hB
theorem Qnu {E:Qba} (g:GoodT E):Far (Ows E):=fun W W' lo hi cs h hf hs=>by
 obtain ⟨hh,B,hE,hb⟩:=h;exact ⟨by omega,B,g.far hE (fun b hB=>hf b (hb b hB).1 (hb b hB).2),hb⟩
theorem Ows.low {E:Qba} {W:World} {lo lo' hi hi':Nat} {cs:List Value} (h:Ows E W lo hi cs) (hl:lo'<=lo) (hh:hi<=hi') (hs:hi'<=W.heap.size):Ows E W lo' hi' cs:=by
 obtain ⟨_,B,hE,hb⟩:=h;exact ⟨hs,B,hE,fun b hB=>by have:=hb b hB;omega⟩
theorem Ows.old {E:Qba} (g:GoodT E) {W W':World} {lo hi:Nat} {cs:List Value} (h:Ows E W lo hi cs) (q:Old W W'):Ows E W' lo hi cs:=(Qnu g).old h q h.1
theorem TS.slice {T:TypeId} {n m:Nat} {Es:Nat->Qba} {W:World} {B:Nat->Prop} {v:Value} (h:TS T n m Es W B [v]):∃a c,v=.slice a m c:=by
 rcases h with ⟨h0,h1,_⟩ | ⟨p,cap,vs,Bs,e,_⟩
 ·simp at h1;exact ⟨none,0,by rw [h1,h0]⟩
 ·simp at e;exact ⟨_,_,e⟩
theorem TI.slice {xs:List Int} {W:World} {B:Nat->Prop} {v:Value} (h:TI xs W B [v]):∃a c,v=.slice a xs.length c:=by
 obtain ⟨a,c,e,_⟩:=h;simp at e;exact ⟨a,c,e⟩
theorem TI.row {xs:List Int} {W:World} {B:Nat->Prop} {v:Value} (h:TI xs W B [v]):Row W v xs:=by
 obtain ⟨a,c,e,o,_⟩:=h;simp at e;rw [e];exact Own.row o
theorem Qbe {n m:Nat} {vs:List Value} (h:vs.length=m*n) (j:Nat) (hj:j<m):(Qaz n vs j).length=n:=by
 unfold Qaz;rw [List.length_take,List.length_drop,h];have:(j+1)*n<=m*n:=Nat.mul_le_mul_right n hj;rw [Nat.add_mul] at this;omega
theorem Qdp (n:Nat) (vs:List Value) (j i:Nat) (hi:i<n):(Qaz n vs j)[i]? = vs[j*n+i]?:=by
 unfold Qaz;rw [List.getElem?_take,if_pos hi,List.getElem?_drop]
theorem Qbl (n:Nat) (vs:List Value) (j i q:Nat) (x:Value) (hi:i<n):Qaz n (vs.set (j*n+i) x) q=if q=j then (Qaz n vs j).set i x else Qaz n vs q:=by
 apply List.ext_getElem?
 intro r;rcases Nat.lt_or_ge r n with hr | hr
 ·rw [Qdp n _ q r hr,List.getElem?_set]
  by_cases hq:q=j
  ·subst hq;rw [if_pos rfl,List.getElem?_set,Qdp n vs q r hr]
   by_cases hri:i=r
   ·subst hri;rw [if_pos rfl,if_pos rfl]
    by_cases hlen:q*n+i<vs.length
    ·rw [if_pos hlen,if_pos];unfold Qaz;rw [List.length_take,List.length_drop];omega
    ·rw [if_neg hlen,if_neg];unfold Qaz;rw [List.length_take,List.length_drop];omega
   ·rw [if_neg (by omega),if_neg hri]
  ·rw [if_neg hq,if_neg,Qdp n vs q r hr];intro e;apply hq;have h1:(j*n+i)/n=j:=by rw [Nat.mul_comm,Nat.mul_add_div (by omega),Nat.div_eq_of_lt hi];omega
   have h2:(q*n+r)/n=q:=by rw [Nat.mul_comm,Nat.mul_add_div (by omega),Nat.div_eq_of_lt hr];omega
   rw [<- h1,<- h2,e]
 ·have l1:∀(us:List Value) (z:Nat),(Qaz n us z)[r]? = none:=fun us z=>by
   apply List.getElem?_eq_none
   unfold Qaz;rw [List.length_take];omega
  rw [l1];split
  ·rw [List.getElem?_set];rw [if_neg (by omega)];exact (l1 vs j).symm
  ·exact (l1 vs q).symm
theorem TSc.cell {T:TypeId} {n m k:Nat} {Es:Nat->Qba} {W:World} {p cap:Nat} {vs:List Value} {Bs:Nat->Nat->Prop} (h:TSc T n m k Es W p cap vs Bs) (j i:Nat) (hj:j<m) (hi:i<n):W.cell? ⟨p,j*n+i,none⟩=(Qaz n vs j)[i]?:=by
 rw [World.ownsRow.cellAt h.row (j*n+i) (by
  have:(j+1)*n<=m*n:=Nat.mul_le_mul_right n hj;rw [Nat.add_mul] at this;omega),Qdp n vs j i hi]
theorem TSc.frozen {T:TypeId} {n m k:Nat} {Es:Nat->Qba} {W:World} {p cap:Nat} {vs:List Value} {Bs:Nat->Nat->Prop} (h:TSc T n m k Es W p cap vs Bs) (j:Nat):W.frozen? ⟨p,j,none⟩=false:=World.ownsRow.frozenAt h.row j
theorem TSc.sub {T:TypeId} {n m k:Nat} {Es:Nat→Qba} {W w':World} {p cap:Nat} {vs:List Value} {Bs:Nat→Nat→Prop} (g:∀j,GoodT (Es j)) (h:TSc T n m k Es W p cap vs Bs) (j:Nat) (hj:j<k) {E':Qba}
  (hf:∀b,b<W.heap.size->¬Bs j b->w'.heap[b]? = W.heap[b]?) (he:E' w' (Bs j) (Qaz n vs j)):TSc T n m k (fun q=>if q=j then E' else Es q) w' p cap vs Bs:=by
 refine ⟨Qhk h.row (hf p (Qa1 h.row) (h.np j hj)),fun q hq=>?_,h.np,h.dis⟩
 by_cases hqj:q=j
 ·subst hqj;rw [if_pos rfl];exact he
 ·rw [if_neg hqj];exact (g q).far (h.el q hq) (fun b hb=>hf b (h.lt g q b hq hb) (fun hx=>h.dis q j hq hj hqj b hb hx))
theorem TSc.start {T:TypeId} {n m:Nat} {Es:Nat->Qba} {W:World} {p cap:Nat} {vs:List Value} (h:W.ownsRow 0 T n (.slice (some ⟨p,0,none⟩) m cap) m vs):TSc T n m 0 Es W p cap vs (fun _ _=>False):=
 ⟨h,fun j hj=>by omega,fun j hj=>by omega,fun i j hi=>by omega⟩
theorem TSc.fill {T:TypeId} {n m k:Nat} {Es:Nat->Qba} {W:World} {p cap:Nat} {vs:List Value} {Bs:Nat->Nat->Prop} (g:∀j,GoodT (Es j)) (h:TSc T n m k Es W p cap vs Bs) (i:Nat) (hi:i<n) (x:Value):TSc T n m k Es (W.setCell ⟨p,k*n+i,none⟩ x) p cap (vs.set (k*n+i) x) Bs:=by
 have hot:∀b,b≠p->(W.setCell ⟨p,k*n+i,none⟩ x).heap[b]? = W.heap[b]?:=fun b hb=>heap_setCell_other _ _ _ _ hb
 refine ⟨(World.ownsRow.stored h.row _ _).1,fun q hq=>?_,h.np,h.dis⟩;rw [Qbl n vs k i q x hi,if_neg (by omega)];exact (g q).far (h.el q hq) (fun b hb=>hot b (fun e=>h.np q hq (by rw [<- e];exact hb)))
theorem TSc.more {T:TypeId} {n m k:Nat} {Es:Nat->Qba} {W:World} {p cap:Nat} {vs:List Value} {Bs:Nat->Nat->Prop} {B:Nat->Prop} (h:TSc T n m k Es W p cap vs Bs) (he:Es k W B (Qaz n vs k)) (hp:¬B p) (hd:∀j,j<k->∀b,Bs j b->B b->False):TSc T n m (k+1) Es W p cap vs (fun q=>if q=k then B else Bs q):=by
 refine ⟨h.row,fun j hj=>?_,fun j hj=>?_,fun i j hi hj hij b=>?_⟩
 ·by_cases e:j=k
  ·subst e;simp only [if_true];exact he
  ·simp only [e,if_false];exact h.el j (by omega)
 ·by_cases e:j=k
  ·simp only [e,if_true];exact hp
  ·simp only [e,if_false];exact h.np j (by omega)
 ·by_cases e:i=k
  ·have e2:¬j=k:=by omega
   simp only [e,e2,if_true,if_false];exact fun h1 h2=>hd j (by omega) b h2 h1
  ·by_cases e2:j=k
   ·simp only [e,e2,if_true,if_false];exact fun h1 h2=>hd i (by omega) b h1 h2
   ·simp only [e,e2,if_false];exact h.dis i j (by omega) (by omega) hij b
theorem TSc.done {T:TypeId} {n m:Nat} {Es:Nat->Qba} {W:World} {p cap lo:Nat} {vs:List Value} {Bs:Nat->Nat->Prop} (g:∀j,GoodT (Es j)) (h:TSc T n m m Es W p cap vs Bs) (hp:lo<=p) (hb:∀j b,j<m->Bs j b->lo<=b):Ows (TS T n m Es) W lo W.heap.size [.slice (some ⟨p,0,none⟩) m cap]:=by
 refine ⟨Nat.le_refl _,fun b=>b=p∨∃j,j<m/\Bs j b,.inr ⟨p,cap,vs,Bs,rfl,h,fun b=>Iff.rfl⟩,fun b hB=>?_⟩;rcases hB with rfl | ⟨j,hj,hB⟩
 ·exact ⟨hp,Qa1 h.row⟩
 ·exact ⟨hb j b hj hB,h.lt g j b hj hB⟩
theorem TS.ext {T:TypeId} {n m:Nat} {Es Es':Nat->Qba} {W:World} {B:Nat->Prop} {cs:List Value} (he:∀j,j<m->Es j=Es' j) (h:TS T n m Es W B cs):TS T n m Es' W B cs:=by
 rcases h with h | ⟨p,cap,vs,Bs,e,h,hb⟩
 ·exact .inl h
 ·exact .inr ⟨p,cap,vs,Bs,e,⟨h.row,fun j hj=>by rw [<- he j hj];exact h.el j hj,h.np,h.dis⟩,hb⟩
theorem TSc.ext {T:TypeId} {n m k:Nat} {Es Es':Nat->Qba} {W:World} {p cap:Nat} {vs:List Value} {Bs:Nat->Nat->Prop} (he:∀j,j<k->Es j=Es' j) (h:TSc T n m k Es W p cap vs Bs):TSc T n m k Es' W p cap vs Bs:=
 ⟨h.row,fun j hj=>by rw [<- he j hj];exact h.el j hj,h.np,h.dis⟩
theorem TI.of {W:World} {lo:Nat} {v:Value} {xs:List Int} (o:Own W lo v xs):∃B,TI xs W B [v]/\∀b,B b->lo<=b:=by
 obtain ⟨a,c,rfl⟩:=(Own.row o).slice;refine ⟨fun b=>(Value.slice a xs.length c).ownBlock=some b,⟨a,c,rfl,Own.low o (Nat.zero_le _),?_,fun b=>Iff.rfl⟩,fun b hb=>(o.lt b hb).1⟩;rcases o.2 with ⟨e,h0⟩ | ⟨p,cap,cur,e,_,_,h,_⟩
 ·simp at e;omega
 ·simp only [Value.slice.injEq] at e;omega
theorem TI.own {W:World} {lo:Nat} {B:Nat->Prop} {v:Value} {xs:List Int} (h:TI xs W B [v]) (hb:∀b,B b->lo<=b):Own W lo v xs:=by
 obtain ⟨a,c,e,o,f,hB⟩:=h;simp at e;subst e;refine ⟨o.1,?_⟩;rcases o.2 with hn | ⟨p,cap,cur,e,_,rest⟩
 ·exact .inl hn
 ·refine .inr ⟨p,cap,cur,e,hb p ((hB p).2 (by rw [e];rfl)),rest⟩
theorem TI.blocks {W:World} {B:Nat->Prop} {v:Value} {xs:List Int} (h:TI xs W B [v]):∀b,B b↔v.ownBlock=some b:=by
 obtain ⟨a,c,e,o,f,hB⟩:=h;simp at e;subst e;exact hB
theorem Qnv {n m:Nat} {vs:List Value} (news:List Value) (h:vs.length=m*n) (j:Nat) (hj:j<m):Qaz n (vs++news) j=Qaz n vs j:=by
 have hb:(j+1)*n<=m*n:=Nat.mul_le_mul_right n hj;rw [Nat.add_mul] at hb;unfold Qaz;rw [List.drop_append_of_le_length (by omega),List.take_append_of_le_length];rw [List.length_drop];omega
theorem Qnw {n m:Nat} {vs news:List Value} (h:vs.length=m*n) (hn:news.length=n):Qaz n (vs++news) m=news:=by
 unfold Qaz;rw [<- h,List.drop_left,<- hn,List.take_length]
theorem Ows.app {T:TypeId} {n m:Nat} {Es:Nat→Qba} {E:Qba} {W0 W:World} {lo:Nat} {x:Value} {Be:Nat→Prop} {news:List Value} (g:∀j,GoodT (Es j)) (gE:GoodT E)
  (h:Ows (TS T n m Es) W0 lo W0.heap.size [x]) (hlo:lo<=W0.heap.size) (q:Old W0 W) (he:E W Be news) (hbe:∀b,Be b->W0.heap.size<=b) (hn:news.length=n) :
  ∃vs,W.ownsRow 0 T n x m vs/\(∀b,x.ownBlock=some b->lo<=b)/\∀v' w',w'.ownsRow 0 T n v' (m+1) (vs++news)->W.grownBy w' x.ownBlock->(v'.ownBlock=x.ownBlock∨v'.ownBlock=some W.heap.size)->
   Ows (TS T n (m+1) (fun j=>if j=m then E else Es j)) w' lo w'.heap.size [v']:=by
 have hsz:=q.size
 have key:∃(vs:List Value) (Bs:Nat->Nat->Prop),W.ownsRow 0 T n x m vs/\(∀b,x.ownBlock=some b->lo<=b/\b<W0.heap.size)/\(∀j,j<m->Es j W (Bs j) (Qaz n vs j))/\(∀j b,j<m->Bs j b->(lo<=b/\b<W0.heap.size)/\x.ownBlock≠some b)/\(∀i j,i<m->j<m->i≠j->∀b,Bs i b->Bs j b->False):=by
  obtain ⟨hh,B,hT,hB⟩:=h;rcases hT with ⟨h0,h1,_⟩ | ⟨p,cap,vs,Bs,e,hc,hb⟩
  ·simp at h1;subst h0 h1;exact ⟨[],fun _ _=>False,⟨by simp,.inl ⟨rfl,rfl⟩⟩,(fun b hb=>by cases hb),(fun j hj=>by omega),(fun j b hj=>by omega),(fun i j hi=>by omega)⟩
  ·simp at e;subst e;have hc':=hc.old g q;refine ⟨vs,Bs,hc'.row,fun b hx=>?_,hc'.el,fun j b hj hx=>⟨hB b ((hb b).2 (.inr ⟨j,hj,hx⟩)),fun e=>?_⟩,hc.dis⟩
   ·simp only [Value.ownBlock,Option.some.injEq] at hx;subst hx;exact hB p ((hb p).2 (.inl rfl))
   ·simp only [Value.ownBlock,Option.some.injEq] at e;subst e;exact hc.np j hj hx
 obtain ⟨vs,Bs,ho,hx,hel,hbs,hdis⟩:=key;have hvl:=ho.1;refine ⟨vs,ho,fun b hb=>(hx b hb).1,fun v' w' ho' gr hv'=>?_⟩;rcases ho'.2 with ⟨_,h0⟩ | ⟨p',cap',cur,e',hb',hgg,rest⟩
 ·omega
 subst e'
 have hcase:x.ownBlock=some p'∨p'=W.heap.size:=by
  rcases hv' with e | e
  ·exact .inl e.symm
  ·simp only [Value.ownBlock,Option.some.injEq] at e;exact .inr e
 have hlop:lo<=p':=by
  rcases hcase with e | e
  ·exact (hx p' e).1
  ·omega
 have hbE:=fun b hb=>gE.lt he b hb
 have keep:∀b,b<W.heap.size->x.ownBlock≠some b->w'.heap[b]? = W.heap[b]?:=fun b h1 h2=>gr.block b h1 (fun e=>h2 e.symm)
 have hnE:∀b,Be b->x.ownBlock≠some b:=fun b hb e=>by
  have:=(hx b e).2;have:=hbe b hb;omega
 have hT:TSc T n (m+1) (m+1) (fun j=>if j=m then E else Es j) w' p' cap' (vs++news) (fun j=>if j=m then Be else Bs j):=by
  refine ⟨ho',fun j hj=>?_,fun j hj=>?_,fun i j hi hj hij b=>?_⟩
  ·by_cases e:j=m
   ·subst e;simp only [if_true];rw [Qnw hvl hn];exact gE.far he (fun b hb=>keep b (hbE b hb) (hnE b hb))
   ·simp only [e,if_false];rw [Qnv news hvl j (by omega)];exact (g j).far (hel j (by omega)) (fun b hb=>keep b (by have:=(hbs j b (by omega) hb).1;omega) (hbs j b (by omega) hb).2)
  ·by_cases e:j=m
   ·simp only [e,if_true];intro hb;rcases hcase with e2 | e2
    ·exact hnE p' hb e2
    ·have:=hbE p' hb;omega
   ·simp only [e,if_false];intro hb;have h3:=hbs j p' (by omega) hb;rcases hcase with e2 | e2
    ·exact h3.2 e2
    ·omega
  ·by_cases e:i=m
   ·have e2:¬j=m:=by omega
    simp only [e,e2,if_true,if_false];intro h1 h2;have:=hbe b h1;have:=(hbs j b (by omega) h2).1;omega
   ·by_cases e2:j=m
    ·simp only [e,e2,if_true,if_false];intro h1 h2;have:=hbe b h2;have:=(hbs i b (by omega) h1).1;omega
    ·simp only [e,e2,if_false];exact hdis i j (by omega) (by omega) hij b
 refine hT.done (fun j=>by by_cases e:j=m <;> simp only [e,if_true,if_false];exact gE;exact g j) hlop (fun j b hj hb=>?_)
 by_cases e:j=m
 ·simp only [e,if_true] at hb;have:=hbe b hb;omega
 ·simp only [e,if_false] at hb;exact (hbs j b (by omega) hb).1.1
theorem Ows.nil {T:TypeId} {n:Nat} {Es:Nat->Qba} {W:World} {lo hi:Nat} (hh:hi<=W.heap.size):Ows (TS T n 0 Es) W lo hi [.slice none 0 0]:=
 ⟨hh,fun _=>False,.inl ⟨rfl,rfl,fun b hb=>hb⟩,fun b hb=>hb.elim⟩
end Go.Proofs.YthcidnnkakppcaaGreatDoor
namespace Go.Proofs.YthcidnnkakppcaaGreatDoor
open Go.ChangeShapes Go.WideShapes Go.ChangeAt Go.RowKit
open M2
def sv (neg:Bool) (xs:List Nat):Int:=if neg then -(val xs:Int) else (val xs:Int)
def Gw (neg:Bool) (xs:List Nat):Prop:=Nrm xs/\(neg=true->xs≠[])
def ng (z:Int):Bool:=decide (z<0)
def dg (z:Int):List Nat:=dig z.natAbs
theorem Gw.pos {neg:Bool} {xs:List Nat} (h:Gw neg xs) (hn:neg=true):0<val xs:=by
 rcases Nat.eq_zero_or_pos (val xs) with h0 | h0
 ·exact absurd (Qbs h.1 h0) (h.2 hn)
 ·exact h0
theorem Qim (z:Int):Gw (ng z) (dg z):=by
 refine ⟨Qbm _,fun h=>Qgm ?_⟩;simp [ng] at h;omega
theorem Qfl (z:Int):sv (ng z) (dg z)=z:=by
 unfold sv ng dg;rw [Qag]
 by_cases h:z<0
 ·simp [h];omega
 ·simp [h];omega
theorem Qsq (n:Bool) (xs ys:List Nat) (v u:Value) (w:World) (hv:Row w v (toI xs)) (hu:Row w u (toI ys)) (ha:Lim xs) (hb:Lim ys) (la:xs.length≤1048576) (lb:ys.length≤1048576) :
  Calls Tryz.prog 54 #[.agg #[.bool n,v],.agg #[.bool n,u]] w fun e w'=>∃v',e=.returned (.agg #[.bool n,v'])/\Old w w'/\Own w' w.heap.size v' (toI (dig (val xs+val ys))):=by
 have HV:=Qaa hv;have HU:=Qaa hu;obtain ⟨a0,cap0,rfl⟩:=hv.sliceN;obtain ⟨a1,cap1,rfl⟩:=hu.sliceN;clear hv hu;go_enter Tryz.func54,Tryz.ntmps54;go_wp2_with fail;have HA:Hid (∀t1 t2 t3 xs1 xs2 xs3,Old w (((w.alloc (.cells xs1 t1)).alloc (.cells xs2 t2)).alloc (.cells xs3 t3))):=fun t1 t2 t3 xs1 xs2 xs3=>(((Old.refl w).alloc _).alloc _).alloc _
 go_region_with (go_at_call 57;refine (Qj1 xs ys _ _ _ (HV.out.old ((HA.out _ _ _ _ _ _).drewN 1)) (HU.out.old ((HA.out _ _ _ _ _ _).drewN 1)) ha hb la lb).mono ?_;rintro e w5 ⟨v5,rfl,g5,o5⟩;obtain ⟨a5,cap5,rfl⟩:=(Own.row o5).sliceN;have a0_ : w5.cell? ⟨w.heap.size,0,none⟩=some (Value.bool n):=(g5.cell (p:=⟨w.heap.size,0,none⟩) (by simp;try omega)).trans (Q11 _ _ _ _ _ _ _ _);have q0:w5.cell? ⟨w.heap.size+1+1,0,none⟩=some (Value.bool false):=(g5.cell (p:=⟨w.heap.size+1+1,0,none⟩) (by simp;try omega)).trans (Qvk _ _ _ _ _ _ _ _);have q1:w5.cell? ⟨w.heap.size+1+1,1,none⟩=some (Value.slice none 0 0):=(g5.cell (p:=⟨w.heap.size+1+1,1,none⟩) (by simp;try omega)).trans (Qvk _ _ _ _ _ _ _ _);have f0:=(g5.frozen (p:=⟨w.heap.size+1+1,0,none⟩) (by simp;try omega)).trans (Qvl _ _ _ _ _ _ _ _);have f1:=(g5.frozen (p:=⟨w.heap.size+1+1,1,none⟩) (by simp;try omega)).trans (Qvl _ _ _ _ _ _ _ _);have HG5:=Qaa (Old.trans ((HA.out _ _ _ _ _ _).drewN 1) g5);have HO5:Hid (Own w5 (w.heap.size+3) (.slice a5 (dig (val xs+val ys)).length cap5) (toI (dig (val xs+val ys)))):=Own.low o5 (by simp);clear g5 o5)
 all_goals
  go_wp2_with fail;refine bodyPost_ret (v:=.agg #[.bool n,.slice a5 (dig (val xs+val ys)).length cap5]) (by simp [results,Tryz.results54,go_sem,q0,q1]) rfl ⟨_,rfl,?_,?_⟩
  ·exact (HG5.out.own (p:=⟨w.heap.size+1+1,0,none⟩) (by simp;omega) _).own (p:=⟨w.heap.size+1+1,1,none⟩) (by simp;omega) _
  ·refine Own.low (base:=w.heap.size+3) (ownsRow_setCell_other (ownsRow_setCell_other HO5.out (fun e=>?_) _) (fun e=>?_) _) (by omega)
   ·have:=(HO5.out.lt (w.heap.size+1+1) e).1;omega
   ·have:=(HO5.out.lt (w.heap.size+1+1) e).1;omega
theorem Qsr (n m:Bool) (xs ys:List Nat) (v u:Value) (w:World) (hv:Row w v (toI xs)) (hu:Row w u (toI ys)) (ha:Nrm xs) (hb:Nrm ys) (la:xs.length≤1048576) (lb:ys.length≤1048576) (hnm:(n==m)=false) (hc:val ys<val xs) :
  Calls Tryz.prog 54 #[.agg #[.bool n,v],.agg #[.bool m,u]] w fun e w'=>∃v',e=.returned (.agg #[.bool n,v'])/\Old w w'/\Own w' w.heap.size v' (toI (dig (val xs - val ys))):=by
 have HV:=Qaa hv;have HU:=Qaa hu;obtain ⟨a0,cap0,rfl⟩:=hv.sliceN;obtain ⟨a1,cap1,rfl⟩:=hu.sliceN;have HCV:Hid (Qb3 (val xs) (val ys)=1):=by unfold Qb3;rw [if_neg (by omega),if_pos hc];rfl
 have HLE:=Qaa (Nat.le_of_lt hc);clear hv hu hc;go_enter Tryz.func54,Tryz.ntmps54;go_wp2_with fail;have HA:Hid (∀t1 t2 t3 xs1 xs2 xs3,Old w (((w.alloc (.cells xs1 t1)).alloc (.cells xs2 t2)).alloc (.cells xs3 t3))):=fun t1 t2 t3 xs1 xs2 xs3=>(((Old.refl w).alloc _).alloc _).alloc _
 refine (Qhh xs ys _ _ _ (HV.out.old (HA.out _ _ _ _ _ _)) (HU.out.old (HA.out _ _ _ _ _ _)) ha hb (by omega) (by omega)).mono ?_
 rintro e w2 ⟨rfl,g2⟩;have HG2:=Qaa (Old.trans (HA.out _ _ _ _ _ _) g2);have a0_ : w2.cell? ⟨w.heap.size,0,none⟩=some (Value.bool n):=(g2.cell (p:=⟨w.heap.size,0,none⟩) (by simp;try omega)).trans (Q11 _ _ _ _ _ _ _ _)
 have a1_ : w2.cell? ⟨w.heap.size,1,none⟩=some (Value.slice a0 xs.length cap0):=(g2.cell (p:=⟨w.heap.size,1,none⟩) (by simp;try omega)).trans (Q11 _ _ _ _ _ _ _ _)
 have b1_ : w2.cell? ⟨w.heap.size+1,1,none⟩=some (Value.slice a1 ys.length cap1):=(g2.cell (p:=⟨w.heap.size+1,1,none⟩) (by simp;try omega)).trans (Q1u _ _ _ _ _ _ _ _)
 have q0_ : w2.cell? ⟨w.heap.size+1+1,0,none⟩=some (Value.bool false):=(g2.cell (p:=⟨w.heap.size+1+1,0,none⟩) (by simp;try omega)).trans (Qvk _ _ _ _ _ _ _ _)
 have q1_ : w2.cell? ⟨w.heap.size+1+1,1,none⟩=some (Value.slice none 0 0):=(g2.cell (p:=⟨w.heap.size+1+1,1,none⟩) (by simp;try omega)).trans (Qvk _ _ _ _ _ _ _ _)
 have f0_:=(g2.frozen (p:=⟨w.heap.size+1+1,0,none⟩) (by simp;try omega)).trans (Qvl _ _ _ _ _ _ _ _);have f1_:=(g2.frozen (p:=⟨w.heap.size+1+1,1,none⟩) (by simp;try omega)).trans (Qvl _ _ _ _ _ _ _ _);have hsz:w.heap.size+3<=w2.heap.size:=by have:=g2.size;simp at this;omega
 rw [HCV.out];clear g2 HA;go_wp2_with fail
 go_region_with (go_at_call 84;refine (Qhi xs ys _ _ _ (HV.out.old (HG2.out.drewN 1)) (HU.out.old (HG2.out.drewN 1)) ha hb la lb HLE.out).mono ?_;rintro e w5 ⟨v5,rfl,g5,o5⟩;obtain ⟨a5,cap5,rfl⟩:=(Own.row o5).sliceN;have a0z:=(g5.cell (p:=⟨w.heap.size,0,none⟩) (by show w.heap.size<w2.heap.size;omega)).trans a0_;have q0z:=(g5.cell (p:=⟨w.heap.size+1+1,0,none⟩) (by show w.heap.size+1+1<w2.heap.size;omega)).trans q0_;have q1z:=(g5.cell (p:=⟨w.heap.size+1+1,1,none⟩) (by show w.heap.size+1+1<w2.heap.size;omega)).trans q1_;have f0z:=(g5.frozen (p:=⟨w.heap.size+1+1,0,none⟩) (by show w.heap.size+1+1<w2.heap.size;omega)).trans f0_;have f1z:=(g5.frozen (p:=⟨w.heap.size+1+1,1,none⟩) (by show w.heap.size+1+1<w2.heap.size;omega)).trans f1_;have HG5:=Qaa (Old.trans (HG2.out.drewN 1) g5);have HO5:=Qaa (Own.low o5 (by show w.heap.size+3<=w2.heap.size;omega));clear g5 o5)
 all_goals
  go_wp2_with fail;refine bodyPost_ret (v:=.agg #[.bool n,.slice a5 (dig (val xs - val ys)).length cap5]) (by simp [results,Tryz.results54,go_sem,q0z,q1z]) rfl ⟨_,rfl,?_,?_⟩
  ·exact (HG5.out.own (p:=⟨w.heap.size+1+1,0,none⟩) (by simp;omega) _).own (p:=⟨w.heap.size+1+1,1,none⟩) (by simp;omega) _
  ·refine Own.low (base:=w.heap.size+3) (ownsRow_setCell_other (ownsRow_setCell_other HO5.out (fun e=>?_) _) (fun e=>?_) _) (by omega)
   ·have:=(HO5.out.lt (w.heap.size+1+1) e).1;omega
   ·have:=(HO5.out.lt (w.heap.size+1+1) e).1;omega
theorem Qss (n m:Bool) (xs ys:List Nat) (v u:Value) (w:World) (hv:Row w v (toI xs)) (hu:Row w u (toI ys)) (ha:Nrm xs) (hb:Nrm ys) (la:xs.length≤1048576) (lb:ys.length≤1048576) (hnm:(n==m)=false) (hc:val xs<val ys) :
  Calls Tryz.prog 54 #[.agg #[.bool n,v],.agg #[.bool m,u]] w fun e w'=>∃v',e=.returned (.agg #[.bool m,v'])/\Old w w'/\Own w' w.heap.size v' (toI (dig (val ys - val xs))):=by
 have HV:=Qaa hv;have HU:=Qaa hu;obtain ⟨a0,cap0,rfl⟩:=hv.sliceN;obtain ⟨a1,cap1,rfl⟩:=hu.sliceN;have HCV:Hid (Qb3 (val xs) (val ys) = -1):=by unfold Qb3;rw [if_pos hc];rfl
 have HLE:=Qaa (Nat.le_of_lt hc);clear hv hu hc;go_enter Tryz.func54,Tryz.ntmps54;go_wp2_with fail;have HA:Hid (∀t1 t2 t3 xs1 xs2 xs3,Old w (((w.alloc (.cells xs1 t1)).alloc (.cells xs2 t2)).alloc (.cells xs3 t3))):=fun t1 t2 t3 xs1 xs2 xs3=>(((Old.refl w).alloc _).alloc _).alloc _
 refine (Qhh xs ys _ _ _ (HV.out.old (HA.out _ _ _ _ _ _)) (HU.out.old (HA.out _ _ _ _ _ _)) ha hb (by omega) (by omega)).mono ?_
 rintro e w2 ⟨rfl,g2⟩;have HG2:=Qaa (Old.trans (HA.out _ _ _ _ _ _) g2);have a1_ : w2.cell? ⟨w.heap.size,1,none⟩=some (Value.slice a0 xs.length cap0):=(g2.cell (p:=⟨w.heap.size,1,none⟩) (by simp;try omega)).trans (Q11 _ _ _ _ _ _ _ _)
 have b0_ : w2.cell? ⟨w.heap.size+1,0,none⟩=some (Value.bool m):=(g2.cell (p:=⟨w.heap.size+1,0,none⟩) (by simp;try omega)).trans (Q1u _ _ _ _ _ _ _ _)
 have b1_ : w2.cell? ⟨w.heap.size+1,1,none⟩=some (Value.slice a1 ys.length cap1):=(g2.cell (p:=⟨w.heap.size+1,1,none⟩) (by simp;try omega)).trans (Q1u _ _ _ _ _ _ _ _)
 have q0_ : w2.cell? ⟨w.heap.size+1+1,0,none⟩=some (Value.bool false):=(g2.cell (p:=⟨w.heap.size+1+1,0,none⟩) (by simp;try omega)).trans (Qvk _ _ _ _ _ _ _ _)
 have q1_ : w2.cell? ⟨w.heap.size+1+1,1,none⟩=some (Value.slice none 0 0):=(g2.cell (p:=⟨w.heap.size+1+1,1,none⟩) (by simp;try omega)).trans (Qvk _ _ _ _ _ _ _ _)
 have f0_:=(g2.frozen (p:=⟨w.heap.size+1+1,0,none⟩) (by simp;try omega)).trans (Qvl _ _ _ _ _ _ _ _);have f1_:=(g2.frozen (p:=⟨w.heap.size+1+1,1,none⟩) (by simp;try omega)).trans (Qvl _ _ _ _ _ _ _ _);have hsz:w.heap.size+3<=w2.heap.size:=by have:=g2.size;simp at this;omega
 rw [HCV.out];clear g2 HA;go_wp2_with fail
 go_region_with (go_at_call 84;refine (Qhi ys xs _ _ _ (HU.out.old (HG2.out.drewN 1)) (HV.out.old (HG2.out.drewN 1)) hb ha lb la HLE.out).mono ?_;rintro e w5 ⟨v5,rfl,g5,o5⟩;obtain ⟨a5,cap5,rfl⟩:=(Own.row o5).sliceN;have b0z:=(g5.cell (p:=⟨w.heap.size+1,0,none⟩) (by show w.heap.size+1<w2.heap.size;omega)).trans b0_;have q0z:=(g5.cell (p:=⟨w.heap.size+1+1,0,none⟩) (by show w.heap.size+1+1<w2.heap.size;omega)).trans q0_;have q1z:=(g5.cell (p:=⟨w.heap.size+1+1,1,none⟩) (by show w.heap.size+1+1<w2.heap.size;omega)).trans q1_;have f0z:=(g5.frozen (p:=⟨w.heap.size+1+1,0,none⟩) (by show w.heap.size+1+1<w2.heap.size;omega)).trans f0_;have f1z:=(g5.frozen (p:=⟨w.heap.size+1+1,1,none⟩) (by show w.heap.size+1+1<w2.heap.size;omega)).trans f1_;have HG5:=Qaa (Old.trans (HG2.out.drewN 1) g5);have HO5:=Qaa (Own.low o5 (by show w.heap.size+3<=w2.heap.size;omega));clear g5 o5)
 all_goals
  go_wp2_with fail;refine bodyPost_ret (v:=.agg #[.bool m,.slice a5 (dig (val ys - val xs)).length cap5]) (by simp [results,Tryz.results54,go_sem,q0z,q1z]) rfl ⟨_,rfl,?_,?_⟩
  ·exact (HG5.out.own (p:=⟨w.heap.size+1+1,0,none⟩) (by simp;omega) _).own (p:=⟨w.heap.size+1+1,1,none⟩) (by simp;omega) _
  ·refine Own.low (base:=w.heap.size+3) (ownsRow_setCell_other (ownsRow_setCell_other HO5.out (fun e=>?_) _) (fun e=>?_) _) (by omega)
   ·have:=(HO5.out.lt (w.heap.size+1+1) e).1;omega
   ·have:=(HO5.out.lt (w.heap.size+1+1) e).1;omega
theorem Qst (n m:Bool) (xs ys:List Nat) (v u:Value) (w:World) (hv:Row w v (toI xs)) (hu:Row w u (toI ys)) (ha:Nrm xs) (hb:Nrm ys) (la:xs.length≤1048576) (lb:ys.length≤1048576) (hnm:(n==m)=false) (hc:val xs=val ys) :
  Calls Tryz.prog 54 #[.agg #[.bool n,v],.agg #[.bool m,u]] w fun e w'=>∃v',e=.returned (.agg #[.bool false,v'])/\Old w w'/\Own w' w.heap.size v' (toI (dig 0)):=by
 have HV:=Qaa hv;have HU:=Qaa hu;obtain ⟨a0,cap0,rfl⟩:=hv.sliceN;obtain ⟨a1,cap1,rfl⟩:=hu.sliceN;have HCV:Hid (Qb3 (val xs) (val ys)=0):=by unfold Qb3;rw [hc,if_neg (by omega),if_neg (by omega)];rfl
 clear hv hu hc;go_enter Tryz.func54,Tryz.ntmps54;go_wp2_with fail;have HA:Hid (∀t1 t2 t3 xs1 xs2 xs3,Old w (((w.alloc (.cells xs1 t1)).alloc (.cells xs2 t2)).alloc (.cells xs3 t3))):=fun t1 t2 t3 xs1 xs2 xs3=>(((Old.refl w).alloc _).alloc _).alloc _
 refine (Qhh xs ys _ _ _ (HV.out.old (HA.out _ _ _ _ _ _)) (HU.out.old (HA.out _ _ _ _ _ _)) ha hb (by omega) (by omega)).mono ?_
 rintro e w2 ⟨rfl,g2⟩;have HG2:=Qaa (Old.trans (HA.out _ _ _ _ _ _) g2);have q0_ : w2.cell? ⟨w.heap.size+1+1,0,none⟩=some (Value.bool false):=(g2.cell (p:=⟨w.heap.size+1+1,0,none⟩) (by simp;try omega)).trans (Qvk _ _ _ _ _ _ _ _)
 have q1_ : w2.cell? ⟨w.heap.size+1+1,1,none⟩=some (Value.slice none 0 0):=(g2.cell (p:=⟨w.heap.size+1+1,1,none⟩) (by simp;try omega)).trans (Qvk _ _ _ _ _ _ _ _)
 have f0_:=(g2.frozen (p:=⟨w.heap.size+1+1,0,none⟩) (by simp;try omega)).trans (Qvl _ _ _ _ _ _ _ _);have f1_:=(g2.frozen (p:=⟨w.heap.size+1+1,1,none⟩) (by simp;try omega)).trans (Qvl _ _ _ _ _ _ _ _);rw [HCV.out];clear g2 HA;go_wp2_with fail;refine bodyPost_ret (v:=.agg #[.bool false,.slice none 0 0]) (by simp [results,Tryz.results54,go_sem,q0_,q1_]) rfl ⟨_,rfl,?_,?_⟩
 ·exact (HG2.out.own (p:=⟨w.heap.size+1+1,0,none⟩) (by simp;omega) _).own (p:=⟨w.heap.size+1+1,1,none⟩) (by simp;omega) _
 ·rw [Qax];exact World.ownsRow_nil _ _ _ _
theorem Qzg (n:Bool) (xs ys:List Nat) (ha:Gw n xs) (hb:Gw n ys):n=ng (sv n xs+sv n ys)/\dig (val xs+val ys)=dg (sv n xs+sv n ys):=by
 cases n
 ·unfold sv ng dg;refine ⟨by simp;omega,?_⟩
  congr 1
 ·have:=ha.pos rfl;unfold sv ng dg;refine ⟨by simp;omega,?_⟩
  congr 1
  simp;omega
theorem Qsu (n m:Bool) (xs ys:List Nat) (h:(n==m)=false) (hc:val ys<val xs):n=ng (sv n xs+sv m ys)/\dig (val xs - val ys)=dg (sv n xs+sv m ys):=by
 cases n <;> cases m <;> simp at h
 ·unfold sv ng dg;refine ⟨by simp;omega,?_⟩
  congr 1
  simp;omega
 ·unfold sv ng dg;refine ⟨by simp;omega,?_⟩
  congr 1
  simp;omega
theorem Qzh (n m:Bool) (xs ys:List Nat) (h:(n==m)=false) (hc:val xs<val ys):m=ng (sv n xs+sv m ys)/\dig (val ys - val xs)=dg (sv n xs+sv m ys):=by
 have:=Qsu m n ys xs (by cases n <;> cases m <;> simp_all) hc;rw [Int.add_comm] at this;exact this
theorem Qzi (n m:Bool) (xs ys:List Nat) (h:(n==m)=false) (hc:val xs=val ys):false=ng (sv n xs+sv m ys)/\dig 0=dg (sv n xs+sv m ys):=by
 have e:sv n xs+sv m ys=0:=by
  cases n <;> cases m <;> simp at h <;> unfold sv <;> simp <;> omega
 rw [e];exact ⟨rfl,rfl⟩
theorem Qvw (n m:Bool) (xs ys:List Nat) (v u:Value) (w:World) (hv:Row w v (toI xs)) (hu:Row w u (toI ys)) (ha:Gw n xs) (hb:Gw m ys) (la:xs.length≤1048576) (lb:ys.length≤1048576) :
  Calls Tryz.prog 54 #[.agg #[.bool n,v],.agg #[.bool m,u]] w fun e w'=>∃v',e=.returned (.agg #[.bool (ng (sv n xs+sv m ys)),v'])/\Old w w'/\Own w' w.heap.size v' (toI (dg (sv n xs+sv m ys))):=by
 cases hnm:n==m with
 | true=>
   have e:n=m:=by simpa using hnm
   subst e;obtain ⟨e1,e2⟩:=Qzg n xs ys ha hb;rw [<- e1,<- e2];exact Qsq n xs ys v u w hv hu ha.1.1 hb.1.1 la lb
 | false=>
   rcases Nat.lt_trichotomy (val xs) (val ys) with hc | hc | hc
   ·obtain ⟨e1,e2⟩:=Qzh n m xs ys hnm hc;rw [<- e1,<- e2];exact Qss n m xs ys v u w hv hu ha.1 hb.1 la lb hnm hc
   ·obtain ⟨e1,e2⟩:=Qzi n m xs ys hnm hc;rw [<- e1,<- e2];exact Qst n m xs ys v u w hv hu ha.1 hb.1 la lb hnm hc
   ·obtain ⟨e1,e2⟩:=Qsu n m xs ys hnm hc;rw [<- e1,<- e2];exact Qsr n m xs ys v u w hv hu ha.1 hb.1 la lb hnm hc
theorem Qj3 (xs ys:List Nat) (v u:Value) (w:World) (hv:Row w v (toI xs)) (hu:Row w u (toI ys)) (ha:Lim xs) (hb:Nrm ys) (hl:ys≠[]) (la:xs.length≤1048576) (lb:ys.length≤1048000) :
  Calls Tryz.prog 87 #[v,u] w fun e w'=>∃v1 v2,e=.returned (.tuple #[v1,v2])/\Old w w'/\Own w' w.heap.size v1 (toI (dig (val xs/val ys)))/\Own w' w.heap.size v2 (toI (dig (val xs%val ys))):=by
 by_cases h1:ys.length=1
 ·obtain ⟨d,rfl⟩:=List.length_eq_one_iff.1 h1;have hd:d≠0:=by have:=hb.2 (by simp);simpa using this
  have hd2:=hb.1.head;have e:val [d]=d:=by simp [val]
  rw [e];exact Qvu xs d v u w hv hu ha (by omega) hd2 la
 ·have h0:ys.length≠0:=fun h=>hl (List.length_eq_zero_iff.1 h)
  exact Qvv xs ys v u w hv hu ha hb (by omega) la lb
theorem Qvx (n m:Bool) (xs ys:List Nat):(decide (0<(dig (val xs*val ys)).length)&&(n != m))=ng (sv n xs*sv m ys)/\dig (val xs*val ys)=dg (sv n xs*sv m ys):=by
 have e:(sv n xs*sv m ys).natAbs=val xs*val ys:=by
  rw [Int.natAbs_mul]
  congr 1
  ·cases n <;> simp [sv]
  ·cases m <;> simp [sv]
 have e2:dig (val xs*val ys)=dg (sv n xs*sv m ys):=by unfold dg;rw [e]
 refine ⟨?_,e2⟩
 have hl:0<(dig (val xs*val ys)).length↔0<val xs*val ys:=by
  constructor
  ·intro h;rcases Nat.eq_zero_or_pos (val xs*val ys) with h0 | h0
   ·rw [h0,Qax] at h;simp at h
   ·exact h0
  ·intro h;have:=Qgm (n:=val xs*val ys) (by omega);rcases Nat.eq_zero_or_pos (dig (val xs*val ys)).length with h0 | h0
   ·exact absurd (List.length_eq_zero_iff.1 h0) this
   ·exact h0
 have hp:(0:Int)<=(val xs:Int)*(val ys:Int):=Int.mul_nonneg (by omega) (by omega);have hp2:((val xs*val ys:Nat):Int)=(val xs:Int)*(val ys:Int):=by simp
 have hd:decide (0<(dig (val xs*val ys)).length)=decide (0<val xs*val ys):=by rw [decide_eq_decide];exact hl
 rw [hd]
 cases n <;> cases m <;> simp only [sv,ng,Bool.false_eq_true,if_false,if_true,Int.neg_mul,Int.mul_neg,Int.neg_neg,bne_self_eq_false,Bool.and_false,Bool.false_bne,Bool.true_bne,Bool.not_false,Bool.and_true] <;> rw [<- hp2]
 ·simp;exact hp
 ·rw [decide_eq_decide];omega
 ·rw [decide_eq_decide];omega
 ·simp;exact hp
theorem Qlx (n m:Bool) (xs ys:List Nat) (v u:Value) (w:World) (hv:Row w v (toI xs)) (hu:Row w u (toI ys)) (ha:Lim xs) (hb:Lim ys) (la:xs.length≤1000) (lb:ys.length≤1000) :
  Calls Tryz.prog 28 #[.agg #[.bool n,v],.agg #[.bool m,u]] w fun e w'=>∃v',e=.returned (.agg #[.bool (ng (sv n xs*sv m ys)),v'])/\Old w w'/\Own w' w.heap.size v' (toI (dg (sv n xs*sv m ys))):=by
 obtain ⟨e1,e2⟩:=Qvx n m xs ys;rw [<- e1,<- e2];have HV:=Qaa hv;have HU:=Qaa hu;obtain ⟨a0,cap0,rfl⟩:=hv.sliceN;obtain ⟨a1,cap1,rfl⟩:=hu.sliceN;clear hv hu e1 e2
 have hlen:(dig (val xs*val ys)).length<=2000:=by
  refine Nat.le_trans (Qay (k:=xs.length+ys.length) ?_) (by omega);rw [Nat.pow_add];exact Nat.mul_lt_mul'' (Qbi ha) (Qbi hb)
 obtain ⟨zs,hz⟩:∃zs,dig (val xs*val ys)=zs:=⟨_,rfl⟩
 rw [hz] at hlen ⊢;have HZ:=Qaa hz;clear hz;go_enter Tryz.func28,Tryz.ntmps28;go_wp2_with fail;have HA:Hid (∀t1 t2 t3 xs1 xs2 xs3,Old w (((w.alloc (.cells xs1 t1)).alloc (.cells xs2 t2)).alloc (.cells xs3 t3))):=fun t1 t2 t3 xs1 xs2 xs3=>(((Old.refl w).alloc _).alloc _).alloc _
 refine (Qf8 xs ys _ _ _ (HV.out.old (HA.out _ _ _ _ _ _)) (HU.out.old (HA.out _ _ _ _ _ _)) ha hb (by omega) (by omega)).mono ?_
 rintro e w5 ⟨v5,rfl,g5,o5⟩;rw [HZ.out] at o5;obtain ⟨a5,cap5,rfl⟩:=(Own.row o5).sliceN;have a0_ : w5.cell? ⟨w.heap.size,0,none⟩=some (Value.bool n):=(g5.cell (p:=⟨w.heap.size,0,none⟩) (by simp;try omega)).trans (Q11 _ _ _ _ _ _ _ _)
 have b0_ : w5.cell? ⟨w.heap.size+1,0,none⟩=some (Value.bool m):=(g5.cell (p:=⟨w.heap.size+1,0,none⟩) (by simp;try omega)).trans (Q1u _ _ _ _ _ _ _ _)
 have q0:w5.cell? ⟨w.heap.size+1+1,0,none⟩=some (Value.bool false):=(g5.cell (p:=⟨w.heap.size+1+1,0,none⟩) (by simp;try omega)).trans (Qvk _ _ _ _ _ _ _ _)
 have q1:w5.cell? ⟨w.heap.size+1+1,1,none⟩=some (Value.slice none 0 0):=(g5.cell (p:=⟨w.heap.size+1+1,1,none⟩) (by simp;try omega)).trans (Qvk _ _ _ _ _ _ _ _)
 have f0:=(g5.frozen (p:=⟨w.heap.size+1+1,0,none⟩) (by simp;try omega)).trans (Qvl _ _ _ _ _ _ _ _);have f1:=(g5.frozen (p:=⟨w.heap.size+1+1,1,none⟩) (by simp;try omega)).trans (Qvl _ _ _ _ _ _ _ _);have HG5:=Qaa (Old.trans (HA.out _ _ _ _ _ _) g5);have HO5:Hid (Own w5 (w.heap.size+3) (.slice a5 zs.length cap5) (toI zs)):=Own.low o5 (by simp);clear g5 o5 HA
 by_cases h0:0<zs.length
 ·have d0:=decide_eq_true h0;go_wp2_with fail;refine bodyPost_ret (v:=.agg #[.bool (decide (0<zs.length)&&(n != m)),.slice a5 zs.length cap5]) (by simp [results,Tryz.results28,go_sem,q0,q1,d0];cases n <;> cases m <;> rfl) rfl ⟨_,rfl,?_,?_⟩
  ·exact (HG5.out.own (p:=⟨w.heap.size+1+1,0,none⟩) (by simp;omega) _).own (p:=⟨w.heap.size+1+1,1,none⟩) (by simp;omega) _
  ·refine Own.low (base:=w.heap.size+3) (ownsRow_setCell_other (ownsRow_setCell_other HO5.out (fun e=>?_) _) (fun e=>?_) _) (by omega)
   ·have:=(HO5.out.lt (w.heap.size+1+1) e).1;omega
   ·have:=(HO5.out.lt (w.heap.size+1+1) e).1;omega
 ·have d0:=decide_eq_false h0;go_wp2_with fail;refine bodyPost_ret (v:=.agg #[.bool (decide (0<zs.length)&&(n != m)),.slice a5 zs.length cap5]) (by simp [results,Tryz.results28,go_sem,q0,q1,d0]) rfl ⟨_,rfl,?_,?_⟩
  ·exact (HG5.out.own (p:=⟨w.heap.size+1+1,0,none⟩) (by simp;omega) _).own (p:=⟨w.heap.size+1+1,1,none⟩) (by simp;omega) _
  ·refine Own.low (base:=w.heap.size+3) (ownsRow_setCell_other (ownsRow_setCell_other HO5.out (fun e=>?_) _) (fun e=>?_) _) (by omega)
   ·have:=(HO5.out.lt (w.heap.size+1+1) e).1;omega
   ·have:=(HO5.out.lt (w.heap.size+1+1) e).1;omega
theorem Qsv (w:World) (t:TypeId):Row (w.alloc (.cells #[.int .i64 1] t)) (.slice (some ⟨w.heap.size,0,none⟩) 1 1) (toI [1]):=
 Or.inr ⟨w.heap.size,0,1,rfl,by simp,by simp [toI],fun j hj=>by
  have:j=0:=by simp [toI] at hj;omega
  subst this;rw [Qad _ _ _ _ _ (by simp)];rfl⟩
theorem Qf9 (a:Int) (b:Nat) (q:Int) (r:Nat) (hr:r<b) (h:(r:Int)+(b:Int)*q=a):a/(b:Int)=q/\a%(b:Int)=(r:Int):=
 (Int.ediv_emod_unique (by omega)).2 ⟨h,by omega,by omega⟩
theorem Qnx (xs:List Nat) (D:Nat) (hD:0<D):false=ng (sv false xs/(D:Int))/\dig (val xs/D)=dg (sv false xs/(D:Int))/\val xs%D=(sv false xs%(D:Int)).toNat:=by
 obtain ⟨e1,e2⟩:=Qf9 (sv false xs) D ((val xs/D:Nat):Int) (val xs%D) (Nat.mod_lt _ hD) (by
  have:=Nat.mod_add_div (val xs) D;unfold sv;simp only [Bool.false_eq_true,if_false];rw [<- Int.natCast_mul];omega)
 rw [e1,e2];refine ⟨?_,?_,(Int.toNat_natCast _).symm⟩
 ·generalize val xs/D=k;simp only [ng];symm;apply decide_eq_false;omega
 ·simp only [dg,Int.natAbs_natCast]
theorem Qfm (xs:List Nat) (D:Nat) (hD:0<D) (h0:val xs%D=0):decide (0<(dig (val xs/D)).length)=ng (sv true xs/(D:Int))/\dig (val xs/D)=dg (sv true xs/(D:Int))/\0=(sv true xs%(D:Int)).toNat:=by
 obtain ⟨e1,e2⟩:=Qf9 (sv true xs) D (-((val xs/D:Nat):Int)) 0 hD (by
  have:=Nat.mod_add_div (val xs) D;rw [h0] at this;unfold sv;simp only [if_true];rw [Int.mul_neg,<- Int.natCast_mul];omega)
 rw [e1,e2];refine ⟨?_,by simp only [dg,Int.natAbs_neg,Int.natAbs_natCast],by simp⟩;unfold ng;rw [decide_eq_decide];constructor
 ·intro h;rcases Nat.eq_zero_or_pos (val xs/D) with h1 | h1
  ·rw [h1,Qax] at h;simp at h
  ·omega
 ·intro h;have:=Qgm (n:=val xs/D) (by omega);rcases Nat.eq_zero_or_pos (dig (val xs/D)).length with h2 | h2
  ·exact absurd (List.length_eq_zero_iff.1 h2) this
  ·exact h2
theorem Qi6 (xs:List Nat) (D:Nat) (hD:0<D) (h0:0<val xs%D):true=ng (sv true xs/(D:Int))/\dig (val xs/D+1)=dg (sv true xs/(D:Int))/\D - val xs%D=(sv true xs%(D:Int)).toNat:=by
 have hm:=Nat.mod_lt (val xs) hD
 obtain ⟨e1,e2⟩:=Qf9 (sv true xs) D (-((val xs/D+1:Nat):Int)) (D - val xs%D) (by omega) (by
  have:=Nat.mod_add_div (val xs) D;have e:D*(val xs/D+1)=D*(val xs/D)+D:=by rw [Nat.mul_add,Nat.mul_one]
  unfold sv;simp only [if_true];rw [Int.mul_neg,<- Int.natCast_mul,e];omega)
 rw [e1,e2];refine ⟨?_,by simp only [dg,Int.natAbs_neg,Int.natAbs_natCast],(Int.toNat_natCast _).symm⟩;generalize val xs/D=k;simp only [ng];symm;apply decide_eq_true;omega
theorem Qvy (xs ys:List Nat) (v u:Value) (w:World) (hv:Row w v (toI xs)) (hu:Row w u (toI ys)) (ha:Lim xs) (hb:Nrm ys) (hl:ys≠[]) (la:xs.length≤2000) (lb:ys.length≤2000) :
  Calls Tryz.prog 53 #[.agg #[.bool false,v],u] w fun e w'=>∃v1 v2,e=.returned (.tuple #[.agg #[.bool false,v1],v2])/\Old w w'/\Own w' w.heap.size v1 (toI (dig (val xs/val ys)))/\Own w' w.heap.size v2 (toI (dig (val xs%val ys))):=by
 have HV:=Qaa hv;have HU:=Qaa hu;obtain ⟨a0,cap0,rfl⟩:=hv.sliceN;obtain ⟨a1,cap1,rfl⟩:=hu.sliceN;clear hv hu
 have hD:0<val ys:=by
  rcases Nat.eq_zero_or_pos (val ys) with h | h
  ·exact absurd (Qbs hb h) hl
  ·exact h
 have hql:(dig (val xs/val ys)).length<=2000:=Nat.le_trans (Qay (Nat.lt_of_le_of_lt (Nat.div_le_self _ _) (Qbi ha))) la;have hrl:(dig (val xs%val ys)).length<=2000:=Nat.le_trans (Qay (Nat.lt_trans (Nat.mod_lt _ hD) (Qbi hb.1))) lb;obtain ⟨qs,hq⟩:∃qs,dig (val xs/val ys)=qs:=⟨_,rfl⟩
 obtain ⟨rs,hr⟩:∃rs,dig (val xs%val ys)=rs:=⟨_,rfl⟩
 rw [hq,hr];rw [hq] at hql;rw [hr] at hrl;have HQ:=Qaa hq;have HR:=Qaa hr;clear hq hr;go_enter Tryz.func53,Tryz.ntmps53;go_wp2_with fail;have HA:Hid (∀t1 t2 xs1 xs2,Old w ((w.alloc (.cells xs1 t1)).alloc (.cells xs2 t2))):=fun t1 t2 xs1 xs2=>((Old.refl w).alloc _).alloc _
 refine (Qj3 xs ys _ _ _ (HV.out.old (HA.out _ _ _ _)) (HU.out.old (HA.out _ _ _ _)) ha hb hl (by omega) (by omega)).mono ?_
 rintro e w2 ⟨v1,v2,rfl,g2,o1,o2⟩;rw [HQ.out] at o1;rw [HR.out] at o2;obtain ⟨c1,cap2,rfl⟩:=(Own.row o1).sliceN;obtain ⟨c2,cap3,rfl⟩:=(Own.row o2).sliceN;have a0_ : w2.cell? ⟨w.heap.size,0,none⟩=some (Value.bool false):=(g2.cell (p:=⟨w.heap.size,0,none⟩) (by simp;try omega)).trans (Q3u _ _ _ _ _ _)
 have q0_ : w2.cell? ⟨w.heap.size+1,0,none⟩=some (Value.bool false):=(g2.cell (p:=⟨w.heap.size+1,0,none⟩) (by simp;try omega)).trans (Q1v _ _ _ _ _ _)
 have q1_ : w2.cell? ⟨w.heap.size+1,1,none⟩=some (Value.slice none 0 0):=(g2.cell (p:=⟨w.heap.size+1,1,none⟩) (by simp;try omega)).trans (Q1v _ _ _ _ _ _)
 have f0_:=(g2.frozen (p:=⟨w.heap.size+1,0,none⟩) (by simp;try omega)).trans (Q1w _ _ _ _ _ _);have f1_:=(g2.frozen (p:=⟨w.heap.size+1,1,none⟩) (by simp;try omega)).trans (Q1w _ _ _ _ _ _);have HG2:=Qaa (Old.trans (HA.out _ _ _ _) g2);have HO1:Hid (Own w2 (w.heap.size+2) (.slice c1 qs.length cap2) (toI qs)):=Own.low o1 (by simp);have HO2:Hid (Own w2 (w.heap.size+2) (.slice c2 rs.length cap3) (toI rs)):=Own.low o2 (by simp);clear g2 o1 o2 HA;go_wp2_with fail;refine bodyPost_ret (v:=.tuple #[.agg #[.bool false,.slice c1 qs.length cap2],.slice c2 rs.length cap3]) (by simp [results,Tryz.results53,go_sem,q0_,q1_]) rfl ⟨_,_,rfl,?_,?_,?_⟩
 ·exact (HG2.out.own (p:=⟨w.heap.size+1,0,none⟩) (by simp) _).own (p:=⟨w.heap.size+1,1,none⟩) (by simp) _
 ·refine Own.low (base:=w.heap.size+2) (ownsRow_setCell_other (ownsRow_setCell_other HO1.out (fun e=>?_) _) (fun e=>?_) _) (by omega)
  ·have:=(HO1.out.lt (w.heap.size+1) e).1;omega
  ·have:=(HO1.out.lt (w.heap.size+1) e).1;omega
 ·refine Own.low (base:=w.heap.size+2) (ownsRow_setCell_other (ownsRow_setCell_other HO2.out (fun e=>?_) _) (fun e=>?_) _) (by omega)
  ·have:=(HO2.out.lt (w.heap.size+1) e).1;omega
  ·have:=(HO2.out.lt (w.heap.size+1) e).1;omega
theorem Qq7 (xs ys:List Nat) (v u:Value) (w:World) (hv:Row w v (toI xs)) (hu:Row w u (toI ys)) (ha:Lim xs) (hb:Nrm ys) (hl:ys≠[]) (la:xs.length≤2000) (lb:ys.length≤2000) (h0:val xs%val ys=0) :
  Calls Tryz.prog 53 #[.agg #[.bool true,v],u] w fun e w'=>∃v1 v2,e=.returned (.tuple #[.agg #[.bool (decide (0<(dig (val xs/val ys)).length)),v1],v2])/\Old w w'/\Own w' w.heap.size v1 (toI (dig (val xs/val ys)))/\Own w' w.heap.size v2 (toI (dig 0)):=by
 have HV:=Qaa hv;have HU:=Qaa hu;obtain ⟨a0,cap0,rfl⟩:=hv.sliceN;obtain ⟨a1,cap1,rfl⟩:=hu.sliceN;clear hv hu
 have hD:0<val ys:=by
  rcases Nat.eq_zero_or_pos (val ys) with h | h
  ·exact absurd (Qbs hb h) hl
  ·exact h
 have hql:(dig (val xs/val ys)).length<=2000:=Nat.le_trans (Qay (Nat.lt_of_le_of_lt (Nat.div_le_self _ _) (Qbi ha))) la;have hrl:(dig (val xs%val ys)).length<=2000:=Nat.le_trans (Qay (Nat.lt_trans (Nat.mod_lt _ hD) (Qbi hb.1))) lb;obtain ⟨qs,hq⟩:∃qs,dig (val xs/val ys)=qs:=⟨_,rfl⟩
 obtain ⟨rs,hr⟩:∃rs,dig (val xs%val ys)=rs:=⟨_,rfl⟩
 have e0:dig 0=rs:=by rw [<- hr,h0]
 rw [hq,e0];clear e0;rw [hq] at hql;rw [hr] at hrl;have HQ:=Qaa hq;have HR:=Qaa hr;have hrs:rs=[]:=by rw [<- hr,h0,Qax]
 have hrs0:rs.length=0:=by rw [hrs];rfl
 clear hq hr hrs h0;have dr:decide (0<rs.length)=false:=decide_eq_false (by omega);clear hrs0;go_enter Tryz.func53,Tryz.ntmps53;go_wp2_with fail;have HA:Hid (∀t1 t2 xs1 xs2,Old w ((w.alloc (.cells xs1 t1)).alloc (.cells xs2 t2))):=fun t1 t2 xs1 xs2=>((Old.refl w).alloc _).alloc _
 refine (Qj3 xs ys _ _ _ (HV.out.old (HA.out _ _ _ _)) (HU.out.old (HA.out _ _ _ _)) ha hb hl (by omega) (by omega)).mono ?_
 rintro e w2 ⟨v1,v2,rfl,g2,o1,o2⟩;rw [HQ.out] at o1;rw [HR.out] at o2;obtain ⟨c1,cap2,rfl⟩:=(Own.row o1).sliceN;obtain ⟨c2,cap3,rfl⟩:=(Own.row o2).sliceN;have a0_ : w2.cell? ⟨w.heap.size,0,none⟩=some (Value.bool true):=(g2.cell (p:=⟨w.heap.size,0,none⟩) (by simp;try omega)).trans (Q3u _ _ _ _ _ _)
 have q0_ : w2.cell? ⟨w.heap.size+1,0,none⟩=some (Value.bool false):=(g2.cell (p:=⟨w.heap.size+1,0,none⟩) (by simp;try omega)).trans (Q1v _ _ _ _ _ _)
 have q1_ : w2.cell? ⟨w.heap.size+1,1,none⟩=some (Value.slice none 0 0):=(g2.cell (p:=⟨w.heap.size+1,1,none⟩) (by simp;try omega)).trans (Q1v _ _ _ _ _ _)
 have f0_:=(g2.frozen (p:=⟨w.heap.size+1,0,none⟩) (by simp;try omega)).trans (Q1w _ _ _ _ _ _);have f1_:=(g2.frozen (p:=⟨w.heap.size+1,1,none⟩) (by simp;try omega)).trans (Q1w _ _ _ _ _ _);have HG2:=Qaa (Old.trans (HA.out _ _ _ _) g2);have HO1:Hid (Own w2 (w.heap.size+2) (.slice c1 qs.length cap2) (toI qs)):=Own.low o1 (by simp);have HO2:Hid (Own w2 (w.heap.size+2) (.slice c2 rs.length cap3) (toI rs)):=Own.low o2 (by simp);clear g2 o1 o2 HA;go_wp2_with fail;refine bodyPost_ret (v:=.tuple #[.agg #[.bool (decide (0<qs.length)),.slice c1 qs.length cap2],.slice c2 rs.length cap3]) (by simp [results,Tryz.results53,go_sem,q0_,q1_]) rfl ⟨_,_,rfl,?_,?_,?_⟩
 ·exact (HG2.out.own (p:=⟨w.heap.size+1,0,none⟩) (by simp) _).own (p:=⟨w.heap.size+1,1,none⟩) (by simp) _
 ·refine Own.low (base:=w.heap.size+2) (ownsRow_setCell_other (ownsRow_setCell_other HO1.out (fun e=>?_) _) (fun e=>?_) _) (by omega)
  ·have:=(HO1.out.lt (w.heap.size+1) e).1;omega
  ·have:=(HO1.out.lt (w.heap.size+1) e).1;omega
 ·refine Own.low (base:=w.heap.size+2) (ownsRow_setCell_other (ownsRow_setCell_other HO2.out (fun e=>?_) _) (fun e=>?_) _) (by omega)
  ·have:=(HO2.out.lt (w.heap.size+1) e).1;omega
  ·have:=(HO2.out.lt (w.heap.size+1) e).1;omega
theorem Qzj (xs ys:List Nat) (v u:Value) (w:World) (hv:Row w v (toI xs)) (hu:Row w u (toI ys)) (ha:Lim xs) (hb:Nrm ys) (hl:ys≠[]) (la:xs.length≤2000) (lb:ys.length≤2000) (h0:0<val xs%val ys) :
  Calls Tryz.prog 53 #[.agg #[.bool true,v],u] w fun e w'=>∃v1 v2,e=.returned (.tuple #[.agg #[.bool true,v1],v2])/\Old w w'/\Own w' w.heap.size v1 (toI (dig (val xs/val ys+1)))/\Own w' w.heap.size v2 (toI (dig (val ys - val xs%val ys))):=by
 have HV:=Qaa hv;have HU:=Qaa hu;obtain ⟨a0,cap0,rfl⟩:=hv.sliceN;obtain ⟨a1,cap1,rfl⟩:=hu.sliceN;clear hv hu
 have hD:0<val ys:=by
  rcases Nat.eq_zero_or_pos (val ys) with h | h
  ·exact absurd (Qbs hb h) hl
  ·exact h
 have hql:(dig (val xs/val ys)).length<=2000:=Nat.le_trans (Qay (Nat.lt_of_le_of_lt (Nat.div_le_self _ _) (Qbi ha))) la;have hrl:(dig (val xs%val ys)).length<=2000:=Nat.le_trans (Qay (Nat.lt_trans (Nat.mod_lt _ hD) (Qbi hb.1))) lb;obtain ⟨qs,hq⟩:∃qs,dig (val xs/val ys)=qs:=⟨_,rfl⟩
 obtain ⟨rs,hr⟩:∃rs,dig (val xs%val ys)=rs:=⟨_,rfl⟩
 rw [hq] at hql;rw [hr] at hrl;have HQ:=Qaa hq;have HR:=Qaa hr
 have hrs:0<rs.length:=by
  rcases Nat.eq_zero_or_pos rs.length with h | h
  ·have:=List.length_eq_zero_iff.1 h;rw [<- hr] at this;have:=Qnq this;omega
  ·exact h
 have HQV:Hid (val qs=val xs/val ys/\Lim qs):=by rw [<- hq];exact ⟨Qag _,Qao _⟩
 have HRV:Hid (val rs=val xs%val ys/\Nrm rs):=by rw [<- hr];exact ⟨Qag _,Qbm _⟩
 have HLE:Hid (val rs<=val ys):=by have h1:=HRV.out.1;have h2:=Nat.mod_lt (val xs) hD;show val rs<=val ys;omega
 have dr:=decide_eq_true hrs
 have hk1:0<(dig (val xs/val ys+1)).length:=by
  rcases Nat.eq_zero_or_pos (dig (val xs/val ys+1)).length with h | h
  ·exact absurd (Qnq (List.length_eq_zero_iff.1 h)) (Nat.succ_ne_zero _)
  ·exact h
 have hk2:(dig (val xs/val ys+1)).length<=2001:=by
  refine Nat.le_trans (Qay (k:=qs.length+1) ?_) (by omega);have h1:=Qbi HQV.out.2;have h2:=HQV.out.1;have h4:LB^qs.length*2<=LB^qs.length*LB:=Nat.mul_le_mul (Nat.le_refl _) (by decide);rw [<- h2,Nat.pow_succ];omega
 obtain ⟨ks,hk⟩:∃ks,dig (val xs/val ys+1)=ks:=⟨_,rfl⟩
 obtain ⟨ms,hm⟩:∃ms,dig (val ys - val xs%val ys)=ms:=⟨_,rfl⟩
 rw [hk] at hk1 hk2 ⊢;rw [hm];have HK:=Qaa hk;have HM:=Qaa hm;have dk:=decide_eq_true hk1;clear hq hr hrs h0 hk hm hk1;go_enter Tryz.func53,Tryz.ntmps53;go_wp2_with fail;have HA:Hid (∀t1 t2 xs1 xs2,Old w ((w.alloc (.cells xs1 t1)).alloc (.cells xs2 t2))):=fun t1 t2 xs1 xs2=>((Old.refl w).alloc _).alloc _
 refine (Qj3 xs ys _ _ _ (HV.out.old (HA.out _ _ _ _)) (HU.out.old (HA.out _ _ _ _)) ha hb hl (by omega) (by omega)).mono ?_
 rintro e w2 ⟨v1,v2,rfl,g2,o1,o2⟩;rw [HQ.out] at o1;rw [HR.out] at o2;obtain ⟨c1,cap2,rfl⟩:=(Own.row o1).sliceN;obtain ⟨c2,cap3,rfl⟩:=(Own.row o2).sliceN;have a0_ : w2.cell? ⟨w.heap.size,0,none⟩=some (Value.bool true):=(g2.cell (p:=⟨w.heap.size,0,none⟩) (by simp;try omega)).trans (Q3u _ _ _ _ _ _)
 have q0_ : w2.cell? ⟨w.heap.size+1,0,none⟩=some (Value.bool false):=(g2.cell (p:=⟨w.heap.size+1,0,none⟩) (by simp;try omega)).trans (Q1v _ _ _ _ _ _)
 have q1_ : w2.cell? ⟨w.heap.size+1,1,none⟩=some (Value.slice none 0 0):=(g2.cell (p:=⟨w.heap.size+1,1,none⟩) (by simp;try omega)).trans (Q1v _ _ _ _ _ _)
 have f0_:=(g2.frozen (p:=⟨w.heap.size+1,0,none⟩) (by simp;try omega)).trans (Q1w _ _ _ _ _ _);have f1_:=(g2.frozen (p:=⟨w.heap.size+1,1,none⟩) (by simp;try omega)).trans (Q1w _ _ _ _ _ _);have HG2:=Qaa (Old.trans (HA.out _ _ _ _) g2);have hsz:w.heap.size+2<=w2.heap.size:=by have:=g2.size;simp at this;omega
 have HO1:Hid (Own w2 (w.heap.size+2) (.slice c1 qs.length cap2) (toI qs)):=Own.low o1 (by simp);have HO2:Hid (Own w2 (w.heap.size+2) (.slice c2 rs.length cap3) (toI rs)):=Own.low o2 (by simp);clear g2 o1 o2 HA;go_wp2_with fail;refine (Qj1 qs [1] _ _ _ ((Own.row HO1.out).old ((Old.refl _).alloc _)) (Qsv w2 _) HQV.out.2 (Lim.cons (by decide) Lim.nil) (by omega) (by simp)).mono ?_
 rintro e w3 ⟨v3,rfl,g3,o3⟩;have e3:dig (val qs+val [1])=ks:=by rw [<- HK.out,HQV.out.1];simp [val]
 rw [e3] at o3;obtain ⟨c3,cap4,rfl⟩:=(Own.row o3).sliceN;have g23:=Old.trans ((Old.refl _).alloc _) g3;have HG3:=Qaa (Old.trans HG2.out g23);have HO3:Hid (Own w3 (w.heap.size+2) (.slice c3 ks.length cap4) (toI ks)):=Own.low o3 (by simp;omega);have HO4:=Qaa (HO2.out.old g23);have hsz3:w.heap.size+2<=w3.heap.size:=by have:=g23.size;omega
 have q0y:=(g23.cell (p:=⟨w.heap.size+1,0,none⟩) (by show w.heap.size+1<w2.heap.size;omega)).trans q0_;have q1y:=(g23.cell (p:=⟨w.heap.size+1,1,none⟩) (by show w.heap.size+1<w2.heap.size;omega)).trans q1_;have f0y:=(g23.frozen (p:=⟨w.heap.size+1,0,none⟩) (by show w.heap.size+1<w2.heap.size;omega)).trans f0_;have f1y:=(g23.frozen (p:=⟨w.heap.size+1,1,none⟩) (by show w.heap.size+1<w2.heap.size;omega)).trans f1_;clear o3 g3 e3 HO1 HO2 HG2 g23;go_wp2_with fail;refine (Qhi ys rs _ _ _ (HU.out.old HG3.out) (Own.row HO4.out) hb HRV.out.2 (by omega) (by omega) HLE.out).mono ?_
 rintro e w4 ⟨v4,rfl,g4,o4⟩;have e4:dig (val ys - val rs)=ms:=by rw [<- HM.out,HRV.out.1]
 rw [e4] at o4;obtain ⟨c4,cap5,rfl⟩:=(Own.row o4).sliceN;have HG4:=Qaa (Old.trans HG3.out g4);have HO5:=Qaa (HO3.out.old g4);have HO6:=Qaa (Own.low o4 (by omega));have q0z:=(g4.cell (p:=⟨w.heap.size+1,0,none⟩) (by show w.heap.size+1<w3.heap.size;omega)).trans q0y;have q1z:=(g4.cell (p:=⟨w.heap.size+1,1,none⟩) (by show w.heap.size+1<w3.heap.size;omega)).trans q1y;have f0z:=(g4.frozen (p:=⟨w.heap.size+1,0,none⟩) (by show w.heap.size+1<w3.heap.size;omega)).trans f0y;have f1z:=(g4.frozen (p:=⟨w.heap.size+1,1,none⟩) (by show w.heap.size+1<w3.heap.size;omega)).trans f1y;clear o4 g4 e4 HO3 HO4 HG3;go_wp2_with fail;refine bodyPost_ret (v:=.tuple #[.agg #[.bool true,.slice c3 ks.length cap4],.slice c4 ms.length cap5]) (by simp [results,Tryz.results53,go_sem,q0z,q1z]) rfl ⟨_,_,rfl,?_,?_,?_⟩
 ·exact (HG4.out.own (p:=⟨w.heap.size+1,0,none⟩) (by simp) _).own (p:=⟨w.heap.size+1,1,none⟩) (by simp) _
 ·refine Own.low (base:=w.heap.size+2) (ownsRow_setCell_other (ownsRow_setCell_other HO5.out (fun e=>?_) _) (fun e=>?_) _) (by omega)
  ·have:=(HO5.out.lt (w.heap.size+1) e).1;omega
  ·have:=(HO5.out.lt (w.heap.size+1) e).1;omega
 ·refine Own.low (base:=w.heap.size+2) (ownsRow_setCell_other (ownsRow_setCell_other HO6.out (fun e=>?_) _) (fun e=>?_) _) (by omega)
  ·have:=(HO6.out.lt (w.heap.size+1) e).1;omega
  ·have:=(HO6.out.lt (w.heap.size+1) e).1;omega
theorem Qny {ys:List Nat} (hb:Nrm ys) (hl:ys≠[]):0<val ys:=by
 rcases Nat.eq_zero_or_pos (val ys) with h | h
 ·exact absurd (Qbs hb h) hl
 ·exact h
theorem Qvz (n:Bool) (xs ys:List Nat) (v u:Value) (w:World) (hv:Row w v (toI xs)) (hu:Row w u (toI ys)) (ha:Lim xs) (hb:Nrm ys) (hl:ys≠[]) (la:xs.length≤2000) (lb:ys.length≤2000) :
  Calls Tryz.prog 53 #[.agg #[.bool n,v],u] w fun e w'=>∃v1 v2,e=.returned (.tuple #[.agg #[.bool (ng (sv n xs/(val ys:Int))),v1],v2])/\Old w w'/\Own w' w.heap.size v1 (toI (dg (sv n xs/(val ys:Int))))/\Own w' w.heap.size v2 (toI (dig (sv n xs%(val ys:Int)).toNat)):=by
 have hD:=Qny hb hl
 cases n with
 | false=>
   obtain ⟨e1,e2,e3⟩:=Qnx xs (val ys) hD;rw [<- e1,<- e2,<- e3];exact Qvy xs ys v u w hv hu ha hb hl la lb
 | true=>
   rcases Nat.eq_zero_or_pos (val xs%val ys) with h0 | h0
   ·obtain ⟨e1,e2,e3⟩:=Qfm xs (val ys) hD h0;rw [<- e1,<- e2,<- e3];exact Qq7 xs ys v u w hv hu ha hb hl la lb h0
   ·obtain ⟨e1,e2,e3⟩:=Qi6 xs (val ys) hD h0;rw [<- e1,<- e2,<- e3];exact Qzj xs ys v u w hv hu ha hb hl la lb h0
theorem Qq8 (n:Bool) (xs:List Nat) (m:Nat) (v:Value) (w:World) (hv:Row w v (toI xs)) (ha:Lim xs) (la:xs.length≤2000) (hm:1≤m) (hm':m≤268435456) :
  Calls Tryz.prog 26 #[.agg #[.bool n,v],.int .i64 m] w fun e w'=>e=.returned (.int .i64 (sv n xs%(m:Int)))/\Old w w':=by
 have HV:=Qaa hv;obtain ⟨a0,cap0,rfl⟩:=hv.sliceN;clear hv;have hlt:val xs%m<m:=Nat.mod_lt _ (by omega);have e0:sv false xs%(m:Int)=((val xs%m:Nat):Int):=by simp [sv]
 have e1:0<val xs%m->sv true xs%(m:Int)=(m:Int) - ((val xs%m:Nat):Int):=fun h=>by
  have:=(Qi6 xs m (by omega) h).2.2;have h2:=Int.emod_nonneg (sv true xs) (show (m:Int)≠0 by omega);omega
 have e2:val xs%m=0->sv true xs%(m:Int)=((val xs%m:Nat):Int):=fun h=>by
  have:=(Qfm xs m (by omega) h).2.2;have h2:=Int.emod_nonneg (sv true xs) (show (m:Int)≠0 by omega);omega
 have c:=fun W (h:Row W (.slice a0 xs.length cap0) (toI xs))=>Qvt xs m _ W h ha (by omega) hm hm'
 generalize val xs%m=r at *
 have key:∀(z:Int),(n=false→z=(r:Int))→(n=true→0<r→z=(m:Int) - (r:Int))→(n=true→r=0→z=(r:Int))→
   Calls Tryz.prog 26 #[.agg #[.bool n,.slice a0 xs.length cap0],.int .i64 m] w fun e w'=>e=.returned (.int .i64 z)/\Old w w':=by
  intro z h1 h2 h3;clear e0 e1 e2
  cases n with
  | false=>
    have:=h1 rfl;subst this;clear h1 h2 h3;go_enter Tryz.func26,Tryz.ntmps26;go_wp2_with fail;refine (c _ (HV.out.old ((Old.refl w).alloc _))).mono ?_
    rintro e w2 ⟨rfl,g2⟩;have q0:w2.cell? ⟨w.heap.size,0,none⟩=some (Value.bool false):=(g2.cell (p:=⟨w.heap.size,0,none⟩) (by simp)).trans (Qad _ _ _ _ _ rfl)
    have HG:=Qaa (Old.trans ((Old.refl w).alloc _) g2);clear g2;go_wp2_with fail;go_ret;exact ⟨rfl,HG.out⟩
  | true=>
    rcases Nat.eq_zero_or_pos r with h0 | h0
    ·have:=h3 rfl h0;subst this;have d0:decide (0<r)=false:=decide_eq_false (by omega);clear h1 h2 h3 h0;go_enter Tryz.func26,Tryz.ntmps26;go_wp2_with fail;refine (c _ (HV.out.old ((Old.refl w).alloc _))).mono ?_
     rintro e w2 ⟨rfl,g2⟩;have q0:w2.cell? ⟨w.heap.size,0,none⟩=some (Value.bool true):=(g2.cell (p:=⟨w.heap.size,0,none⟩) (by simp)).trans (Qad _ _ _ _ _ rfl)
     have HG:=Qaa (Old.trans ((Old.refl w).alloc _) g2);clear g2;go_wp2_with fail;go_ret;exact ⟨rfl,HG.out⟩
    ·have:=h2 rfl h0;subst this;clear h1 h2 h3;go_enter Tryz.func26,Tryz.ntmps26;go_wp2_with fail;refine (c _ (HV.out.old ((Old.refl w).alloc _))).mono ?_
     rintro e w2 ⟨rfl,g2⟩;have q0:w2.cell? ⟨w.heap.size,0,none⟩=some (Value.bool true):=(g2.cell (p:=⟨w.heap.size,0,none⟩) (by simp)).trans (Qad _ _ _ _ _ rfl)
     have HG:=Qaa (Old.trans ((Old.refl w).alloc _) g2);clear g2;go_wp2_with fail;go_ret;exact ⟨rfl,HG.out⟩
 refine key _ (fun h=>?_) (fun h h0=>?_) (fun h h0=>?_)
 ·subst h;exact e0
 ·subst h;exact e1 h0
 ·subst h;exact e2 h0
theorem Qzk (n:Int) (w:World) (h0 : -9223372036854775808≤n) (h1:n≤9223372036854775807) :
  Calls Tryz.prog 29 #[.int .i64 n] w fun e w'=>∃v',e=.returned (.agg #[.bool (ng n),v'])/\Old w w'/\Own w' w.heap.size v' (toI (dg n)):=by
 by_cases hn:0<=n
 ·obtain ⟨k,rfl⟩:=Int.eq_ofNat_of_zero_le hn;have e1:ng (k:Int)=false:=by unfold ng;exact decide_eq_false (by omega)
  have e2:dg (k:Int)=dig k:=by unfold dg;simp
  rw [e1,e2];clear e1 e2 hn;obtain ⟨zs,hz⟩:∃zs,dig k=zs:=⟨_,rfl⟩
  rw [hz];have HZ:=Qaa hz;clear hz;go_enter Tryz.func29,Tryz.ntmps29;go_wp2_with fail;refine (Qlv k _ (by omega)).mono ?_
  rintro e w5 ⟨v5,rfl,g5,o5⟩;rw [HZ.out] at o5;obtain ⟨a5,cap5,rfl⟩:=(Own.row o5).sliceN;have q0:w5.cell? ⟨w.heap.size,0,none⟩=some (Value.bool false):=(g5.cell (p:=⟨w.heap.size,0,none⟩) (by simp)).trans (Qad _ _ _ _ _ rfl)
  have q1:w5.cell? ⟨w.heap.size,1,none⟩=some (Value.slice none 0 0):=(g5.cell (p:=⟨w.heap.size,1,none⟩) (by simp)).trans (Qad _ _ _ _ _ rfl)
  have f0:=(g5.frozen (p:=⟨w.heap.size,0,none⟩) (by simp)).trans (Qbp _ _ _ _ _ rfl);have f1:=(g5.frozen (p:=⟨w.heap.size,1,none⟩) (by simp)).trans (Qbp _ _ _ _ _ rfl);have HG5:=Qaa (Old.trans ((Old.refl w).alloc _) g5);have HO5:Hid (Own w5 (w.heap.size+1) (.slice a5 zs.length cap5) (toI zs)):=Own.low o5 (by simp);clear g5 o5;go_wp2_with fail;refine bodyPost_ret (v:=.agg #[.bool false,.slice a5 zs.length cap5]) (by simp [results,Tryz.results29,go_sem,q0,q1]) rfl ⟨_,rfl,?_,?_⟩
  ·exact (HG5.out.own (p:=⟨w.heap.size,0,none⟩) (by simp) _).own (p:=⟨w.heap.size,1,none⟩) (by simp) _
  ·refine Own.low (base:=w.heap.size+1) (ownsRow_setCell_other (ownsRow_setCell_other HO5.out (fun e=>?_) _) (fun e=>?_) _) (by omega)
   ·have:=(HO5.out.lt w.heap.size e).1;omega
   ·have:=(HO5.out.lt w.heap.size e).1;omega
 ·obtain ⟨k,ek⟩:∃k:Nat,-(n+1)=(k:Int):=⟨(-(n+1)).toNat,by omega⟩
  have e1:ng n=true:=by unfold ng;exact decide_eq_true (by omega)
  have e2:dg n=dig (k+1):=by unfold dg;rw [show n.natAbs=k+1 by omega]
  rw [e1,e2];obtain ⟨zs,hz⟩:∃zs,dig (k+1)=zs:=⟨_,rfl⟩
  rw [hz];have HZ:=Qaa hz;have hkl:(dig k).length<=3:=Qay (by unfold LB;omega);clear hz e1 e2;go_enter Tryz.func29,Tryz.ntmps29;go_wp2_with fail;refine (Qlv k _ (by omega)).mono ?_
  rintro e w5 ⟨v5,rfl,g5,o5⟩;have q0:w5.cell? ⟨w.heap.size,0,none⟩=some (Value.bool false):=(g5.cell (p:=⟨w.heap.size,0,none⟩) (by simp)).trans (Qad _ _ _ _ _ rfl)
  have q1:w5.cell? ⟨w.heap.size,1,none⟩=some (Value.slice none 0 0):=(g5.cell (p:=⟨w.heap.size,1,none⟩) (by simp)).trans (Qad _ _ _ _ _ rfl)
  have f0:=(g5.frozen (p:=⟨w.heap.size,0,none⟩) (by simp)).trans (Qbp _ _ _ _ _ rfl);have f1:=(g5.frozen (p:=⟨w.heap.size,1,none⟩) (by simp)).trans (Qbp _ _ _ _ _ rfl);have hs5:w.heap.size+1<=w5.heap.size:=by have:=g5.size;simp at this;omega
  have HG5:=Qaa (Old.trans ((Old.refl w).alloc _) g5);have HR5:=Qaa (Own.row o5);clear g5 o5;go_wp2_with fail;refine (Qj1 (dig k) [1] _ _ _ (HR5.out.old ((Old.refl _).alloc _)) (Qsv w5 _) (Qao _) (Lim.cons (by decide) Lim.nil) (by omega) (by simp)).mono ?_
  rintro e w6 ⟨v6,rfl,g6,o6⟩;have e6:dig (val (dig k)+val [1])=zs:=by rw [<- HZ.out,Qag];simp [val]
  rw [e6] at o6;obtain ⟨a6,cap6,rfl⟩:=(Own.row o6).sliceN;have g56:=Old.trans ((Old.refl _).alloc _) g6;have q0z:=(g56.cell (p:=⟨w.heap.size,0,none⟩) (by show w.heap.size<w5.heap.size;omega)).trans q0;have q1z:=(g56.cell (p:=⟨w.heap.size,1,none⟩) (by show w.heap.size<w5.heap.size;omega)).trans q1;have f0z:=(g56.frozen (p:=⟨w.heap.size,0,none⟩) (by show w.heap.size<w5.heap.size;omega)).trans f0;have f1z:=(g56.frozen (p:=⟨w.heap.size,1,none⟩) (by show w.heap.size<w5.heap.size;omega)).trans f1;have HG6:=Qaa (Old.trans HG5.out g56);have HO6:Hid (Own w6 (w.heap.size+1) (.slice a6 zs.length cap6) (toI zs)):=Own.low o6 (by simp;omega);clear g6 g56 o6 e6 HG5 HR5;go_wp2_with fail;refine bodyPost_ret (v:=.agg #[.bool true,.slice a6 zs.length cap6]) (by simp [results,Tryz.results29,go_sem,q0z,q1z]) rfl ⟨_,rfl,?_,?_⟩
  ·exact (HG6.out.own (p:=⟨w.heap.size,0,none⟩) (by simp) _).own (p:=⟨w.heap.size,1,none⟩) (by simp) _
  ·refine Own.low (base:=w.heap.size+1) (ownsRow_setCell_other (ownsRow_setCell_other HO6.out (fun e=>?_) _) (fun e=>?_) _) (by omega)
   ·have:=(HO6.out.lt w.heap.size e).1;omega
   ·have:=(HO6.out.lt w.heap.size e).1;omega
theorem Qnz (w:World) (t:TypeId):Row (w.alloc (.cells #[.int .i64 2] t)) (.slice (some ⟨w.heap.size,0,none⟩) 1 1) (toI [2]):=
 Or.inr ⟨w.heap.size,0,1,rfl,by simp,by simp [toI],fun j hj=>by
  have:j=0:=by simp [toI] at hj;omega
  subst this;rw [Qad _ _ _ _ _ (by simp)];rfl⟩
theorem Qpt {z:Int} {k:Nat} (h:z.natAbs<LB^k):(dg z).length<=k:=Qay h
theorem Qpu (n:Bool) (xs:List Nat):(sv n xs).natAbs=val xs:=by cases n <;> simp [sv]
theorem Qv0 (n:Bool) (xs ys:List Nat) (v u:Value) (w:World) (hv:Row w v (toI xs)) (hu:Row w u (toI ys)) (ha:Gw n xs) (hb:Nrm ys) (hl:ys≠[]) (la:xs.length≤500) (lb:ys.length≤500) :
  Calls Tryz.prog 27 #[.agg #[.bool n,v],u] w fun e w'=>∃v',e=.returned (.agg #[.bool (ng ((2*sv n xs+(val ys:Int))/(2*(val ys:Int)))),v'])/\Old w w'/\Own w' w.heap.size v' (toI (dg ((2*sv n xs+(val ys:Int))/(2*(val ys:Int))))):=by
 have HV:=Qaa hv;have HU:=Qaa hu;obtain ⟨a0,cap0,rfl⟩:=hv.sliceN;obtain ⟨a1,cap1,rfl⟩:=hu.sliceN;clear hv hu;have hD:=Qny hb hl
 -- the numbers on the way
 obtain ⟨z1,hz1⟩:∃z1,z1=sv n xs*sv false [2]:=⟨_,rfl⟩
 have ez1:z1=2*sv n xs:=by rw [hz1];simp [sv,val];omega
 obtain ⟨z2,hz2⟩:∃z2,z2=sv (ng z1) (dg z1)+sv false ys:=⟨_,rfl⟩
 have ez2:z2=2*sv n xs+(val ys:Int):=by rw [hz2,Qfl,ez1];simp [sv]
 have e2:val [2]=2:=by simp [val]
 have ed:(val (dig (val ys*val [2])):Int)=2*(val ys:Int):=by rw [Qag,e2];simp;omega
 obtain ⟨z3,hz3⟩:∃z3,z3=sv (ng z2) (dg z2)/(val (dig (val ys*val [2])):Int):=⟨_,rfl⟩
 have ez3:(2*sv n xs+(val ys:Int))/(2*(val ys:Int))=z3:=by rw [hz3,Qfl,ez2,ed]
 rw [ez3];have hpow:∀k,LB^k*4<=LB^(k+1):=fun k=>by rw [Nat.pow_succ];exact Nat.mul_le_mul (Nat.le_refl _) (by decide)
 have hvx:=Qbi ha.1.1;have hvy:=Qbi hb.1
 have hl1:(dg z1).length<=501:=by
  refine Nat.le_trans (Qpt (k:=xs.length+1) ?_) (by omega);have:=hpow xs.length;rw [ez1,Int.natAbs_mul,Qpu];simp;omega
 have hl2:(dg z2).length<=1002:=by
  refine Nat.le_trans (Qpt (k:=(xs.length+ys.length)+1) ?_) (by omega);have h1:=hpow (xs.length+ys.length);have h2:LB^xs.length<=LB^(xs.length+ys.length):=Nat.pow_le_pow_right Qa2 (by omega);have h3:LB^ys.length<=LB^(xs.length+ys.length):=Nat.pow_le_pow_right Qa2 (by omega);have h4:=Qpu n xs;rw [ez2];omega
 have hl3:(dig (val ys*val [2])).length<=501:=by
  refine Nat.le_trans (Qay (k:=ys.length+1) ?_) (by omega);have:=hpow ys.length;rw [e2];omega
 have hne3:dig (val ys*val [2])≠[]:=Qgm (by rw [e2];omega);have Z1:=Qaa hz1;have Z2:=Qaa hz2;have Z3:=Qaa hz3;have HD3:=Qaa hne3;clear hz1 hz2 hz3 ez1 ez2 ez3 ed e2 hpow hvx hvy hne3;obtain ⟨ds,hds⟩:∃ds,ds=dig (val ys*val [2]):=⟨_,rfl⟩
 have HDS:=Qaa hds;rw [<- hds] at hl3;clear hds;go_enter Tryz.func27,Tryz.ntmps27;go_wp2_with fail;have HA:Hid (∀t1 t2 t3 xs1 xs2 xs3,Old w (((w.alloc (.cells xs1 t1)).alloc (.cells xs2 t2)).alloc (.cells xs3 t3))):=fun t1 t2 t3 xs1 xs2 xs3=>(((Old.refl w).alloc _).alloc _).alloc _
 refine (Qlx n false xs [2] _ _ _ (HV.out.old (HA.out _ _ _ _ _ _)) (by have:=Qnz ((w.alloc (.cells #[Value.bool n,Value.slice a0 xs.length cap0] 57)).alloc (.cells #[Value.bool false,Value.slice none 0 0] 57)) 3;simp at this;exact this) ha.1.1 (Lim.cons (by decide) Lim.nil) (by omega) (by simp)).mono ?_
 rw [<- Z1.out];rintro e w5 ⟨v5,rfl,g5,o5⟩;obtain ⟨a5,cap5,rfl⟩:=(Own.row o5).sliceN;have q0:w5.cell? ⟨w.heap.size+1,0,none⟩=some (Value.bool false):=(g5.cell (p:=⟨w.heap.size+1,0,none⟩) (by simp;try omega)).trans (Q1u _ _ _ _ _ _ _ _)
 have q1:w5.cell? ⟨w.heap.size+1,1,none⟩=some (Value.slice none 0 0):=(g5.cell (p:=⟨w.heap.size+1,1,none⟩) (by simp;try omega)).trans (Q1u _ _ _ _ _ _ _ _)
 have f0:=(g5.frozen (p:=⟨w.heap.size+1,0,none⟩) (by simp;try omega)).trans (Q4u _ _ _ _ _ _ _ _);have f1:=(g5.frozen (p:=⟨w.heap.size+1,1,none⟩) (by simp;try omega)).trans (Q4u _ _ _ _ _ _ _ _);have hs5:w.heap.size+3<=w5.heap.size:=by have:=g5.size;simp at this;omega
 have HG5:=Qaa (Old.trans (HA.out _ _ _ _ _ _) g5);have HR5:=Qaa (Own.row o5);clear g5 o5 HA;go_wp2_with fail;refine (Qvw (ng z1) false (dg z1) ys _ _ _ (HR5.out.old ((Old.refl _).alloc _)) (HU.out.old (HG5.out.alloc _)) (Qim z1) ⟨hb,fun h=>by cases h⟩ (by omega) (by omega)).mono ?_
 rw [<- Z2.out];rintro e w6 ⟨v6,rfl,g6,o6⟩;obtain ⟨a6,cap6,rfl⟩:=(Own.row o6).sliceN;have g56:=Old.trans ((Old.refl _).alloc _) g6;have q0f:=(g56.cell (p:=⟨w.heap.size+1,0,none⟩) (by show w.heap.size+1<w5.heap.size;omega)).trans q0;have q1f:=(g56.cell (p:=⟨w.heap.size+1,1,none⟩) (by show w.heap.size+1<w5.heap.size;omega)).trans q1;have f0f:=(g56.frozen (p:=⟨w.heap.size+1,0,none⟩) (by show w.heap.size+1<w5.heap.size;omega)).trans f0;have f1f:=(g56.frozen (p:=⟨w.heap.size+1,1,none⟩) (by show w.heap.size+1<w5.heap.size;omega)).trans f1;have HG6:=Qaa (Old.trans HG5.out g56);have hs6:w.heap.size+3<=w6.heap.size:=by have:=g56.size;omega
 have HR6:=Qaa (Own.row o6);clear g6 g56 o6 HR5 HG5;go_wp2_with fail;refine (Qf8 ys [2] _ _ _ (HU.out.old (HG6.out.alloc _)) (Qnz w6 _) hb.1 (Lim.cons (by decide) Lim.nil) (by omega) (by simp)).mono ?_
 rintro e w7 ⟨v7,rfl,g7,o7⟩;rw [<- HDS.out] at o7;obtain ⟨a7,cap7,rfl⟩:=(Own.row o7).sliceN;have g67:=Old.trans ((Old.refl _).alloc _) g7;have q0g:=(g67.cell (p:=⟨w.heap.size+1,0,none⟩) (by show w.heap.size+1<w6.heap.size;omega)).trans q0f;have q1g:=(g67.cell (p:=⟨w.heap.size+1,1,none⟩) (by show w.heap.size+1<w6.heap.size;omega)).trans q1f;have f0g:=(g67.frozen (p:=⟨w.heap.size+1,0,none⟩) (by show w.heap.size+1<w6.heap.size;omega)).trans f0f;have f1g:=(g67.frozen (p:=⟨w.heap.size+1,1,none⟩) (by show w.heap.size+1<w6.heap.size;omega)).trans f1f;have HG7:=Qaa (Old.trans HG6.out g67);have hs7:w.heap.size+3<=w7.heap.size:=by have:=g67.size;omega
 have HR7:=Qaa (HR6.out.old g67);have HD7:=Qaa (Own.row o7);clear g7 g67 o7 HR6 HG6;go_wp2_with fail;refine (Qvz (ng z2) (dg z2) ds _ _ _ HR7.out HD7.out (Qim z2).1.1 (by rw [HDS.out];exact Qbm _) (by rw [HDS.out];exact HD3.out) (by omega) (by omega)).mono ?_
 rw [HDS.out,<- Z3.out];rintro e w8 ⟨v8,v9,rfl,g8,o8,o9⟩;obtain ⟨a8,cap8,rfl⟩:=(Own.row o8).sliceN;obtain ⟨a9,cap9,rfl⟩:=(Own.row o9).sliceN;have q0h:=(g8.cell (p:=⟨w.heap.size+1,0,none⟩) (by show w.heap.size+1<w7.heap.size;omega)).trans q0g;have q1h:=(g8.cell (p:=⟨w.heap.size+1,1,none⟩) (by show w.heap.size+1<w7.heap.size;omega)).trans q1g;have f0h:=(g8.frozen (p:=⟨w.heap.size+1,0,none⟩) (by show w.heap.size+1<w7.heap.size;omega)).trans f0g;have f1h:=(g8.frozen (p:=⟨w.heap.size+1,1,none⟩) (by show w.heap.size+1<w7.heap.size;omega)).trans f1g;have HG8:=Qaa (Old.trans HG7.out g8);have hs8:w.heap.size+3<=w8.heap.size:=by have:=g8.size;omega
 have HO8:=Qaa (Own.low o8 hs7);clear g8 o8 o9 HR7 HD7 HG7;have q0k:(w8.alloc (.cells #[Value.bool (ng z3),Value.slice a8 (dg z3).length cap8] 57)).cell? ⟨w.heap.size+1,0,none⟩=some (Value.bool false):=(Qa0 _ _ _ _ (by omega)).trans q0h
 have q1k:(w8.alloc (.cells #[Value.bool (ng z3),Value.slice a8 (dg z3).length cap8] 57)).cell? ⟨w.heap.size+1,1,none⟩=some (Value.slice none 0 0):=(Qa0 _ _ _ _ (by omega)).trans q1h
 have f0k:(w8.alloc (.cells #[Value.bool (ng z3),Value.slice a8 (dg z3).length cap8] 57)).frozen? ⟨w.heap.size+1,0,none⟩=false:=(Qca _ _ _ _ (by omega)).trans f0h
 have f1k:(w8.alloc (.cells #[Value.bool (ng z3),Value.slice a8 (dg z3).length cap8] 57)).frozen? ⟨w.heap.size+1,1,none⟩=false:=(Qca _ _ _ _ (by omega)).trans f1h
 go_wp2_with fail;refine bodyPost_ret (v:=.agg #[.bool (ng z3),.slice a8 (dg z3).length cap8]) (by simp [results,Tryz.results27,go_sem,q0k,q1k]) rfl ⟨_,rfl,?_,?_⟩
 ·exact ((HG8.out.alloc _).own (p:=⟨w.heap.size+1,0,none⟩) (by simp) _).own (p:=⟨w.heap.size+1,1,none⟩) (by simp) _
 ·refine Own.low (base:=w.heap.size+3) (ownsRow_setCell_other (ownsRow_setCell_other (HO8.out.alloc _) (fun e=>?_) _) (fun e=>?_) _) (by omega)
  ·have:=(HO8.out.lt (w.heap.size+1) e).1;omega
  ·have:=(HO8.out.lt (w.heap.size+1) e).1;omega
end Go.Proofs.YthcidnnkakppcaaGreatDoor
