/- Proved: what its theorems say. -/
import Derived.Test.YtejhpljichmmpaaGreatDoorNi00
import Derived.Deep.RegionWith
set_option linter.unusedVariables false
set_option linter.unusedSimpArgs false
namespace Go.Proofs.YtejhpljichmmpaaGreatDoor
open Go.ChangeShapes Go.WideShapes Go.ChangeAt Go.RowKit
open M2
abbrev StW (w:World) (k:Nat) (x y:Value) (t:TypeId):Prop:=w.heap[k]? = some (.cells #[x,y] t (0,0))
theorem StW.c0 {w:World} {k:Nat} {x y:Value} {t:TypeId} (h:StW w k x y t):w.cell? ⟨k,0,none⟩=some x:=cell_of_row w k 0 _ t (0,0) h
theorem StW.c1 {w:World} {k:Nat} {x y:Value} {t:TypeId} (h:StW w k x y t):w.cell? ⟨k,1,none⟩=some y:=cell_of_row w k 1 _ t (0,0) h
theorem StW.f0 {w:World} {k:Nat} {x y:Value} {t:TypeId} (h:StW w k x y t):w.frozen? ⟨k,0,none⟩=false:=frozen_of_row w k 0 _ t h
theorem StW.f1 {w:World} {k:Nat} {x y:Value} {t:TypeId} (h:StW w k x y t):w.frozen? ⟨k,1,none⟩=false:=frozen_of_row w k 1 _ t h
theorem StW.lt {w:World} {k:Nat} {x y:Value} {t:TypeId} (h:StW w k x y t):k<w.heap.size:=(Array.getElem?_eq_some_iff.1 h).1
theorem StW.old {w w':World} {k:Nat} {x y:Value} {t:TypeId} (h:StW w k x y t) (g:Old w w'):StW w' k x y t:=(g.block k h.lt).trans h
theorem StW.new (w:World) (x y:Value) (t:TypeId):StW (w.alloc (.cells #[x,y] t)) w.heap.size x y t:=heap_alloc_new w _
end Go.Proofs.YtejhpljichmmpaaGreatDoor
namespace Go.Proofs.YtejhpljichmmpaaGreatDoor
open Go.ChangeShapes Go.WideShapes Go.ChangeAt Go.RowKit
structure Made (w0:World) (rb:Bool) (rl:List Nat) (W:World) (k:Nat) (a:Option Addr) (cap:Nat):Prop where
 old:Old w0 W
 st:StW W k (.bool rb) (.slice a (toI rl).length cap) 31
 own:Own W w0.heap.size (.slice a (toI rl).length cap) (toI rl)
 lo:w0.heap.size<=k
theorem Qn9 {w0 w5:World} {rb:Bool} {rl:List Nat} {a:Option Addr} {cap base k:Nat} (g:Old w0 w5) (o:Own w5 base (.slice a (toI rl).length cap) (toI rl)) (s:StW w5 k (.bool false) (.slice none 0 0) 31) (hb:w0.heap.size<=base) (hk:w0.heap.size<=k) (hne:k<base) :
 Made w0 rb rl ((w5.setCell ⟨k,0,none⟩ (.bool rb)).setCell ⟨k,1,none⟩ (.slice a (toI rl).length cap)) k a cap:=by
 refine ⟨(g.own (p:=⟨k,0,none⟩) hk _).own (p:=⟨k,1,none⟩) hk _,?_,?_,hk⟩
 ·have h1:=heap_setCell_same w5 k 0 _ _ (.bool rb) s;have h2:=heap_setCell_same _ k 1 _ _ (.slice a (toI rl).length cap) h1;exact h2
 ·refine Own.low (base:=base) (ownsRow_setCell_other (ownsRow_setCell_other o (fun e=>?_) _) (fun e=>?_) _) hb
  ·have:=(o.lt k e).1;omega
  ·have:=(o.lt k e).1;omega
def Bk (w:World) (k:Nat) (cs:Array Value) (t:TypeId):Prop:=w.heap[k]? = some (.cells cs t (0,0))
theorem Bk.lt {w:World} {k:Nat} {cs:Array Value} {t:TypeId} (h:Bk w k cs t):k<w.heap.size:=(Array.getElem?_eq_some_iff.1 h).1
theorem Bk.old {w w':World} {k:Nat} {cs:Array Value} {t:TypeId} (h:Bk w k cs t) (g:Old w w'):Bk w' k cs t:=(g.block k h.lt).trans h
theorem Bk.chg {w w':World} {k:Nat} {cs:Array Value} {t:TypeId} {lo hi:Nat} (h:Bk w k cs t) (c:Chg w w' lo hi) (hk:k<lo∨hi<=k):Bk w' k cs t:=(c.block k h.lt hk).trans h
theorem Bk.new' (w:World) {k:Nat} (cs:Array Value) (t:TypeId) (hk:w.heap.size=k):Bk (w.alloc (.cells cs t)) k cs t:=by
 subst hk;exact heap_alloc_new w _
theorem Bk.alloc {w:World} {k:Nat} {cs:Array Value} {t:TypeId} (h:Bk w k cs t) (o:Obj):Bk (w.alloc o) k cs t:=h.old ((Old.refl w).alloc o)
theorem Bk.c {w:World} {k:Nat} {cs:Array Value} {t:TypeId} (h:Bk w k cs t) {i:Nat} {v:Value} (hi:cs[i]? = some v):w.cell? ⟨k,i,none⟩=some v:=by
 rw [<- hi];exact cell_of_row w k i cs t (0,0) h
def OwI (xs:List Int) (W:World) (lo hi:Nat) (v:Value):Prop:=Own W lo v xs/\hi<=W.heap.size/\∀b,v.ownBlock=some b->b<hi
theorem OwI.of {W w':World} {v:Value} {xs:List Int} (o:Own w' W.heap.size v xs):OwI xs w' W.heap.size w'.heap.size v:=⟨o,Nat.le_refl _,fun b hb=>(o.lt b hb).2⟩
theorem OwI.row {W:World} {lo hi:Nat} {v:Value} {xs:List Int} (h:OwI xs W lo hi v):Row W v xs:=Own.row h.1
theorem Qwh {W W':World} {lo hi:Nat} {v:Value} {xs:List Int} (h:Own W lo v xs) (hh:∀b,v.ownBlock=some b->b<hi) (hf:∀b,lo<=b->b<hi->W'.heap[b]? = W.heap[b]?):Own W' lo v xs:=by
 refine ⟨h.1,?_⟩;rcases h.2 with hn | ⟨p,cap,cur,rfl,hb,hgg,rest⟩
 ·exact .inl hn
 ·refine .inr ⟨p,cap,cur,rfl,hb,?_,rest⟩;rw [hf p hb (hh p rfl)];exact hgg
theorem Qg0 (xs:List Int):Far (OwI xs):=fun W W' lo hi v h hf hs=>⟨Qwh h.1 h.2.2 hf,Nat.le_trans h.2.1 hs,h.2.2⟩
theorem OwI.mark {W w':World} {lo hi:Nat} {v:Value} {xs ys:List Int} (h:OwI xs W lo hi v) (g:W.grownBy w' v.ownBlock) (o:Own w' lo v ys):Chg W w' lo hi/\OwI ys w' lo hi v:=
 ⟨Qvc g (fun b hb=>⟨(h.1.lt b hb).1,h.2.2 b hb⟩),o,Nat.le_trans h.2.1 g.size,h.2.2⟩
def XW (n:Bool) (xs:List Int) (W:World) (lo hi:Nat) (g:Array Value):Prop:=∃a c,g=#[.bool n,.slice a xs.length c]/\OwI xs W lo hi (.slice a xs.length c)
theorem Qvd (n:Bool) (xs:List Int):Far (XW n xs):=fun W W' lo hi v h hf hs=>by
 obtain ⟨a,c,e,o⟩:=h;exact ⟨a,c,e,Qg0 xs W W' lo hi _ o hf hs⟩
theorem Qoa {n:Bool} {xs:List Int} (W:World) (lo hi:Nat) (g:Array Value) (h:XW n xs W lo hi g):∃a c,g=#[.bool n,.slice a xs.length c]:=by
 obtain ⟨a,c,e,o⟩:=h;exact ⟨a,c,e⟩
def Qdg (left:Int) (len:Nat):Int:=if left<(len:Int) then -1 else left - len
theorem Qe0 {left:Int} {len:Nat} (h:¬Qdg left len<0) (h0:0<=left):(len:Int)<=left/\Qdg left len=left - len/\0<=Qdg left len:=by
 unfold Qdg at *;split at h
 ·omega
 ·rename_i h2
  rw [if_neg h2];omega
theorem Q0i (n:Bool) (xs:List Int) (W:World) (lo hi:Nat) (g:Array Value) (lo' hi':Nat) (g':Array Value) (h:XW n xs W lo hi g) (h':XW n xs W lo' hi' g') (hl:xs.length<=1073741824) :
 Calls Tryz.prog 15 #[.agg g,.agg g'] W fun e w'=>e=.returned (.bool true)/\Old W w':=by
 obtain ⟨a,c,rfl,o⟩:=h;obtain ⟨a',c',rfl,o'⟩:=h';exact Qmg n xs _ _ W o.row o'.row hl
abbrev Qbm:=World->(Nat->Prop)->List Value->Prop
structure GoodT (E:Qbm):Prop where
 far:∀{W W':World} {B:Nat->Prop} {cs:List Value},E W B cs->(∀b,B b->W'.heap[b]? = W.heap[b]?)->E W' B cs
 lt:∀{W:World} {B:Nat->Prop} {cs:List Value},E W B cs->∀b,B b->b<W.heap.size
def TI (xs:List Int):Qbm:=fun W B cs=>∃a c,cs=[.slice a xs.length c]/\Own W 0 (.slice a xs.length c) xs/\xs.length<=c/\∀b,B b↔(Value.slice a xs.length c).ownBlock=some b
def TB (s:Bool) (E:Qbm):Qbm:=fun W B cs=>∃x,cs=[.bool s,x]/\E W B [x]
def Qa4 (n:Nat) (vs:List Value) (j:Nat):List Value:=(vs.drop (j*n)).take n
structure TSc (T:TypeId) (n m k:Nat) (Es:Nat->Qbm) (W:World) (p cap:Nat) (vs:List Value) (Bs:Nat->Nat->Prop):Prop where
 row:W.ownsRow 0 T n (.slice (some ⟨p,0,none⟩) m cap) m vs
 el:∀j,j<k->Es j W (Bs j) (Qa4 n vs j)
 np:∀j,j<k->¬Bs j p
 dis:∀i j,i<k->j<k->i≠j->∀b,Bs i b->Bs j b->False
def TS (T:TypeId) (n m:Nat) (Es:Nat->Qbm):Qbm:=fun W B cs=>
 (m=0/\cs=[.slice none 0 0]/\∀b,¬B b)∨∃p cap vs Bs,cs=[.slice (some ⟨p,0,none⟩) m cap]/\TSc T n m m Es W p cap vs Bs/\∀b,B b↔b=p∨∃j,j<m/\Bs j b
def Ows (E:Qbm) (W:World) (lo hi:Nat) (cs:List Value):Prop:=hi<=W.heap.size/\∃B,E W B cs/\∀b,B b->lo<=b/\b<hi
theorem Qmh {W W':World} {base p n m cap:Nat} {T:TypeId} {vs:List Value} (h:W.ownsRow base T n (.slice (some ⟨p,0,none⟩) m cap) m vs) (hf:W'.heap[p]? = W.heap[p]?):W'.ownsRow base T n (.slice (some ⟨p,0,none⟩) m cap) m vs:=by
 refine ⟨h.1,?_⟩;rcases h.2 with ⟨hn,_⟩ | ⟨p',cap',cur,e,hb,hgg,rest⟩
 ·cases hn
 ·simp only [Value.slice.injEq,Option.some.injEq,Addr.mk.injEq,true_and,and_true] at e;obtain ⟨rfl,rfl⟩:=e;exact .inr ⟨p,cap,cur,rfl,hb,hf.trans hgg,rest⟩
theorem Qbc {W:World} {base p n m cap:Nat} {T:TypeId} {vs:List Value} (h:W.ownsRow base T n (.slice (some ⟨p,0,none⟩) m cap) m vs):p<W.heap.size:=(h.lt p rfl).2
theorem Qtb {W W':World} {base:Nat} {v:Value} {xs:List Int} (h:Own W base v xs) (hf:∀b,v.ownBlock=some b->W'.heap[b]? = W.heap[b]?):Own W' base v xs:=by
 refine ⟨h.1,?_⟩;rcases h.2 with hn | ⟨p,cap,cur,rfl,hb,hgg,rest⟩
 ·exact .inl hn
 ·exact .inr ⟨p,cap,cur,rfl,hb,(hf p rfl).trans hgg,rest⟩
theorem Qdc (xs:List Int):GoodT (TI xs):=by
 constructor
 ·rintro W W' B cs ⟨a,c,e,o,f,hb⟩ hf;exact ⟨a,c,e,Qtb o (fun b h=>hf b ((hb b).2 h)),f,hb⟩
 ·rintro W B cs ⟨a,c,e,o,f,hb⟩ b h;exact (o.lt b ((hb b).1 h)).2
theorem Qqv (s:Bool) {E:Qbm} (g:GoodT E):GoodT (TB s E):=by
 constructor
 ·rintro W W' B cs ⟨x,e,h⟩ hf;exact ⟨x,e,g.far h hf⟩
 ·rintro W B cs ⟨x,e,h⟩ b hb;exact g.lt h b hb
theorem TSc.far {T:TypeId} {n m k:Nat} {Es:Nat->Qbm} {W W':World} {p cap:Nat} {vs:List Value} {Bs:Nat->Nat->Prop} (g:∀j,GoodT (Es j)) (h:TSc T n m k Es W p cap vs Bs) (hp:W'.heap[p]? = W.heap[p]?) (hf:∀j b,j<k->Bs j b->W'.heap[b]? = W.heap[b]?):TSc T n m k Es W' p cap vs Bs:=
 ⟨Qmh h.row hp,fun j hj=>(g j).far (h.el j hj) (fun b hb=>hf j b hj hb),h.np,h.dis⟩
theorem TSc.lt {T:TypeId} {n m k:Nat} {Es:Nat->Qbm} {W:World} {p cap:Nat} {vs:List Value} {Bs:Nat->Nat->Prop} (g:∀j,GoodT (Es j)) (h:TSc T n m k Es W p cap vs Bs) (j b:Nat) (hj:j<k) (hb:Bs j b):b<W.heap.size:=(g j).lt (h.el j hj) b hb
theorem TSc.old {T:TypeId} {n m k:Nat} {Es:Nat->Qbm} {W W':World} {p cap:Nat} {vs:List Value} {Bs:Nat->Nat->Prop} (g:∀j,GoodT (Es j)) (h:TSc T n m k Es W p cap vs Bs) (q:Old W W'):TSc T n m k Es W' p cap vs Bs:=
 h.far g (q.block p (Qbc h.row)) (fun j b hj hb=>q.block b (h.lt g j b hj hb))
theorem Qwi (T:TypeId) (n m:Nat) {Es:Nat->Qbm} (g:∀j,GoodT (Es j)):GoodT (TS T n m Es):=by
 constructor
 ·rintro W W' B cs (h | ⟨p,cap,vs,Bs,e,h,hb⟩) hf
  ·exact .inl h
  ·exact .inr ⟨p,cap,vs,Bs,e,h.far g (hf p ((hb p).2 (.inl rfl))) (fun j b hj hB=>hf b ((hb b).2 (.inr ⟨j,hj,hB⟩))),hb⟩
 ·rintro W B cs (h | ⟨p,cap,vs,Bs,e,h,hb⟩) b hB
  ·exact absurd hB (h.2.2 b)
  ·rcases (hb b).1 hB with rfl | ⟨j,hj,hB⟩
   ·exact Qbc h.row
   ·exact h.lt g j b hj hB
theorem Qwj {E:Qbm} (g:GoodT E):Far (Ows E):=fun W W' lo hi cs h hf hs=>by
 obtain ⟨hh,B,hE,hb⟩:=h;exact ⟨by omega,B,g.far hE (fun b hB=>hf b (hb b hB).1 (hb b hB).2),hb⟩
theorem Ows.low {E:Qbm} {W:World} {lo lo' hi hi':Nat} {cs:List Value} (h:Ows E W lo hi cs) (hl:lo'<=lo) (hh:hi<=hi') (hs:hi'<=W.heap.size):Ows E W lo' hi' cs:=by
 obtain ⟨_,B,hE,hb⟩:=h;exact ⟨hs,B,hE,fun b hB=>by have:=hb b hB;omega⟩
theorem Ows.old {E:Qbm} (g:GoodT E) {W W':World} {lo hi:Nat} {cs:List Value} (h:Ows E W lo hi cs) (q:Old W W'):Ows E W' lo hi cs:=(Qwj g).old h q h.1
theorem TS.slice {T:TypeId} {n m:Nat} {Es:Nat->Qbm} {W:World} {B:Nat->Prop} {v:Value} (h:TS T n m Es W B [v]):∃a c,v=.slice a m c:=by
 rcases h with ⟨h0,h1,_⟩ | ⟨p,cap,vs,Bs,e,_⟩
 ·simp at h1;exact ⟨none,0,by rw [h1,h0]⟩
 ·simp at e;exact ⟨_,_,e⟩
theorem TI.slice {xs:List Int} {W:World} {B:Nat->Prop} {v:Value} (h:TI xs W B [v]):∃a c,v=.slice a xs.length c:=by
 obtain ⟨a,c,e,_⟩:=h;simp at e;exact ⟨a,c,e⟩
theorem TI.row {xs:List Int} {W:World} {B:Nat->Prop} {v:Value} (h:TI xs W B [v]):Row W v xs:=by
 obtain ⟨a,c,e,o,_⟩:=h;simp at e;rw [e];exact Own.row o
theorem Qbs {n m:Nat} {vs:List Value} (h:vs.length=m*n) (j:Nat) (hj:j<m):(Qa4 n vs j).length=n:=by
 unfold Qa4;rw [List.length_take,List.length_drop,h];have:(j+1)*n<=m*n:=Nat.mul_le_mul_right n hj;rw [Nat.add_mul] at this;omega
theorem Qeb (n:Nat) (vs:List Value) (j i:Nat) (hi:i<n):(Qa4 n vs j)[i]? = vs[j*n+i]?:=by
 unfold Qa4;rw [List.getElem?_take,if_pos hi,List.getElem?_drop]
theorem Qbt (n:Nat) (vs:List Value) (j i q:Nat) (x:Value) (hi:i<n):Qa4 n (vs.set (j*n+i) x) q=if q=j then (Qa4 n vs j).set i x else Qa4 n vs q:=by
 apply List.ext_getElem?
 intro r;rcases Nat.lt_or_ge r n with hr | hr
 ·rw [Qeb n _ q r hr,List.getElem?_set]
  by_cases hq:q=j
  ·subst hq;rw [if_pos rfl,List.getElem?_set,Qeb n vs q r hr]
   by_cases hri:i=r
   ·subst hri;rw [if_pos rfl,if_pos rfl]
    by_cases hlen:q*n+i<vs.length
    ·rw [if_pos hlen,if_pos];unfold Qa4;rw [List.length_take,List.length_drop];omega
    ·rw [if_neg hlen,if_neg];unfold Qa4;rw [List.length_take,List.length_drop];omega
   ·rw [if_neg (by omega),if_neg hri]
  ·rw [if_neg hq,if_neg,Qeb n vs q r hr];intro e;apply hq;have h1:(j*n+i)/n=j:=by rw [Nat.mul_comm,Nat.mul_add_div (by omega),Nat.div_eq_of_lt hi];omega
   have h2:(q*n+r)/n=q:=by rw [Nat.mul_comm,Nat.mul_add_div (by omega),Nat.div_eq_of_lt hr];omega
   rw [<- h1,<- h2,e]
 ·have l1:∀(us:List Value) (z:Nat),(Qa4 n us z)[r]? = none:=fun us z=>by
   apply List.getElem?_eq_none
   unfold Qa4;rw [List.length_take];omega
  rw [l1];split
  ·rw [List.getElem?_set];rw [if_neg (by omega)];exact (l1 vs j).symm
  ·exact (l1 vs q).symm
theorem TSc.cell {T:TypeId} {n m k:Nat} {Es:Nat->Qbm} {W:World} {p cap:Nat} {vs:List Value} {Bs:Nat->Nat->Prop} (h:TSc T n m k Es W p cap vs Bs) (j i:Nat) (hj:j<m) (hi:i<n):W.cell? ⟨p,j*n+i,none⟩=(Qa4 n vs j)[i]?:=by
 rw [World.ownsRow.cellAt h.row (j*n+i) (by
  have:(j+1)*n<=m*n:=Nat.mul_le_mul_right n hj;rw [Nat.add_mul] at this;omega),Qeb n vs j i hi]
theorem TSc.frozen {T:TypeId} {n m k:Nat} {Es:Nat->Qbm} {W:World} {p cap:Nat} {vs:List Value} {Bs:Nat->Nat->Prop} (h:TSc T n m k Es W p cap vs Bs) (j:Nat):W.frozen? ⟨p,j,none⟩=false:=World.ownsRow.frozenAt h.row j
theorem TSc.start {T:TypeId} {n m:Nat} {Es:Nat->Qbm} {W:World} {p cap:Nat} {vs:List Value} (h:W.ownsRow 0 T n (.slice (some ⟨p,0,none⟩) m cap) m vs):TSc T n m 0 Es W p cap vs (fun _ _=>False):=
 ⟨h,fun j hj=>by omega,fun j hj=>by omega,fun i j hi=>by omega⟩
theorem TSc.fill {T:TypeId} {n m k:Nat} {Es:Nat->Qbm} {W:World} {p cap:Nat} {vs:List Value} {Bs:Nat->Nat->Prop} (g:∀j,GoodT (Es j)) (h:TSc T n m k Es W p cap vs Bs) (i:Nat) (hi:i<n) (x:Value):TSc T n m k Es (W.setCell ⟨p,k*n+i,none⟩ x) p cap (vs.set (k*n+i) x) Bs:=by
 have hot:∀b,b≠p->(W.setCell ⟨p,k*n+i,none⟩ x).heap[b]? = W.heap[b]?:=fun b hb=>heap_setCell_other _ _ _ _ hb
 refine ⟨(World.ownsRow.stored h.row _ _).1,fun q hq=>?_,h.np,h.dis⟩;rw [Qbt n vs k i q x hi,if_neg (by omega)];exact (g q).far (h.el q hq) (fun b hb=>hot b (fun e=>h.np q hq (by rw [<- e];exact hb)))
theorem TSc.more {T:TypeId} {n m k:Nat} {Es:Nat->Qbm} {W:World} {p cap:Nat} {vs:List Value} {Bs:Nat->Nat->Prop} {B:Nat->Prop} (h:TSc T n m k Es W p cap vs Bs) (he:Es k W B (Qa4 n vs k)) (hp:¬B p) (hd:∀j,j<k->∀b,Bs j b->B b->False):TSc T n m (k+1) Es W p cap vs (fun q=>if q=k then B else Bs q):=by
 refine ⟨h.row,fun j hj=>?_,fun j hj=>?_,fun i j hi hj hij b=>?_⟩
 ·by_cases e:j=k
  ·subst e;simp only [if_true];exact he
  ·simp only [e,if_false];exact h.el j (by omega)
 ·by_cases e:j=k
  ·simp only [e,if_true];exact hp
  ·simp only [e,if_false];exact h.np j (by omega)
 ·by_cases e:i=k
  ·have e2:¬j=k:=by omega
   simp only [e,e2,if_true,if_false];exact fun h1 h2=>hd j (by omega) b h2 h1
  ·by_cases e2:j=k
   ·simp only [e,e2,if_true,if_false];exact fun h1 h2=>hd i (by omega) b h1 h2
   ·simp only [e,e2,if_false];exact h.dis i j (by omega) (by omega) hij b
theorem TSc.done {T:TypeId} {n m:Nat} {Es:Nat->Qbm} {W:World} {p cap lo:Nat} {vs:List Value} {Bs:Nat->Nat->Prop} (g:∀j,GoodT (Es j)) (h:TSc T n m m Es W p cap vs Bs) (hp:lo<=p) (hb:∀j b,j<m->Bs j b->lo<=b):Ows (TS T n m Es) W lo W.heap.size [.slice (some ⟨p,0,none⟩) m cap]:=by
 refine ⟨Nat.le_refl _,fun b=>b=p∨∃j,j<m/\Bs j b,.inr ⟨p,cap,vs,Bs,rfl,h,fun b=>Iff.rfl⟩,fun b hB=>?_⟩;rcases hB with rfl | ⟨j,hj,hB⟩
 ·exact ⟨hp,Qbc h.row⟩
 ·exact ⟨hb j b hj hB,h.lt g j b hj hB⟩
theorem TS.ext {T:TypeId} {n m:Nat} {Es Es':Nat->Qbm} {W:World} {B:Nat->Prop} {cs:List Value} (he:∀j,j<m->Es j=Es' j) (h:TS T n m Es W B cs):TS T n m Es' W B cs:=by
 rcases h with h | ⟨p,cap,vs,Bs,e,h,hb⟩
 ·exact .inl h
 ·exact .inr ⟨p,cap,vs,Bs,e,⟨h.row,fun j hj=>by rw [<- he j hj];exact h.el j hj,h.np,h.dis⟩,hb⟩
theorem TI.of {W:World} {lo:Nat} {v:Value} {xs:List Int} (o:Own W lo v xs):∃B,TI xs W B [v]/\∀b,B b->lo<=b:=by
 obtain ⟨a,c,rfl⟩:=(Own.row o).slice;refine ⟨fun b=>(Value.slice a xs.length c).ownBlock=some b,⟨a,c,rfl,Own.low o (Nat.zero_le _),?_,fun b=>Iff.rfl⟩,fun b hb=>(o.lt b hb).1⟩;rcases o.2 with ⟨e,h0⟩ | ⟨p,cap,cur,e,_,_,h,_⟩
 ·simp at e;omega
 ·simp only [Value.slice.injEq] at e;omega
theorem Qmi {n m:Nat} {vs:List Value} (news:List Value) (h:vs.length=m*n) (j:Nat) (hj:j<m):Qa4 n (vs++news) j=Qa4 n vs j:=by
 have hb:(j+1)*n<=m*n:=Nat.mul_le_mul_right n hj;rw [Nat.add_mul] at hb;unfold Qa4;rw [List.drop_append_of_le_length (by omega),List.take_append_of_le_length];rw [List.length_drop];omega
theorem Qmj {n m:Nat} {vs news:List Value} (h:vs.length=m*n) (hn:news.length=n):Qa4 n (vs++news) m=news:=by
 unfold Qa4;rw [<- h,List.drop_left,<- hn,List.take_length]
theorem Ows.app {T:TypeId} {n m:Nat} {Es:Nat->Qbm} {E:Qbm} {W0 W:World} {lo:Nat} {x:Value} {Be:Nat->Prop} {news:List Value} (g:∀j,GoodT (Es j)) (gE:GoodT E)
 (h:Ows (TS T n m Es) W0 lo W0.heap.size [x]) (hlo:lo<=W0.heap.size) (q:Old W0 W) (he:E W Be news) (hbe:∀b,Be b->W0.heap.size<=b) (hn:news.length=n) :
 ∃vs,W.ownsRow 0 T n x m vs/\(∀b,x.ownBlock=some b->lo<=b)/\∀v' w',w'.ownsRow 0 T n v' (m+1) (vs++news)->W.grownBy w' x.ownBlock->(v'.ownBlock=x.ownBlock∨v'.ownBlock=some W.heap.size)->
  Ows (TS T n (m+1) (fun j=>if j=m then E else Es j)) w' lo w'.heap.size [v']:=by
 have hsz:=q.size
 have key:∃(vs:List Value) (Bs:Nat->Nat->Prop),W.ownsRow 0 T n x m vs/\(∀b,x.ownBlock=some b->lo<=b/\b<W0.heap.size)/\(∀j,j<m->Es j W (Bs j) (Qa4 n vs j))/\(∀j b,j<m->Bs j b->(lo<=b/\b<W0.heap.size)/\x.ownBlock≠some b)/\(∀i j,i<m->j<m->i≠j->∀b,Bs i b->Bs j b->False):=by
  obtain ⟨hh,B,hT,hB⟩:=h;rcases hT with ⟨h0,h1,_⟩ | ⟨p,cap,vs,Bs,e,hc,hb⟩
  ·simp at h1;subst h0 h1;exact ⟨[],fun _ _=>False,⟨by simp,.inl ⟨rfl,rfl⟩⟩,(fun b hb=>by cases hb),(fun j hj=>by omega),(fun j b hj=>by omega),(fun i j hi=>by omega)⟩
  ·simp at e;subst e;have hc':=hc.old g q;refine ⟨vs,Bs,hc'.row,fun b hx=>?_,hc'.el,fun j b hj hx=>⟨hB b ((hb b).2 (.inr ⟨j,hj,hx⟩)),fun e=>?_⟩,hc.dis⟩
   ·simp only [Value.ownBlock,Option.some.injEq] at hx;subst hx;exact hB p ((hb p).2 (.inl rfl))
   ·simp only [Value.ownBlock,Option.some.injEq] at e;subst e;exact hc.np j hj hx
 obtain ⟨vs,Bs,ho,hx,hel,hbs,hdis⟩:=key;have hvl:vs.length=m*n:=ho.1;refine ⟨vs,ho,fun b hb=>(hx b hb).1,fun v' w' ho' gr hv'=>?_⟩;rcases ho'.2 with ⟨_,h0⟩ | ⟨p',cap',cur,e',hb',hgg,rest⟩
 ·omega
 subst e';have hp':p'<w'.heap.size:=(Array.getElem?_eq_some_iff.1 hgg).1
 have hcase:x.ownBlock=some p'∨p'=W.heap.size:=by
  rcases hv' with e | e
  ·exact .inl e.symm
  ·simp only [Value.ownBlock,Option.some.injEq] at e;exact .inr e
 have hlop:lo<=p':=by
  rcases hcase with e | e
  ·exact (hx p' e).1
  ·omega
 have hbE:∀b,Be b->b<W.heap.size:=fun b hb=>gE.lt he b hb
 have keep:∀b,b<W.heap.size->x.ownBlock≠some b->w'.heap[b]? = W.heap[b]?:=fun b h1 h2=>gr.block b h1 (fun e=>h2 e.symm)
 have hnE:∀b,Be b->x.ownBlock≠some b:=fun b hb e=>by
  have:=(hx b e).2;have:=hbe b hb;omega
 have hT:TSc T n (m+1) (m+1) (fun j=>if j=m then E else Es j) w' p' cap' (vs++news) (fun j=>if j=m then Be else Bs j):=by
  refine ⟨ho',fun j hj=>?_,fun j hj=>?_,fun i j hi hj hij b=>?_⟩
  ·by_cases e:j=m
   ·subst e;simp only [if_true];rw [Qmj hvl hn];exact gE.far he (fun b hb=>keep b (hbE b hb) (hnE b hb))
   ·simp only [e,if_false];rw [Qmi news hvl j (by omega)];exact (g j).far (hel j (by omega)) (fun b hb=>keep b (by have:=(hbs j b (by omega) hb).1;omega) (hbs j b (by omega) hb).2)
  ·by_cases e:j=m
   ·simp only [e,if_true];intro hb;rcases hcase with e2 | e2
    ·exact hnE p' hb e2
    ·have:=hbE p' hb;omega
   ·simp only [e,if_false];intro hb;have h3:=hbs j p' (by omega) hb;rcases hcase with e2 | e2
    ·exact h3.2 e2
    ·omega
  ·by_cases e:i=m
   ·have e2:¬j=m:=by omega
    simp only [e,e2,if_true,if_false];intro h1 h2;have:=hbe b h1;have:=(hbs j b (by omega) h2).1;omega
   ·by_cases e2:j=m
    ·simp only [e,e2,if_true,if_false];intro h1 h2;have:=hbe b h2;have:=(hbs i b (by omega) h1).1;omega
    ·simp only [e,e2,if_false];exact hdis i j (by omega) (by omega) hij b
 refine hT.done (fun j=>by by_cases e:j=m <;> simp only [e,if_true,if_false];exact gE;exact g j) hlop (fun j b hj hb=>?_)
 by_cases e:j=m
 ·simp only [e,if_true] at hb;have:=hbe b hb;omega
 ·simp only [e,if_false] at hb;exact (hbs j b (by omega) hb).1.1
theorem Ows.nil {T:TypeId} {n:Nat} {Es:Nat->Qbm} {W:World} {lo hi:Nat} (hh:hi<=W.heap.size):Ows (TS T n 0 Es) W lo hi [.slice none 0 0]:=
 ⟨hh,fun _=>False,.inl ⟨rfl,rfl,fun b hb=>hb⟩,fun b hb=>hb.elim⟩
end Go.Proofs.YtejhpljichmmpaaGreatDoor
namespace Go.Proofs.YtejhpljichmmpaaGreatDoor
open Go.ChangeShapes Go.WideShapes Go.ChangeAt Go.RowKit
open M2
def Gw (neg:Bool) (xs:List Nat):Prop:=Nrm xs/\(neg=true->xs≠[])
def ng (z:Int):Bool:=decide (z<0)
def dg (z:Int):List Nat:=dig z.natAbs
theorem Qwk (z:Int):Gw (ng z) (dg z):=by
 refine ⟨Qb0 _,fun h=>Qkm ?_⟩;simp [ng] at h;omega
theorem Qwl (xs ys:List Nat) (v u:Value) (w:World) (hv:Row w v (toI xs)) (hu:Row w u (toI ys)) (ha:Lim xs) (hb:Nrm ys) (hl:ys≠[]) (la:xs.length<=1048576) (lb:ys.length<=1048000) :
 Calls Tryz.prog 125 #[v,u] w fun e w'=>∃v1 v2,e=.returned (.tuple #[v1,v2])/\Old w w'/\Own w' w.heap.size v1 (toI (dig (val xs/val ys)))/\Own w' w.heap.size v2 (toI (dig (val xs%val ys))):=by
 by_cases h1:ys.length=1
 ·obtain ⟨d,rfl⟩:=List.length_eq_one_iff.1 h1;have hd:d≠0:=by have:=hb.2 (by simp);simpa using this
  have hd2:=hb.1.head;have e:val [d]=d:=by simp [val]
  rw [e];exact Qs9 xs d v u w hv hu ha (by omega) hd2 la
 ·have h0:ys.length≠0:=fun h=>hl (List.length_eq_zero_iff.1 h)
  exact Qta xs ys v u w hv hu ha hb (by omega) la lb
theorem Qwm (w:World) (t:TypeId):Row (w.alloc (.cells #[.int .i64 2] t)) (.slice (some ⟨w.heap.size,0,none⟩) 1 1) (toI [2]):=
 Or.inr ⟨w.heap.size,0,1,rfl,by simp,by simp [toI],fun j hj=>by
  have:j=0:=by simp [toI] at hj;omega
  subst this;rw [Qac _ _ _ _ _ (by simp)];rfl⟩
end Go.Proofs.YtejhpljichmmpaaGreatDoor
