/- Proved: what its theorems say. -/
import Derived.Test.YtanijpekdnkicaaGreatDoorTc14
namespace Go.Proofs.YtanijpekdnkicaaGreatDoor
open Go.ChangeShapes Go.WideShapes Go.ChangeAt Go.RowKit
open M1
set_option linter.unusedVariables false
set_option linter.unusedSimpArgs false
def TLt:Thing:=fun W B cs=>∀b,B b→b<W.heap.size
theorem good_TLt:GoodT TLt:=by
 constructor
 ·intro W W' B cs h hf b hb
  have h1:=hf b hb
  have h2:=h b hb
  by_cases h3:b<W'.heap.size
  ·exact h3
  ·rw [Array.getElem?_eq_none (by omega),Array.getElem?_eq_getElem h2] at h1
   cases h1
 ·intro W B cs h b hb
  exact h b hb
set_option maxRecDepth 100000 in
set_option maxHeartbeats 2000000 in
theorem markPairS_B (kss:List PrV) (v:Value) (k:Int) (B:Nat→Prop) (w:World) (hv:TKS kss w B [v]) (hl:kss.length≤1048576) (hr:∀r∈kss,PrLe 1048576 r) (hk:0≤k) (hs:k+(offK kss kss.length:Int)≤1073741824) :
 Calls Tryz.prog 19 #[v,.int .i64 k] w fun e w'=>e=.returned (.int .i64 (k+offK kss kss.length))∧ChB w w' B:=by
 rcases Nat.eq_zero_or_pos kss.length with h0 | h0
 ·obtain rfl:=List.length_eq_zero_iff.1 h0
  obtain ⟨a,c,rfl⟩:=(TKS.rowK hv).slice
  clear hv h0
  go_enter Tryz.func19,Tryz.ntmps19
  go_wp2_with fail
  go_loopw [5,1] (fun i l W=>i=.int .i64 0∧l=.int .i64 k∧W=w) (fun _ _ _=>0)
  case atStart=>exact ⟨rfl,rfl,rfl⟩
  case round=>
   obtain ⟨rfl,rfl,hW⟩:=hrel
   obtain rfl:w=wr:=hW.symm
   go_wp2_with fail
   go_ret
   exact ⟨by simp [offK],ChB.refl w B⟩
 rcases hv with ⟨h1,_,_⟩ | ⟨p,cap,vs,Bs,e,hc,hb⟩
 ·omega
 simp at e
 subst e
 have HR:Hid (∀r∈kss,PrLe 1048576 r):=hr
 have HS:Hid (k+(offK kss kss.length:Int)≤1073741824):=hs
 have HBB:Hid (∀j b,j<kss.length→Bs j b→B b):=fun j b hj h=>(hb b).2 (.inr ⟨j,hj,h⟩)
 have HI:Hid (TSc 77 2 kss.length kss.length (fun q=>if q<0 then TLt else elK kss q) w p cap vs Bs):=hc.ext (fun j _=>by simp)
 have HGD:Hid (∀n j,GoodT (if j<n then TLt else elK kss j)):=fun n j=>by
  split
  ·exact good_TLt
  ·exact good_elK _ _
 have HC0:Hid (ChB w w B):=ChB.refl w B
 clear hc hb hr hs
 go_enter Tryz.func19,Tryz.ntmps19
 go_wp2_with fail
 go_loopw [5,1] (fun i l W=>∃j:Nat,j≤kss.length∧i=.int .i64 j∧l=.int .i64 (k+offK kss j)∧Hid (TSc 77 2 kss.length kss.length (fun q=>if q<j then TLt else elK kss q) W p cap vs Bs)∧Hid (ChB w W B)) (fun i _ _=>kss.length - (intOf i).toNat)
 case atStart=>exact ⟨0,by omega,rfl,by rw [offK_zero];simp,HI,HC0⟩
 case round=>
  obtain ⟨j,hj,rfl,rfl,H1,HC⟩:=hrel
  clear HI HC0
  by_cases hlt:j<kss.length
  ·have d1:decide ((j:Int)<(kss.length:Int))=true:=by simp;omega
   have hel:=H1.out.el j hlt
   simp only [Nat.lt_irrefl,if_false] at hel
   obtain ⟨x,y,B1,B2,ec,hE,hF,hB12,hdis⟩:=hel
   obtain ⟨ax,cx,ex⟩:=TSS.slice hE
   obtain ⟨ay,cy,ey⟩:=TSS.slice hF
   have q1:=H1.out.cell j 0 hlt (by omega)
   have q2:=H1.out.cell j 1 hlt (by omega)
   rw [ec] at q1 q2
   simp only [List.getElem?_cons_zero,List.getElem?_cons_succ,Nat.add_zero] at q1 q2
   rw [ex] at q1 hE
   rw [ey] at q2 hF
   have hm:pk kss j∈kss:=by simp [pk,List.getD,hlt]
   have hrl:=HR.out _ hm
   have hoj:=offK_le kss (j+1)
   have hos:=offK_succ kss j hlt
   have hsum:=HS.out
   unfold offP at hos
   have HN4:Hid (k+(offK kss (j+1):Int)=k+(offK kss j:Int)+(offL (pk kss j).1 (pk kss j).1.length:Int)+(offL (pk kss j).2 (pk kss j).2.length:Int)):=by show _ = _;rw [hos];omega
   have hkb:0≤k+(offK kss j:Int)∧k+(offK kss j:Int)+(offL (pk kss j).1 (pk kss j).1.length:Int)≤1073741824∧0≤k+(offK kss j:Int)+(offL (pk kss j).1 (pk kss j).1.length:Int)∧k+(offK kss j:Int)+(offL (pk kss j).1 (pk kss j).1.length:Int)+(offL (pk kss j).2 (pk kss j).2.length:Int)≤1073741824:=by omega
   have hnp:=H1.out.np j hlt
   have hpl:=ownsRow_lt H1.out.row
   have hBl:∀b,Bs j b→b<wr.heap.size:=fun b h=>((HGD.out j j).lt (H1.out.el j hlt) b h)
   have K1:=hidK (markIntSS_B (pk kss j).1 (.slice ax (pk kss j).1.length cx) (k+offK kss j) B1 wr hE (by have:((pk kss j).1.length:Int)≤1048576:=hrl.1.1;omega) (fun r hr=>by have:(r.length:Int)≤1048576:=hrl.1.2 r hr;omega) hkb.1 hkb.2.1)
   have K2:=hidK (fun w2 (g2:ChB wr w2 B1)=>markIntSS_B (pk kss j).2 (.slice ay (pk kss j).2.length cy) (k+offK kss j+offL (pk kss j).1 (pk kss j).1.length) B2 w2 ((good_TSS _).far hF (fun b hb=>g2.block b (hBl b ((hB12 b).2 (.inr hb))) (fun h=>hdis b h hb))) (by have:((pk kss j).2.length:Int)≤1048576:=hrl.2.1;omega) (fun r hr=>by have:(r.length:Int)≤1048576:=hrl.2.2 r hr;omega) hkb.2.2.1 hkb.2.2.2)
   have Q2:=hidK (fun w2 (g2:ChB wr w2 B1)=>(World.cell?_of_block (a:=(⟨p,j*2+1,none⟩:Addr)) (w:=wr) (w':=w2) (g2.block p hpl (fun h=>hnp ((hB12 p).2 (.inl h))))).trans q2)
   have HX:Hid (∀w2 w3,ChB wr w2 B1→ChB w2 w3 B2→ChB w w3 B∧TSc 77 2 kss.length kss.length (fun q=>if q<j+1 then TLt else elK kss q) w3 p cap vs Bs):=fun w2 w3 g2 g3=>by
    have gr:ChB wr w3 (Bs j):=(g2.sub (fun b hb=>(hB12 b).2 (.inl hb))).trans (g3.sub (fun b hb=>(hB12 b).2 (.inr hb)))
    refine ⟨HC.out.trans (gr.sub (fun b hb=>HBB.out j b hlt hb)),(H1.out.sub (HGD.out j) j hlt (E':=TLt) (fun b h1 h2=>gr.block b h1 h2) (fun b hb=>Nat.lt_of_lt_of_le (hBl b hb) gr.size)).ext (fun q hq=>?_)⟩
    by_cases h1:q=j
    ·subst h1
     simp
    ·by_cases h2:q<j
     ·have h3:q<j+1:=by omega
      simp [h1,h2,h3]
     ·have h3:¬q<j+1:=by omega
      simp [h1,h2,h3]
   clear hE hF ec ex ey q2 hm hrl hoj hos hsum hkb hnp hpl hBl hB12 hdis H1 HC
   generalize hnn:(offK kss (j+1))=nxt at *
   generalize (offK kss j:Nat)=off at *
   generalize pk kss j=pq at *
   generalize offL pq.1 pq.1.length=o1 at *
   generalize offL pq.2 pq.2.length=o2 at *
   go_wp2_with fail
   refine K1.out.mono ?_
   rintro e w2 ⟨rfl,g2,_⟩
   have q2:=Q2.out w2 g2
   have K3:=hidK (K2.out w2 g2)
   have G2:=hidK g2
   clear g2 K1 K2 Q2 q1
   go_wp2_with fail
   refine K3.out.mono ?_
   rintro e w3 ⟨rfl,g3,_⟩
   obtain ⟨n1,n2⟩:=HX.out w2 w3 G2.out g3
   have N1:=hidK n1
   have N2:=hidK n2
   clear n1 n2 g3 HX G2 K3 q2
   go_wp2_with fail
   refine ⟨⟨j+1,by omega,by go_num,?_,N2,N1⟩,by simp [intOf];omega⟩
   rw [hnn,HN4.out]
  ·have d1:decide ((j:Int)<(kss.length:Int))=false:=by simp;omega
   obtain rfl:j=kss.length:=by omega
   clear H1
   go_wp2_with fail
   go_ret
   exact ⟨rfl,HC.out⟩
theorem getD_app1 (yss:List (List Int)) (r:List Int) (j:Nat) (h:j<yss.length):(yss++[r]).getD j []=yss.getD j []:=by
 simp [List.getD,List.getElem?_append_left h]
theorem getD_app2 (yss:List (List Int)) (r:List Int):(yss++[r]).getD yss.length []=r:=by
 simp [List.getD]
theorem OwS.app {yss:List (List Int)} {wr W:World} {lo:Nat} {x:Value} {r:List Int} {a:Option Addr} {c:Nat} (h:OwS yss wr lo wr.heap.size x) (hlo:lo≤wr.heap.size) (g:Old wr W) (o:Own W wr.heap.size (.slice a r.length c) r) (hc:r.length≤c) :
 ∃vs,W.ownsRow lo 22 1 x yss.length vs∧(∀v' w',w'.ownsRow lo 22 1 v' (yss.length+1) (vs++[.slice a r.length c])→W.grownBy w' x.ownBlock→(v'.ownBlock=x.ownBlock∨v'.ownBlock=some W.heap.size)→OwS (yss++[r]) w' lo w'.heap.size v'):=by
 have key:∃vs:List Value,W.ownsRow lo 22 1 x yss.length vs∧vs.length=yss.length∧(∀p,x.ownBlock=some p→p<wr.heap.size)
  ∧(∀j,j<yss.length→∃a c,vs[j]? = some (.slice a (yss.getD j []).length c)∧(yss.getD j []).length≤c∧Own wr lo (.slice a (yss.getD j []).length c) (yss.getD j [])∧(∀b,(Value.slice a (yss.getD j []).length c).ownBlock=some b→x.ownBlock≠some b))
  ∧(∀(i j:Nat) (x y:Value) (b:Nat),i<j→vs[i]? = some x→vs[j]? = some y→x.ownBlock=some b→y.ownBlock=some b→False):=by
  obtain ⟨hh,⟨e,e2⟩ | ⟨p,cap,vs,e,hcap,hl,hhi,ho,hvl,hj,hd⟩⟩:=h
  ·subst e e2
   refine ⟨[],⟨rfl,Or.inl ⟨rfl,rfl⟩⟩,rfl,(fun p hp=>by cases hp),(fun j hj=>by simp at hj),(fun i j x y b hij hx=>by simp at hx)⟩
  ·subst e
   refine ⟨vs,?_,hvl,fun q hq=>?_,fun j hjl=>?_,hd⟩
   ·refine ⟨ho.1,?_⟩
    rcases ho.2 with ⟨hn,_⟩ | ⟨p',cap',cur,e',hb',hgg,rest⟩
    ·cases hn
    ·refine .inr ⟨p',cap',cur,e',hb',?_,rest⟩
     rw [g.block p' (Array.getElem?_eq_some_iff.1 hgg).1]
     exact hgg
   ·simp only [Value.ownBlock,Option.some.injEq] at hq
    omega
   ·obtain ⟨a2,c2,e3,hc2,oj,hb2⟩:=hj j hjl
    refine ⟨a2,c2,e3,hc2,oj.1,fun b hb hx=>hb2 b hb ?_⟩
    simp only [Value.ownBlock,Option.some.injEq] at hx
    exact hx.symm
 obtain ⟨vs,ho,hvl,hp,hj,hd⟩:=key
 refine ⟨vs,ho,fun v' w' ho' gr hv'=>?_⟩
 have hsz:=g.size
 have hsz':=gr.size
 have hrow:∀j,j<yss.length→∃a c,vs[j]? = some (.slice a (yss.getD j []).length c)∧(yss.getD j []).length≤c∧Own w' lo (.slice a (yss.getD j []).length c) (yss.getD j [])∧(∀b,(Value.slice a (yss.getD j []).length c).ownBlock=some b→b<wr.heap.size∧v'.ownBlock≠some b):=fun j hjl=>by
  obtain ⟨a2,c2,e3,hc2,oj,hb2⟩:=hj j hjl
  refine ⟨a2,c2,e3,hc2,Own.by_ (oj.old g) gr (fun q y hx hy hxy=>?_),fun b hb=>⟨(oj.lt b hb).2,fun hx=>?_⟩⟩
  ·subst hxy
   exact hb2 q hx hy
  ·rcases hv' with e | e
   ·exact hb2 b hb (e.symm.trans hx)
   ·rw [e] at hx
    have:=(oj.lt b hb).2
    simp only [Option.some.injEq] at hx
    omega
 have hnew:Own w' lo (.slice a r.length c) r:=Own.low (Own.by_ o gr (fun q y hx hy hxy=>by
  subst hxy
  have h1:=(o.lt q hx).1
  have h2:=hp q hy
  omega)) hlo
 have hnewb:∀b,(Value.slice a r.length c).ownBlock=some b→wr.heap.size≤b∧b<W.heap.size∧v'.ownBlock≠some b:=fun b hb=>by
  obtain ⟨h1,h2⟩:=o.lt b hb
  refine ⟨h1,h2,fun hx=>?_⟩
  rcases hv' with e | e
  ·have:=hp b (e.symm.trans hx)
   omega
  ·rw [e] at hx
   simp only [Option.some.injEq] at hx
   omega
 have ho2:=ho'
 rcases ho'.2 with ⟨_,h0⟩ | ⟨p',cap',cur,e',hb',hgg,hnc,rest⟩
 ·omega
 subst e'
 have hlt':p'<w'.heap.size:=(Array.getElem?_eq_some_iff.1 hgg).1
 refine ⟨Nat.le_refl _,Or.inr ⟨p',cap',vs++[.slice a r.length c],by simp,by simpa using hnc,hb',hlt',by simpa using ho2,by simp [hvl],fun j hjl=>?_,fun i j x y b hij hx hy hbx hby=>?_⟩⟩
 ·simp at hjl
  rcases Nat.lt_or_ge j yss.length with h1 | h1
  ·rw [getD_app1 yss r j h1]
   obtain ⟨a2,c2,e3,hc2,oj,hb2⟩:=hrow j h1
   refine ⟨a2,c2,by rw [List.getElem?_append_left (by omega)];exact e3,hc2,⟨oj,Nat.le_refl _,fun b hb=>(oj.lt b hb).2⟩,fun b hb hx=>(hb2 b hb).2 ?_⟩
   rw [hx]
   rfl
  ·obtain rfl:j=yss.length:=by omega
   rw [getD_app2 yss r]
   refine ⟨a,c,by rw [← hvl];simp,hc,⟨hnew,Nat.le_refl _,fun b hb=>(hnew.lt b hb).2⟩,fun b hb hx=>(hnewb b hb).2.2 ?_⟩
   rw [hx]
   rfl
 ·have hjl:j<vs.length+1:=by
   have:=(List.getElem?_eq_some_iff.1 hy).1
   simpa using this
  rcases Nat.lt_or_ge j vs.length with h1 | h1
  ·rw [List.getElem?_append_left (by omega)] at hx hy
   exact hd i j x y b hij hx hy hbx hby
  ·obtain rfl:j=vs.length:=by omega
   rw [List.getElem?_append_left (by omega)] at hx
   simp at hy
   subst hy
   obtain ⟨a2,c2,e3,hc2,oj,hb2⟩:=hrow i (by omega)
   rw [e3] at hx
   obtain rfl:=Option.some.inj hx
   have h3:=(hb2 b hbx).1
   have h4:=(hnewb b hby).1
   omega
def pairR (f:Int→Int→Int→Int) (p:Int) (xs ys:List Int):List Int:=(List.range xs.length).map fun i=>f p (xs.getD i 0) (ys.getD i 0)
def pairL (f:Int→Int→Int→Int) (ps:List Int) (xss yss:List (List Int)):List (List Int):=(List.range ps.length).map fun k=>pairR f (ps.getD k 0) (xss.getD k []) (yss.getD k [])
theorem pairR_len (f:Int→Int→Int→Int) (p:Int) (xs ys:List Int):(pairR f p xs ys).length=xs.length:=by simp [pairR]
theorem pairR_get (f:Int→Int→Int→Int) (p:Int) (xs ys:List Int) (i:Nat) (h:i<xs.length):(pairR f p xs ys).getD i 0=f p (xs.getD i 0) (ys.getD i 0):=by simp [pairR,List.getD,h]
theorem pairL_len (f:Int→Int→Int→Int) (ps:List Int) (xss yss:List (List Int)):(pairL f ps xss yss).length=ps.length:=by simp [pairL]
theorem pairL_get (f:Int→Int→Int→Int) (ps:List Int) (xss yss:List (List Int)) (k:Nat) (h:k<ps.length):(pairL f ps xss yss).getD k []=pairR f (ps.getD k 0) (xss.getD k []) (yss.getD k []):=by simp [pairL,List.getD,h]
theorem take_succL (xs:List (List Int)) (k:Nat) (h:k<xs.length):xs.take (k+1)=xs.take k++[xs.getD k []]:=by
 rw [List.take_add_one]
 simp [List.getD,h]
def addF (p x y:Int):Int:=(x+y)%p
end Go.Proofs.YtanijpekdnkicaaGreatDoor
namespace Go.Proofs.YtanijpekdnkicaaGreatDoor
open Go.ChangeShapes Go.WideShapes Go.ChangeAt Go.RowKit
set_option linter.unusedVariables false
set_option linter.unusedSimpArgs false
theorem Row.recap {W:World} {a:Option Addr} {n c c':Nat} {xs:List Int} (h:Row W (.slice a n c) xs) (h0:xs≠[]):Row W (.slice a n c') xs:=by
 rcases h with ⟨_,_,e,e'⟩ | ⟨b,o,cap,e,r⟩
 ·exact absurd e' h0
 ·simp only [Value.slice.injEq] at e
  obtain ⟨rfl,rfl,rfl⟩:=e
  exact Or.inr ⟨b,o,c',rfl,r⟩
end Go.Proofs.YtanijpekdnkicaaGreatDoor
