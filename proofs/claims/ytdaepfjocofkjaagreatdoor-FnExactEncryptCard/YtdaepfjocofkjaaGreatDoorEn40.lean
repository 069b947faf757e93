/- Proved: what its theorems say. -/
import Derived.Test.YtdaepfjocofkjaaGreatDoorEn17
import Derived.Test.YtdaepfjocofkjaaGreatDoorEn11
import Derived.Test.YtdaepfjocofkjaaGreatDoorEn12
import Derived.Maps.AppendAt
set_option linter.unusedVariables false
set_option linter.unusedSimpArgs false
set_option maxHeartbeats 8000000
set_option maxRecDepth 100000
namespace Go.Proofs.YtdaepfjocofkjaaGreatDoor
open Go.ChangeShapes Go.WideShapes Go.ChangeAt Go.RowKit
theorem Qwo {P:Program} {a:Act} {W W':World} {K:Act->World->Prop} {Q:Exit->Act->World->Prop} {o:Oper} (ρ:Operand->Value) (hρ:a.eval=ρ) (v:Value) (hr:(execOp ρ o).run P W=.ok (.value v) W') (hK:K (a.put o.dst v) W'):o.wp P a W K Q:=by
 unfold Oper.wp;rw [hρ,hr];exact hK
end Go.Proofs.YtdaepfjocofkjaaGreatDoor
namespace Go.Proofs.YtdaepfjocofkjaaGreatDoor
open Go.ChangeShapes Go.WideShapes Go.ChangeAt Go.RowKit
open M1
open M2
def Qtx (P:Program) (Q:Exit->Act->World->Prop) (w0:World) (R:World->World->Prop) (n:Nat) (slot:Nat->Nat) (a0:Act) (Qs:Nat->World->Value->Prop) (late:List Nat):Nat->List Oper->Prop
 | _,[]=>True
 | i,o :: os=>(∀a W,(Old w0 W∨(late.contains i=true/\∃W0,Old w0 W0/\R W0 W))->Fram n slot a0 a->(∀e∈o.after.toList,Region.binds .any e=true->Qs e.on W (a.eval (.tmp (slot e.on))))->o.wp P a W (fun a' W'=>∃v,a'=a.put (some (slot i)) v/\Old W W'/\(late.contains i=true->W'=W)/\Qs i W' v) Q)/\Qtx P Q w0 R n slot a0 Qs late (i+1) os
theorem Qjo {P:Program} {id:Nat} {l:List Oper} {Q:Exit->Act->World->Prop} {a0:Act} {w0:World} (n:Nat) {st:Oper} (hn:n+1<l.length) (hs:l[n]? = some st) (hm:P.follows .mixedOrders=true)
 (hord:(List.range l.toArray.size).all (fun i=>((l.toArray[i]?).map (fun o=>o.after.all fun e=> !Region.binds .any e||decide (e.on<i))).getD true)=true)
 (hg:l.all (fun o=>o.guard.isNone)=true) (late:List Nat)
 (hst:(List.range n).all (fun i=>late.contains i||(Qi7 l.toArray (n+1) (n+1) (Qeq l.toArray n)).contains i)=true)
 (hall:(List.range (n+1)).all (fun i=>(Qi7 l.toArray (n+1) (n+1) (Qeq l.toArray (n+1))).contains i)=true)
 (hch:(List.range l.length).all (fun k=>decide (k<=n+1)||(Qeq l.toArray k).contains (k - 1))=true)
 (slot:Nat->Nat) (hslot:∀i,i<n->slot i<a0.tmps.size) (hinj:∀i j,i<n->j<n->slot i=slot j->i=j)
 (Qs:Nat->World->Value->Prop) (hQ:∀i W W' v,Qs i W v->Old W W'->Qs i W' v) (R:World->World->Prop) (hR:∀i W W' v,Qs i W v->Old w0 W->R W W'->Qs i W' v)
 (hstep:Qtx P Q w0 R n slot a0 Qs late 0 (l.take n))
 (hsto:∀a W,Old w0 W->Fram n slot a0 a->(∀i,i<n->late.contains i=false->Qs i W (a.eval (.tmp (slot i))))->st.wp P a W (fun a' W'=>a'=a/\R W W') Q)
 (hturn:∀a W0 W,Old w0 W0->R W0 W->Fram n slot a0 a->(∀i,i<n->Qs i W (a.eval (.tmp (slot i))))->Qps P Q (l.drop (n+1)) a W) :
 (Code.region id l.toArray true).wp P Q a0 w0:=by
 have hsz:l.toArray.size=l.length:=by simp
 have hon:∀i o,l.toArray[i]? = some o->∀e∈o.after.toList,Region.binds .any e=true->e.on<i:=by
  intro i o ho e he hb;have hi:=(Array.getElem?_eq_some_iff.1 ho).1;have h1:=List.all_eq_true.1 hord i (by simpa using hi);rw [ho] at h1;simp only [Option.map_some,Option.getD_some] at h1;rw [Array.all_eq_true'] at h1;have h2:=h1 e (by simpa using he);rw [hb] at h2
  simpa using h2
 have hdrop:∀k o,l.toArray[k]? = some o->l.drop k=o :: l.drop (k+1):=fun k o ho=>by
  have h1:k<l.length:=by have:=(Array.getElem?_eq_some_iff.1 ho).1;omega
  rw [List.drop_eq_getElem_cons h1];have:l[k]? = some o:=by simpa using ho
  rw [List.getElem?_eq_getElem h1] at this;rw [Option.some.inj this]
 let I:(Nat->Bool)->Act->World->Prop:=fun d a W=>Done l.toArray d/\
  (d (n+1)=false->(∀k,n+1<k->d k=false)/\Fram n slot a0 a/\(∀i,i<n->d i=true->Qs i W (a.eval (.tmp (slot i))))/\(d n=false->Old w0 W)/\(d n=true->(∃W0,Old w0 W0/\R W0 W)/\∀i,i<n->late.contains i=false->d i=true))/\
  (d (n+1)=true->∃k,n+1<k/\k<=l.length/\(∀i,i<k->d i=true)/\(∀i,k<=i->d i=false)/\Qps P Q (l.drop k) a W)
 refine Qcb hm I hord ⟨(fun i h=>by cases h),(fun _=>⟨(fun k _=>rfl),⟨rfl,rfl,fun _ _=>rfl⟩,(fun i _ h=>by cases h),(fun _=>Below.drew (Old.refl w0)),(fun h=>by cases h)⟩),(fun h=>by cases h)⟩ ?_ ?_
 ·intro i o ho d a W hI hdi hd;have hgn:=List.all_eq_true.1 hg o (List.mem_of_getElem? (by simpa using ho))
  have hw:Region.wanted o (yielded l.toArray a.tmps)=true:=by
   cases h:o.guard with
   | none=>simp [Region.wanted,h]
   | some g=>rw [h] at hgn;cases hgn
  rw [if_pos hw]
  have hi:i<l.length:=by
   have:=(Array.getElem?_eq_some_iff.1 ho).1;omega
  obtain ⟨hC,hA,hB⟩:=hI;have hC':=hC.upd ho hd
  have hclos:∀k,∀j∈Qi7 l.toArray (n+1) (n+1) (Qeq l.toArray k),k=i->d j=true:=fun k j hj hk=>by
   subst hk
   exact Qch hC (n+1) _ (fun s hs=>by
    obtain ⟨e,e1,e2,e3⟩:=(Qb2 ho s).1 hs;rw [<- e3];exact hd e e1 e2) j hj
  have hlow:i<=n->d (n+1)=false:=fun h1=>by
   cases h:d (n+1) with
   | false=>rfl
   | true=>
     obtain ⟨k,k1,k2,k3,k4,_⟩:=hB h;have:=k3 i (by omega);rw [this] at hdi
     cases hdi
  rcases Nat.lt_trichotomy i n with h1 | h1 | h1
  ·have hdf:=hlow (by omega);obtain ⟨hf0,hF,hq,hO,hT⟩:=hA hdf
   have hold:late.contains i=false->d n=false:=fun hl=>by
    cases h:d n with
    | false=>rfl
    | true=>
      have:=(hT h).2 i h1 hl;rw [this] at hdi
      cases hdi
   have key:∀(m:List Oper) (k:Nat),Qtx P Q w0 R n slot a0 Qs late k m->∀(j:Nat) (o:Oper),m[j]? = some o->∀(a:Act) (W:World),(Old w0 W∨(late.contains (k+j)=true/\∃W0,Old w0 W0/\R W0 W))->Fram n slot a0 a->(∀e∈o.after.toList,Region.binds .any e=true->Qs e.on W (a.eval (.tmp (slot e.on))))->o.wp P a W (fun a' W'=>∃v,a'=a.put (some (slot (k+j))) v/\Old W W'/\(late.contains (k+j)=true->W'=W)/\Qs (k+j) W' v) Q:=by
    intro m
    induction m with
    | nil=>intro k _ j o h;simp at h
    | cons x m ih=>
      intro k hs j o hj
      cases j with
      | zero=>
        simp at hj;subst hj;exact hs.1
      | succ j=>
        have:=ih (k+1) hs.2 j o (by simpa using hj);rw [show k+1+j=k+(j+1) by omega] at this;exact this
   have hst':=key (l.take n) 0 hstep i o (by rw [List.getElem?_take,if_pos h1];simpa using ho) a W (by
    rw [Nat.zero_add]
    cases hl:late.contains i with
    | false=>exact .inl (hO (hold hl))
    | true=>
      cases h:d n with
      | false=>exact .inl (hO h)
      | true=>exact .inr ⟨rfl,(hT h).1⟩) hF (fun e he hb=>hq e.on (by have:=hon i o ho e he hb;omega) (hd e he hb))
   rw [Nat.zero_add] at hst';refine Oper.wp_mono ?_ hst'
   rintro a' W' ⟨v,rfl,g',hwl,hv⟩;refine ⟨hC',(fun _=>⟨(fun k hk=>by rw [Qac d (by omega)];exact hf0 k hk),⟨by simp [Act.put,hF.size],by simp [Act.put,hF.defers],fun s hs=>by rw [Qao _ _ _ _ (hs i h1)];exact hF.same s hs⟩,(fun j hj hdj=>?_),(fun h=>?_),(fun h=>?_)⟩),(fun h=>by rw [Qac d (by omega),hdf] at h;cases h)⟩
   ·by_cases hji:j=i
    ·subst hji;rw [eval_put_same _ _ _ (by rw [hF.size];exact hslot j h1)];exact hv
    ·rw [Qao _ _ _ _ (fun e=>hji (hinj i j h1 hj e).symm)];rw [Qac d hji] at hdj;exact hQ j W W' _ (hq j hj hdj) g'
   ·rw [Qac d (by omega)] at h;exact Old.trans (hO h) g'
   ·rw [Qac d (by omega)] at h
    cases hl:late.contains i with
    | false=>rw [hold hl] at h;cases h
    | true=>
      rw [hwl hl];refine ⟨(hT h).1,fun j hj hlj=>?_⟩
      by_cases hji:j=i
      ·subst hji;exact upd_same d j
      ·rw [Qac d hji];exact (hT h).2 j hj hlj
  ·subst h1
   have hos:o=st:=by
    have:l[i]? = some o:=by simpa using ho
    rw [hs] at this;exact (Option.some.inj this).symm
   subst hos;have hdf:=hlow (by omega);obtain ⟨hf0,hF,hq,hO,hT⟩:=hA hdf
   have hpre:∀j,j<i->late.contains j=false->d j=true:=fun j hj hl=>by
    have h2:=List.all_eq_true.1 hst j (by simpa using hj);rw [hl,Bool.false_or] at h2;exact hclos i j (by simpa using h2) rfl
   refine Oper.wp_mono ?_ (hsto a W (hO hdi) hF (fun j hj hl=>hq j hj (hpre j hj hl)))
   rintro a' W' ⟨rfl,ht⟩;refine ⟨hC',(fun _=>⟨(fun k hk=>by rw [Qac d (by omega)];exact hf0 k hk),hF,(fun j hj hdj=>?_),(fun h=>by rw [upd_same] at h;cases h),(fun _=>⟨⟨W,hO hdi,ht⟩,fun j hj hl=>?_⟩)⟩),(fun h=>by rw [Qac d (by omega),hdf] at h;cases h)⟩
   ·rw [Qac d (by omega)] at hdj;exact hR j W W' _ (hq j hj hdj) (hO hdi) ht
   ·rw [Qac d (by omega)];exact hpre j hj hl
  ·rcases Nat.eq_or_lt_of_le (show n+1≤i from h1) with h2 | h2
   ·subst h2;obtain ⟨hf0,hF,hq,hO,hT⟩:=hA hdi
    have hpre:=fun j hj=>by
     have h2:=List.all_eq_true.1 hall j (by simpa using hj);exact hclos (n+1) j (by simpa using h2) rfl
    obtain ⟨⟨W0,g0,r0⟩,_⟩:=hT (hpre n (by omega));have ht:=hturn a W0 W g0 r0 hF (fun j hj=>hq j hj (hpre j (by omega)));rw [hdrop (n+1) o ho] at ht;refine Oper.wp_mono ?_ ht
    intro a' W' hv;refine ⟨hC',(fun h=>by rw [upd_same] at h;cases h),(fun _=>⟨n+1+1,by omega,by omega,(fun j hj=>?_),(fun j hj=>?_),hv⟩)⟩
    ·by_cases hji:j=n+1
     ·subst hji;exact upd_same d _
     ·rw [Qac d hji];exact hpre j (by omega)
    ·rw [Qac d (by omega)];exact hf0 j (by omega)
   ·have hprev:d (i - 1)=true:=by
     have h2:=List.all_eq_true.1 hch i (by simpa using hi);rw [Bool.or_eq_true] at h2;rcases h2 with h2 | h2
     ·have:=of_decide_eq_true h2;omega
     ·obtain ⟨e,e1,e2,e3⟩:=(Qb2 ho (i - 1)).1 (by simpa using h2);rw [<- e3];exact hd e e1 e2
    have hdn:d (n+1)=true:=by
     cases hdn:d (n+1) with
     | true=>rfl
     | false=>
       rcases Nat.lt_or_ge (n+1) (i - 1) with h3 | h3
       ·have:=(hA hdn).1 (i - 1) h3;rw [this] at hprev
        cases hprev
       ·have:i - 1=n+1:=by omega
        rw [this,hdn] at hprev
        cases hprev
    obtain ⟨k,k1,k2,k3,k4,k5⟩:=hB hdn
    have hik:i=k:=by
     rcases Nat.lt_trichotomy i k with h3 | h3 | h3
     ·have:=k3 i h3;rw [this] at hdi
      cases hdi
     ·exact h3
     ·have:=k4 (i - 1) (by omega);rw [this] at hprev
      cases hprev
    subst hik;rw [hdrop i o ho] at k5;refine Oper.wp_mono ?_ k5
    intro a' W' hv;refine ⟨hC',(fun h=>by rw [Qac d (by omega),hdn] at h;cases h),(fun _=>⟨i+1,by omega,by omega,(fun j hj=>?_),(fun j hj=>?_),hv⟩)⟩
    ·by_cases hji:j=i
     ·subst hji;exact upd_same d j
     ·rw [Qac d hji];exact k3 j (by omega)
    ·rw [Qac d (by omega)];exact k4 j (by omega)
 ·intro d a W hd hI;obtain ⟨_,_,hB⟩:=hI;obtain ⟨k,k1,k2,k3,k4,k5⟩:=hB (hd (n+1) (by omega))
  have hk:k=l.length:=by
   rcases Nat.lt_or_ge k l.length with h | h
   ·have h1:=k4 k (Nat.le_refl _);rw [hd k (by omega)] at h1
    cases h1
   ·omega
  rw [hk,List.drop_length] at k5;exact k5
theorem Qrm {d:Option Tmp} {ty:TypeId} {pos:String} {af:Array Edge} {a:Act} {W:World} {K:Act->World->Prop} {Q:Exit->Act->World->Prop} {p x:Operand} {g:Nat} {u:Option Addr} {n c:Nat} {z0:Value} (ha:a.eval p=.pointer (some ⟨g,0,none⟩)) (hv:a.eval x=.agg #[.slice u n c])
 (c0:W.cell? ⟨g,0,none⟩=some z0) (f0:W.frozen? ⟨g,0,none⟩=false)
 (hK:K (a.put d undef) (W.setCell ⟨g,0,none⟩ (.slice u n c))):Oper.wp Tryz.prog ⟨d,.store 32 p x,ty,pos,af,none⟩ a W K Q:=by
 obtain ⟨ρ,hρ⟩:∃ρ,a.eval=ρ:=⟨_,rfl⟩
 rw [hρ] at ha hv;refine Qr9 ρ hρ ?_ hK
 clear hρ hK
 go_simp
def Qg1 (i:Nat):Nat:=[93,94,95,96,97,98,99,100].getD i 0
theorem Qty:∀i,i<8->Qg1 i<101:=by decide
theorem Qj8:∀i,i<8->∀j,j<8->Qg1 i=Qg1 j->i=j:=by decide
theorem Qtz:∀s,s<22->∀i,i<8->Qg1 i≠s:=by decide
def qEt (q rb:Nat) (k:Int) (x0 x1:Option Addr) (l0 m0 l1 m1:Nat) (X:World->Value->Prop) (i:Nat) (W:World) (x:Value):Prop:=
 match i with
 | 0=>x=.slice x0 l0 m0
 | 1=>x=.slice x1 l1 m1
 | 2=>∃g,x=.slice (some ⟨g,0,none⟩) 2 2/\X W (.slice (some ⟨g,0,none⟩) 2 2)
 | 3=>∃g,x=.agg #[.slice (some ⟨g,0,none⟩) 2 2]/\X W (.slice (some ⟨g,0,none⟩) 2 2)
 | 4=>x=.pointer (some ⟨q,0,none⟩)
 | 5=>x=.pointer (some ⟨q,0,none⟩)
 | 6=>x=.pointer (some ⟨q,1,none⟩)
 | 7=>x=.int .i64 k
 | _=>True
theorem Q0r (q rb:Nat) (k:Int) (x0 x1:Option Addr) (l0 m0 l1 m1:Nat) (X:World->Value->Prop) (hX:∀W W' v,X W v->Old W W'->X W' v) (i:Nat) (W W':World) (x:Value) (h:qEt q rb k x0 x1 l0 m0 l1 m1 X i W x) (qo:Old W W'):qEt q rb k x0 x1 l0 m0 l1 m1 X i W' x:=by
 unfold qEt at h ⊢;split at h
 case h_3=>
  obtain ⟨g,e,p⟩:=h;exact ⟨g,e,hX _ _ _ p qo⟩
 case h_4=>
  obtain ⟨g,e,p⟩:=h;exact ⟨g,e,hX _ _ _ p qo⟩
 all_goals first | exact h | trivial
def rEt (rb:Nat) (X:World->Value->Prop) (W W1:World):Prop:=∃g,X W (.slice (some ⟨g,0,none⟩) 2 2)/\W1=W.setCell ⟨rb,0,none⟩ (.slice (some ⟨g,0,none⟩) 2 2)
theorem Q2m (w0:World) (q rb:Nat) (k:Int) (x0 x1:Option Addr) (l0 m0 l1 m1:Nat) (X:World->Value->Prop) (hX:∀W W' v,X W v->Old W W'->X W' v) (hXs:∀W v g,Old w0 W->X W v->X (W.setCell ⟨rb,0,none⟩ (.slice (some ⟨g,0,none⟩) 2 2)) v) (hq:q<w0.heap.size) (hqr:q≠rb)
 (kq:w0.cell? ⟨q,1,none⟩=some (.int .i64 k)) (bR:w0.heap[rb]? = some (.cells #[.slice none 0 0] 32 (0,0)))
 (HL:∀W,Old w0 W->X (W.alloc (.cells #[.slice x0 l0 m0,.slice x1 l1 m1] 25)) (.slice (some ⟨W.heap.size,0,none⟩) 2 2))
 (Q:Exit->Act->World->Prop) (a0':Act) (hsz:a0'.tmps.size=101)
 (ha10:a0'.eval (.tmp 10)=.pointer (some ⟨rb,0,none⟩)) (ha13:a0'.eval (.tmp 13)=.pointer (some ⟨q,0,none⟩)) (ha19:a0'.eval (.tmp 19)=.slice x0 l0 m0) (ha20:a0'.eval (.tmp 20)=.slice x1 l1 m1)
 (HK:Hid (∀(us:Nat->Value) W g,Old w0 W->X W (.slice (some ⟨g,0,none⟩) 2 2)->us 7=.int .i64 k->Q .normal (((Qah a0' ((List.range 8).map fun i=>(Qg1 i,us i))).put (some 11) (us 7)).put (some 12) (.bool true)) (W.setCell ⟨rb,0,none⟩ (.slice (some ⟨g,0,none⟩) 2 2)))) :
 Code.wp Tryz.prog ((Tryz.f6.body.bind (Qa0 13)).getD .skip) Q a0' w0:=by
 conv=>arg 2;whnf
 have un:=Qtz;have pr:∀W,Old w0 W->W.heap[rb]? = some (.cells #[.slice none 0 0] 32 (0,0)):=fun W g=>(g.block rb (lt_of_some bR)).trans bR
 have pk:∀W,(Old w0 W∨∃W0,Old w0 W0/\rEt rb X W0 W)->W.cell? ⟨q,1,none⟩=some (.int .i64 k):=fun W g=>by
  rcases g with g | ⟨W0,g,gg,_,rfl⟩
  ·exact (g.cell (p:=⟨q,1,none⟩) hq).trans kq
  ·exact (World.cell?_of_block (heap_setCell_other _ ⟨rb,0,none⟩ q _ hqr)).trans ((g.cell (p:=⟨q,1,none⟩) hq).trans kq)
 refine Qjo 8 (by decide) rfl (by kernel_rfl) (by kernel_rfl) (by kernel_rfl) [4,5,6,7] (by kernel_rfl) (by kernel_rfl) (by kernel_rfl) Qg1 (fun i hi=>by rw [hsz];exact Qty i hi) (fun i j hi hj=>Qj8 i hi j hj) (qEt q rb k x0 x1 l0 m0 l1 m1 X) (Q0r q rb k x0 x1 l0 m0 l1 m1 X hX) (rEt rb X) (fun i W W' v h g r=>?_) ?_ ?_ ?_
 ·obtain ⟨gg,_,rfl⟩:=r;unfold qEt at h ⊢;split at h
  case h_3=>
   obtain ⟨g',e,p⟩:=h;exact ⟨g',e,hXs _ _ _ g p⟩
  case h_4=>
   obtain ⟨g',e,p⟩:=h;exact ⟨g',e,hXs _ _ _ g p⟩
  all_goals first | exact h | trivial
 ·refine ⟨?_,?_,?_,?_,?_,?_,?_,?_,trivial⟩
  ·intro a W g hF hd;refine Qbo ?_
   exact ⟨_,rfl,Old.refl _,(fun h=>absurd h (by decide)),(hF.same 19 (un 19 (by decide))).trans ha19⟩
  ·intro a W g hF hd;refine Qbo ?_
   exact ⟨_,rfl,Old.refl _,(fun h=>absurd h (by decide)),(hF.same 20 (un 20 (by decide))).trans ha20⟩
  ·intro a W g hF hd;have g:=g.elim id (fun h=>absurd h.1 (by decide));have e93:a.eval (.tmp 93)=.slice x0 l0 m0:=hd ⟨0,.data⟩ (by simp) rfl;have e94:a.eval (.tmp 94)=.slice x1 l1 m1:=hd ⟨1,.data⟩ (by simp) rfl;obtain ⟨ρ,hρ⟩:∃ρ,a.eval=ρ:=⟨_,rfl⟩
   rw [hρ] at e93 e94;refine Qwo (W':=W.alloc (.cells #[.slice x0 l0 m0,.slice x1 l1 m1] 25)) ρ hρ (.slice (some ⟨W.heap.size,0,none⟩) 2 2) ?_ ⟨_,rfl,(Old.refl W).alloc _,(fun h=>absurd h (by decide)),W.heap.size,rfl,HL W g⟩
   clear g hF hd hρ ha10 ha13 ha19 ha20 HK un bR pr hX hXs HL pk kq hqr hq
   go_simp
  ·intro a W g hF hd;obtain ⟨gg,e95,px⟩:∃gg,a.eval (.tmp 95)=.slice (some ⟨gg,0,none⟩) 2 2∧X W (.slice (some ⟨gg,0,none⟩) 2 2):=hd ⟨2,.data⟩ (by simp) rfl
   obtain ⟨ρ,hρ⟩:∃ρ,a.eval=ρ:=⟨_,rfl⟩
   rw [hρ] at e95;refine Qai ρ hρ (.agg #[.slice (some ⟨gg,0,none⟩) 2 2]) ?_ ⟨_,rfl,Old.refl _,(fun h=>absurd h (by decide)),gg,rfl,px⟩
   clear px;clear g hF hd hρ ha10 ha13 ha19 ha20 HK un bR pr hX hXs HL pk kq hqr hq
   go_simp
  ·intro a W g hF hd;refine Qbo ?_
   exact ⟨_,rfl,Old.refl _,(fun _=>rfl),(hF.same 13 (un 13 (by decide))).trans ha13⟩
  ·intro a W g hF hd;have e97:a.eval (.tmp 97)=.pointer (some ⟨q,0,none⟩):=hd ⟨4,.data⟩ (by simp) rfl;obtain ⟨ρ,hρ⟩:∃ρ,a.eval=ρ:=⟨_,rfl⟩
   rw [hρ] at e97;refine Qai ρ hρ (.pointer (some ⟨q,0,none⟩)) ?_ ⟨_,rfl,Old.refl _,(fun _=>rfl),rfl⟩
   clear g hF hd hρ ha10 ha13 ha19 ha20 HK un bR pr hX hXs HL pk kq hqr hq
   go_simp
  ·intro a W g hF hd;have e98:a.eval (.tmp 98)=.pointer (some ⟨q,0,none⟩):=hd ⟨5,.data⟩ (by simp) rfl;obtain ⟨ρ,hρ⟩:∃ρ,a.eval=ρ:=⟨_,rfl⟩
   rw [hρ] at e98;refine Qai ρ hρ (.pointer (some ⟨q,1,none⟩)) ?_ ⟨_,rfl,Old.refl _,(fun _=>rfl),rfl⟩
   clear g hF hd hρ ha10 ha13 ha19 ha20 HK un bR pr hX hXs HL pk kq hqr hq
   go_simp
  ·intro a W g hF hd;have e99:a.eval (.tmp 99)=.pointer (some ⟨q,1,none⟩):=hd ⟨6,.data⟩ (by simp) rfl;have kc:=pk W (g.imp id And.right);obtain ⟨ρ,hρ⟩:∃ρ,a.eval=ρ:=⟨_,rfl⟩
   rw [hρ] at e99;refine Qai ρ hρ (.int .i64 k) ?_ ⟨_,rfl,Old.refl _,(fun _=>rfl),rfl⟩
   clear g hF hd hρ ha10 ha13 ha19 ha20 HK un bR pr hX hXs HL pk kq hqr hq
   go_simp
 ·intro a W g hF hq8;obtain ⟨gg,e96,px⟩:∃gg,a.eval (.tmp 96)=.agg #[.slice (some ⟨gg,0,none⟩) 2 2]∧X W (.slice (some ⟨gg,0,none⟩) 2 2):=hq8 3 (by decide) (by decide)
  have e10:=(hF.same 10 (un 10 (by decide))).trans ha10;have hc5:W.cell? ⟨rb,0,none⟩=some (.slice none 0 0):=by rw [cell_of_row _ _ _ _ _ _ (pr W g)];rfl
  have hf5:W.frozen? ⟨rb,0,none⟩=false:=frozen_of_row _ _ _ _ _ (pr W g)
  exact Qrm e10 e96 hc5 hf5 ⟨rfl,gg,px,rfl⟩
 ·intro a W0 W g r hF hq8;obtain ⟨gg,px,rfl⟩:=r;have e100:a.eval (.tmp 100)=.int .i64 k:=hq8 7 (by decide);have hp:=Qda hF (fun i j hi hj=>Qj8 i hi j hj);have hk2:=HK.out (fun i=>a.eval (.tmp (Qg1 i))) W0 gg g px e100;rw [← hp] at hk2
  show Oper.wp _ _ _ _ _ _
  refine Qbi ?_
  show Qps _ _ _ _ _
  refine Qbi ?_
  exact hk2
end Go.Proofs.YtdaepfjocofkjaaGreatDoor
