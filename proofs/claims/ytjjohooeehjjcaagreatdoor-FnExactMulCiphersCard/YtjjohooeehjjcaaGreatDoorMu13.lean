/- Proved: what its theorems say. -/
import Derived.Test.YtjjohooeehjjcaaGreatDoorMu03
set_option linter.unusedVariables false
set_option linter.unusedSimpArgs false
namespace Go.Proofs.YtjjohooeehjjcaaGreatDoor
open Go.ChangeShapes Go.WideShapes Go.ChangeAt Go.RowKit
def Qa2 (n:Nat):Code->Option Code
 | .region i ops b=>if i=n then some (.region i ops b) else none
 | .seq a b=>match Qa2 n a with
   | some c=>some c
   | none=>Qa2 n b
 | .block _ c=>Qa2 n c
 | .loop c=>Qa2 n c
 | .cond _ a b=>match Qa2 n a with
   | some c=>some c
   | none=>Qa2 n b
 | _=>none
def Qrc (P:Program) (Q:Exit->Act->World->Prop) (w0:World) (R:World->World->Prop) (n:Nat) (slot:Nat->Nat) (a0:Act) (Qs:Nat->World->Value->Prop) (late:List Nat):Nat->List Oper->Prop
 | _,[]=>True
 | i,o :: os=>(∀a W,(Old w0 W∨(late.contains i=true/\∃W0,Old w0 W0/\R W0 W))->Fram n slot a0 a->(∀e∈o.after.toList,Region.binds .any e=true->Qs e.on W (a.eval (.tmp (slot e.on))))->o.wp P a W (fun a' W'=>∃v,a'=a.put (some (slot i)) v/\Old W W'/\(late.contains i=true->W'=W)/\Qs i W' v) Q)/\Qrc P Q w0 R n slot a0 Qs late (i+1) os
theorem Qez {P:Program} {id:Nat} {l:List Oper} {Q:Exit→Act→World→Prop} {a0:Act} {w0:World} (n:Nat) {st:Oper} (hn:l.length=n+1) (hs:l[n]? = some st) (hm:P.follows .mixedOrders=true)
  (hord:(List.range l.toArray.size).all (fun i=>((l.toArray[i]?).map (fun o=>o.after.all fun e=> !Region.binds .any e||decide (e.on<i))).getD true)=true)
  (hg:l.all (fun o=>o.guard.isNone)=true) (late:List Nat)
  (hst:(List.range n).all (fun i=>late.contains i||(Qh2 l.toArray (n+1) (n+1) (Qet l.toArray n)).contains i)=true)
  (slot:Nat->Nat) (hslot:∀i,i<n->slot i<a0.tmps.size) (hinj:∀i j,i<n->j<n->slot i=slot j->i=j)
  (Qs:Nat->World->Value->Prop) (hQ:∀i W W' v,Qs i W v->Old W W'->Qs i W' v) (R:World->World->Prop) (hR:∀i W W' v,Qs i W v->Old w0 W->R W W'->Qs i W' v)
  (hstep:Qrc P Q w0 R n slot a0 Qs late 0 (l.take n))
  (hsto:∀a W,Old w0 W->Fram n slot a0 a->(∀i,i<n->late.contains i=false->Qs i W (a.eval (.tmp (slot i))))->st.wp P a W (fun a' W'=>a'=a/\R W W') Q)
  (hend:∀a W0 W,Old w0 W0->R W0 W->Fram n slot a0 a->(∀i,i<n->Qs i W (a.eval (.tmp (slot i))))->Q .normal a W) :
  (Code.region id l.toArray true).wp P Q a0 w0:=by
 have hsz:l.toArray.size=l.length:=by simp
 have hon:∀i o,l.toArray[i]? = some o->∀e∈o.after.toList,Region.binds .any e=true->e.on<i:=by
  intro i o ho e he hb;have hi:=(Array.getElem?_eq_some_iff.1 ho).1;have h1:=List.all_eq_true.1 hord i (by simpa using hi);rw [ho] at h1;simp only [Option.map_some,Option.getD_some] at h1;rw [Array.all_eq_true'] at h1;have h2:=h1 e (by simpa using he);rw [hb] at h2
  simpa using h2
 let I:(Nat->Bool)->Act->World->Prop:=fun d a W=>Done l.toArray d/\
  Fram n slot a0 a/\(∀i,i<n->d i=true->Qs i W (a.eval (.tmp (slot i))))/\(d n=false->Old w0 W)/\(d n=true->(∃W0,Old w0 W0/\R W0 W)/\∀i,i<n->late.contains i=false->d i=true)
 refine Qb4 hm I hord ⟨(fun i h=>by cases h),⟨rfl,rfl,fun _ _=>rfl⟩,(fun i _ h=>by cases h),(fun _=>Below.drew (Old.refl w0)),(fun h=>by cases h)⟩ ?_ ?_
 ·intro i o ho d a W hI hdi hd;have hgn:=List.all_eq_true.1 hg o (List.mem_of_getElem? (by simpa using ho))
  have hw:Region.wanted o (yielded l.toArray a.tmps)=true:=by
   cases h:o.guard with
   | none=>simp [Region.wanted,h]
   | some g=>rw [h] at hgn;cases hgn
  rw [if_pos hw]
  have hi:i<l.length:=by
   have:=(Array.getElem?_eq_some_iff.1 ho).1;omega
  obtain ⟨hC,hF,hq,hO,hT⟩:=hI;have hC':=hC.upd ho hd
  have hclos:∀k,∀j∈Qh2 l.toArray (n+1) (n+1) (Qet l.toArray k),k=i->d j=true:=fun k j hj hk=>by
   subst hk
   exact Qch hC (n+1) _ (fun s hs=>by
    obtain ⟨e,e1,e2,e3⟩:=(Qbx ho s).1 hs;rw [<- e3];exact hd e e1 e2) j hj
  rcases Nat.lt_trichotomy i n with h1 | h1 | h1
  ·have hold:late.contains i=false→d n=false:=fun hl=>by
    cases h:d n with
    | false=>rfl
    | true=>
      have:=(hT h).2 i h1 hl;rw [this] at hdi
      cases hdi
   have key:∀(m:List Oper) (k:Nat),Qrc P Q w0 R n slot a0 Qs late k m->∀(j:Nat) (o:Oper),m[j]? = some o->∀(a:Act) (W:World),(Old w0 W∨(late.contains (k+j)=true/\∃W0,Old w0 W0/\R W0 W))->Fram n slot a0 a->(∀e∈o.after.toList,Region.binds .any e=true->Qs e.on W (a.eval (.tmp (slot e.on))))->o.wp P a W (fun a' W'=>∃v,a'=a.put (some (slot (k+j))) v/\Old W W'/\(late.contains (k+j)=true->W'=W)/\Qs (k+j) W' v) Q:=by
    intro m
    induction m with
    | nil=>intro k _ j o h;simp at h
    | cons x m ih=>
      intro k hs j o hj
      cases j with
      | zero=>
        simp at hj;subst hj;exact hs.1
      | succ j=>
        have:=ih (k+1) hs.2 j o (by simpa using hj);rw [show k+1+j=k+(j+1) by omega] at this;exact this
   have hst':=key (l.take n) 0 hstep i o (by rw [List.getElem?_take,if_pos h1];simpa using ho) a W (by
    rw [Nat.zero_add]
    cases hl:late.contains i with
    | false=>exact .inl (hO (hold hl))
    | true=>
      cases h:d n with
      | false=>exact .inl (hO h)
      | true=>exact .inr ⟨rfl,(hT h).1⟩) hF (fun e he hb=>hq e.on (by have:=hon i o ho e he hb;omega) (hd e he hb))
   rw [Nat.zero_add] at hst';refine Oper.wp_mono ?_ hst'
   rintro a' W' ⟨v,rfl,g',hwl,hv⟩;refine ⟨hC',⟨by simp [Act.put,hF.size],by simp [Act.put,hF.defers],fun s hs=>by rw [Qam _ _ _ _ (hs i h1)];exact hF.same s hs⟩,(fun j hj hdj=>?_),(fun h=>?_),(fun h=>?_)⟩
   ·by_cases hji:j=i
    ·subst hji;rw [eval_put_same _ _ _ (by rw [hF.size];exact hslot j h1)];exact hv
    ·rw [Qam _ _ _ _ (fun e=>hji (hinj i j h1 hj e).symm)];rw [Qaf d hji] at hdj;exact hQ j W W' _ (hq j hj hdj) g'
   ·rw [Qaf d (by omega)] at h;exact Old.trans (hO h) g'
   ·rw [Qaf d (by omega)] at h
    cases hl:late.contains i with
    | false=>rw [hold hl] at h;cases h
    | true=>
      rw [hwl hl];refine ⟨(hT h).1,fun j hj hlj=>?_⟩
      by_cases hji:j=i
      ·subst hji;exact upd_same d j
      ·rw [Qaf d hji];exact (hT h).2 j hj hlj
  ·subst h1
   have hos:o=st:=by
    have:l[i]? = some o:=by simpa using ho
    rw [hs] at this;exact (Option.some.inj this).symm
   subst hos
   have hpre:∀j,j<i->late.contains j=false->d j=true:=fun j hj hl=>by
    have h2:=List.all_eq_true.1 hst j (by simpa using hj);rw [hl,Bool.false_or] at h2;exact hclos i j (by simpa using h2) rfl
   refine Oper.wp_mono ?_ (hsto a W (hO hdi) hF (fun j hj hl=>hq j hj (hpre j hj hl)))
   rintro a' W' ⟨rfl,ht⟩;refine ⟨hC',hF,(fun j hj hdj=>?_),(fun h=>by rw [upd_same] at h;cases h),(fun _=>⟨⟨W,hO hdi,ht⟩,fun j hj hl=>?_⟩)⟩
   ·rw [Qaf d (by omega)] at hdj;exact hR j W W' _ (hq j hj hdj) (hO hdi) ht
   ·rw [Qaf d (by omega)];exact hpre j hj hl
  ·omega
 ·intro d a W hd hI;obtain ⟨_,hF,hq,_,hT⟩:=hI;obtain ⟨⟨W0,g0,r0⟩,_⟩:=hT (hd n (by omega));exact hend a W0 W g0 r0 hF (fun i hi=>hq i hi (hd i (by omega)))
end Go.Proofs.YtjjohooeehjjcaaGreatDoor
