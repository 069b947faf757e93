/- Proved: what its theorems say. -/
import Derived.Test.YthcidnnkakppcaaGreatDoorDe00
set_option linter.unusedVariables false
set_option linter.unusedSimpArgs false
namespace Go.Proofs.YthcidnnkakppcaaGreatDoor
open Go
theorem count_set (l:Array Bool) (i:Nat) (h:l.getD i true=false):(l.setIfInBounds i true).toList.count false+1=l.toList.count false:=by
 have hi:i<l.size:=by
  rcases Nat.lt_or_ge i l.size with h1 | h1
  ·exact h1
  ·simp [Array.getD,Nat.not_lt.2 h1] at h
 have he:l[i]=false:=by simpa [Array.getD,hi] using h
 rw [Array.toList_setIfInBounds,List.count_set (by simpa using hi)];have h0:l.toList[i]'(by simpa using hi)=false:=by simpa using he
 have hp:0<l.toList.count false:=List.count_pos_iff.2 (by rw [<- h0];exact List.getElem_mem _);rw [h0];have e1:(false==false)=true:=rfl;have e2:(true==false)=false:=rfl;rw [e1,e2];simp only [if_true,Bool.false_eq_true,if_false];omega
theorem Qtm {P:Program} {ops:Array Oper} {Q:Exit→Act→World→Prop} {md:Region.Mode} (I:Array Bool→Act→World→Prop)
  (hstep:∀l a w i,I l a w->i∈Region.ready md ops l->wpOp P ops Q i (I (l.setIfInBounds i true)) a w)
  (hdone:∀l a w,I l a w->Region.ready md ops l=[]->Q .normal a w) :
  ∀fuel l a w,l.toList.count false<=fuel->I l a w->wpAny P md ops Q fuel l a w:=by
 intro fuel
 have hr:∀(l:Array Bool) i,i∈Region.ready md ops l->l.getD i true=false:=by
  intro l i hi;unfold Region.ready at hi;rw [List.mem_filter] at hi;have:=hi.2;simp only [Bool.and_eq_true] at this
  simpa using this.1
 induction fuel with
 | zero=>
   intro l a w hc hI
   have:Region.ready md ops l=[]:=by
    cases h:Region.ready md ops l with
    | nil=>rfl
    | cons i t=>
      have h1:=hr l i (by rw [h];simp);have:=count_set l i h1;omega
   exact ⟨this,hdone l a w hI this⟩
 | succ n ih=>
   intro l a w hc hI;refine ⟨hdone l a w hI,fun i hi=>?_⟩;have h1:=count_set l i (hr l i hi);exact wpOp_mono (fun a w h=>ih _ a w (by omega) h) (hstep l a w i hI hi)
def upd (d:Nat->Bool) (i:Nat):Nat->Bool:=fun j=>if j=i then true else d j
theorem upd_same (d:Nat->Bool) (i:Nat):upd d i i=true:=if_pos rfl
theorem Qak (d:Nat->Bool) {i j:Nat} (h:j≠i):upd d i j=d j:=if_neg h
theorem Qcx {P:Program} {id:Nat} {ops:Array Oper} {Q:Exit→Act→World→Prop} {a:Act} {w:World} (hm:P.follows .mixedOrders=true) (I:(Nat→Bool)→Act→World→Prop)
  (hord:(List.range ops.size).all (fun i=>((ops[i]?).map (fun o=>o.after.all fun e=> !Region.binds .any e||decide (e.on<i))).getD true)=true)
  (h0:I (fun _=>false) a {w with drawn:=w.drawn+1})
  (hstep:∀i o,ops[i]? = some o->∀d a w,I d a w->d i=false->(∀e∈o.after.toList,Region.binds .any e=true->d e.on=true)->if Region.wanted o (yielded ops a.tmps)=true then o.wp P a w (I (upd d i)) Q else I (upd d i) (a.put o.dst undef) w)
  (hdone:∀d a w,(∀i,i<ops.size->d i=true)->I d a w->Q .normal a w) :
  (Code.region id ops true).wp P Q a w:=by
 refine wp_region_any hm ?_
 refine Qtm (fun l a w=>l.size=ops.size/\I (fun i=>l.getD i false) a w) ?_ ?_ _ _ _ _ ?_ ⟨by simp,?_⟩
 ·rintro l a w i ⟨hl,hI⟩ hi;unfold Region.ready at hi;rw [List.mem_filter] at hi;obtain ⟨hir,hi⟩:=hi;have hlt:i<ops.size:=by simpa using hir
  simp only [Bool.and_eq_true] at hi;have ho:=Array.getElem?_eq_getElem hlt
  have hf:l.getD i false=false:=by
   have:=hi.1;simp only [Bool.not_eq_true'] at this
   simpa [Array.getD,hl,hlt] using this
  have ha:=hi.2;rw [ho] at ha;simp only [Option.map_some,Option.getD_some] at ha;rw [Array.all_eq_true'] at ha
  have hs:=hstep i _ ho _ a w hI hf (fun e he hb=>by
   have:=ha e (by simpa using he);rw [hb] at this
   simpa using this)
  have hu:(fun j=>(l.setIfInBounds i true).getD j false)=upd (fun j=>l.getD j false) i:=by
   funext j
   unfold upd
   by_cases hj:j=i
   ·subst hj;simp [Array.getD,hl,hlt]
   ·rw [if_neg hj];simp only [Array.getD,Array.size_setIfInBounds];split
    ·rename_i h
     simp [h,Ne.symm hj]
    ·rfl
  unfold wpOp;rw [ho];simp only;split
  ·rename_i hw
   rw [if_pos hw] at hs;exact Or.inl (Oper.wp_mono (fun a w h=>⟨by simp [hl],by rw [hu];exact h⟩) hs)
  ·rename_i hw
   rw [if_neg hw] at hs;exact ⟨by simp [hl],by rw [hu];exact hs⟩
 ·rintro l a w ⟨hl,hI⟩ hr;refine hdone _ a w ?_ hI
  have key:∀n i,i<n->i<ops.size->l.getD i false=true:=by
   intro n
   induction n with
   | zero=>intro i h;omega
   | succ n ih=>
     intro i hi hlt
     cases hv:l.getD i false with
     | true=>rfl
     | false=>
       exfalso
       have hmem:i∈Region.ready .any ops l:=by
        unfold Region.ready;rw [List.mem_filter];refine ⟨by simpa using hlt,?_⟩;have ho:=Array.getElem?_eq_getElem hlt
        rw [ho];simp only [Bool.and_eq_true,Option.map_some,Option.getD_some];refine ⟨?_,?_⟩
        ·have:l.getD i true=false:=by simpa [Array.getD,hl,hlt] using hv
         rw [this];rfl
        ·rw [Array.all_eq_true'];intro e he;have h1:=List.all_eq_true.1 hord i (by simpa using hlt);rw [ho] at h1;simp only [Option.map_some,Option.getD_some] at h1;rw [Array.all_eq_true'] at h1;have h2:=h1 e he
         cases hb:Region.binds .any e with
         | false=>rfl
         | true=>
           rw [hb] at h2;have h3:e.on<i:=by simpa using h2
           rw [ih e.on (by omega) (by omega)];rfl
       rw [hr] at hmem
       cases hmem
  intro i hi;exact key (i+1) i (Nat.lt_succ_self i) hi
 ·simp
 ·have:(fun i=>(Array.replicate ops.size false).getD i false)=fun _=>false:=by
   funext i
   simp [Array.getD]
  rw [this];exact h0
def Steps (P:Program) (Q:Exit->Act->World->Prop) (I:(Nat->Bool)->Act->World->Prop):Nat->List Oper->Prop
 | _,[]=>True
 | i,o :: os=>(∀d a w,I d a w->d i=false->(∀e∈o.after.toList,Region.binds .any e=true->d e.on=true)->o.wp P a w (I (upd d i)) Q)/\Steps P Q I (i+1) os
theorem Steps.at {P:Program} {Q:Exit->Act->World->Prop} {I:(Nat->Bool)->Act->World->Prop}:∀(l:List Oper) (k i:Nat) (o:Oper),Steps P Q I k l->l[i]? = some o->∀d a w,I d a w->d (k+i)=false->(∀e∈o.after.toList,Region.binds .any e=true->d e.on=true)->o.wp P a w (I (upd d (k+i))) Q
 | [],k,i,o,_,h=>by simp at h
 | x :: l,k,0,o,hs,h=>by
   simp at h;subst h;exact hs.1
 | x :: l,k,i+1,o,hs,h=>by
   have h2:l[i]? = some o:=by simpa using h
   have:=Steps.at l (k+1) i o hs.2 h2;rw [show k+1+i=k+(i+1) by omega] at this;exact this
theorem Qeg {P:Program} {id:Nat} {ops:Array Oper} {Q:Exit→Act→World→Prop} {a:Act} {w:World} (I:(Nat→Bool)→Act→World→Prop) (hm:P.follows .mixedOrders=true)
  (hord:(List.range ops.size).all (fun i=>((ops[i]?).map (fun o=>o.after.all fun e=> !Region.binds .any e||decide (e.on<i))).getD true)=true)
  (hg:ops.toList.all (fun o=>o.guard.isNone)=true)
  (h0:I (fun _=>false) a {w with drawn:=w.drawn+1})
  (hstep:Steps P Q I 0 ops.toList)
  (hdone:∀d a w,(∀i,i<ops.size->d i=true)->I d a w->Q .normal a w) :
  (Code.region id ops true).wp P Q a w:=by
 refine Qcx hm I hord h0 ?_ hdone
 intro i o ho d a w hI hi hd;have hl:ops.toList[i]? = some o:=by simpa using ho
 have hgn:=List.all_eq_true.1 hg o (List.mem_of_getElem? hl)
 have hw:Region.wanted o (yielded ops a.tmps)=true:=by
  cases h:o.guard with
  | none=>simp [Region.wanted,h]
  | some g=>rw [h] at hgn;cases hgn
 rw [if_pos hw];have:=Steps.at ops.toList 0 i o hstep hl d a w hI;rw [Nat.zero_add] at this;exact this hi hd
def Qb6 (a:Act):List (Nat×Value)->Act
 | []=>a
 | (s,v) :: l=>(Qb6 a l).put (some s) v
def Qh0:List (Nat×Value)->Nat->Option Value
 | [],_=>none
 | (t,u) :: l,s=>if t=s then some u else Qh0 l s
theorem Qd2 (a:Act):∀(l:List (Nat×Value)),(Qb6 a l).tmps.size=a.tmps.size
 | []=>rfl
 | (t,u) :: l=>by
   simp [Qb6,Act.put,Qd2 a l]
theorem Qh1 (a:Act) (s:Nat) (hs:s<a.tmps.size):∀(l:List (Nat×Value)),(Qb6 a l).eval (.tmp s)=(Qh0 l s).getD (a.eval (.tmp s))
 | []=>rfl
 | (t,u) :: l=>by
   unfold Qh0
   by_cases hts:t=s
   ·subst hts;rw [if_pos rfl];have:=Qd2 a l;simp [Qb6,Act.put,Act.eval,Array.getD,this,hs]
   ·rw [if_neg hts,<- Qh1 a s hs l];have:=Qd2 a l;simp [Qb6,Act.put,Act.eval,Array.getD,this,hs,hts]
end Go.Proofs.YthcidnnkakppcaaGreatDoor
namespace Go.Proofs.YthcidnnkakppcaaGreatDoor
open Go.ChangeShapes Go.WideShapes Go.ChangeAt Go.RowKit
section
variable {P:Program} {d:Option Tmp} {ty:TypeId} {pos:String} {af:Array Edge} {a:Act} {W:World} {K:Act->World->Prop} {Q:Exit->Act->World->Prop}
theorem Qfa {T:TypeId} {x:Operand} {k:Nat} {cs:Array Value} {t:TypeId} {fr:Nat×Nat} {D:TypeDesc} (ha:a.eval x=.pointer (some ⟨k,0,none⟩)) (hb:W.heap[k]? = some (.cells cs t fr))
  (hu:P.underlying T=some D) (hD:(match D with | .struct _ | .array _ _=>true | _=>false)=true) (hi:(P.info? T).map (·.size)=some cs.size) (hK:K (a.put d (.agg cs)) W):Oper.wp P ⟨d,.load T x,ty,pos,af,none⟩ a W K Q:=by
 have h:=run_loadVar_row (P:=P) W k t T cs fr D hb hu hD hi;unfold Oper.wp;simp [execOp,ha,Instr.loadAt,Instr.sureAddr,h,Result.andThen];exact hK
theorem Qqa {T:TypeId} {p x:Operand} {k:Nat} {cs old:Array Value} {t:TypeId} (ha:a.eval p=.pointer (some ⟨k,0,none⟩)) (hv:a.eval x=.agg cs) (hb:W.heap[k]? = some (.cells old t (0,0)))
  (hi:(P.info? T).map (·.size)=some cs.size) (ho:old.size=cs.size) (h1:cs.all (·.oneCell')=true) (hK:K (a.put d undef) (W.setRow k cs)):Oper.wp P ⟨d,.store T p x,ty,pos,af,none⟩ a W K Q:=by
 have h:=run_storeVar_row (P:=P) W k t T old cs hb hi ho h1;unfold Oper.wp;simp [execOp,ha,hv,Instr.storeAt,Instr.sureAddr,h,Result.andThen];exact hK
theorem Q0h {f:FuncId} {args:Array Operand} {tys:Array TypeId} (hc:∀(vs:Array Value) (w:World),Sem.run P (callFunc f vs) w=.ok (.enter f vs) w) (hK:Calls P f (args.map a.eval) W (fun | .returned v,w''=>K (a.put d v) w'' | .panicked c,w''=>Q (.panic c) a w'' | .outgrown,_=>LetsOut Q)) :
  Oper.wp P ⟨d,.call {callee:=.value (.func f),args:=args,argTypes:=tys},ty,pos,af,none⟩ a W K Q:=by
 unfold Oper.wp;rw [execOp_call_go,hc];rw [show (#[]++args.map a.eval ++ #[]:Array Value)=args.map a.eval by simp];exact hK
theorem Qa3 {f:FuncId} {args:Array Operand} {tys:Array TypeId} {vs:Array Value} {R:Value→World→Prop} (hc:∀(vs:Array Value) (w:World),Sem.run P (callFunc f vs) w=.ok (.enter f vs) w) (hv:args.map a.eval=vs)
  (hC:Calls P f vs W (fun e w'=>∃v,e=.returned v/\R v w')) (hK:∀v w',R v w'->K (a.put d v) w') :
  Oper.wp P ⟨d,.call {callee:=.value (.func f),args:=args,argTypes:=tys},ty,pos,af,none⟩ a W K Q:=by
 refine Q0h hc ?_
 rw [hv];refine hC.mono ?_
 rintro e w' ⟨v,rfl,h⟩;exact hK v w' h
theorem Qgb {x:Operand} (hK:K (a.put d (a.eval x)) W):Oper.wp P ⟨d,.move x,ty,pos,af,none⟩ a W K Q:=by
 unfold Oper.wp;simp [execOp];exact hK
theorem Qeh {x:Operand} (hK:K (a.put d (a.eval x)) W):Oper.wp P ⟨d,.assign x,ty,pos,af,none⟩ a W K Q:=by
 unfold Oper.wp;simp [execOp];exact hK
theorem Qjc {x:Operand} {i:Nat} {vs:Array Value} {v:Value} (ha:a.eval x=.tuple vs) (hv:vs[i]? = some v) (hK:K (a.put d v) W):Oper.wp P ⟨d,.extract x i,ty,pos,af,none⟩ a W K Q:=by
 unfold Oper.wp;simp [execOp,ha,Instr.extract,hv,Result.andThen];exact hK
theorem Qwn {T:TypeId} {z:Value} (hz:(P.info? T).bind (·.zero)=some z) (hK:K (a.put d (.pointer (some ⟨W.heap.size,0,none⟩))) (W.alloc (.cells z.cells T))):Oper.wp P ⟨d,.alloc T,ty,pos,af,none⟩ a W K Q:=by
 obtain ⟨i,h2,h3⟩:=Option.bind_eq_some_iff.1 hz;unfold Oper.wp;simp [execOp,h2,h3,typeInfo,Instr.alloc,zeroValue,newVar,Result.andThen];exact hK
end
theorem lt_of_some {W:World} {k:Nat} {o:Obj} (h:W.heap[k]? = some o):k<W.heap.size:=(Array.getElem?_eq_some_iff.1 h).1
theorem size_setRow (W:World) (k:Nat) (cs:Array Value):(W.setRow k cs).heap.size=W.heap.size:=by
 simp [World.setRow]
theorem Qbf (W:World) (k:Nat) (cs:Array Value) (b:Nat) (h:b≠k):(W.setRow k cs).heap[b]? = W.heap[b]?:=by
 simp [World.setRow,Array.getElem?_modify,Ne.symm h]
theorem Qct {W:World} {k:Nat} {cs old:Array Value} {t:TypeId} {fr:Nat×Nat} (h:W.heap[k]? = some (.cells old t fr)):(W.setRow k cs).heap[k]? = some (.cells cs t fr):=
 setRow_heap W k old cs t fr h
theorem Qjd {w W:World} (g:Old w W) {k:Nat} (hk:w.heap.size<=k) (cs:Array Value):Old w (W.setRow k cs):=by
 refine ⟨g.os,g.tape,g.output,?_,?_⟩
 ·rw [size_setRow];exact g.size
 ·intro b hb;rw [Qbf _ _ _ _ (by omega)];exact g.block b hb
structure Fram (n:Nat) (slot:Nat->Nat) (a0 a:Act):Prop where
 size:a.tmps.size=a0.tmps.size
 defers:a.defers=a0.defers
 same:∀s,(∀i,i<n->slot i≠s)->a.eval (.tmp s)=a0.eval (.tmp s)
def Qe3 (P:Program) (Q:Exit->Act->World->Prop) (w0:World) (n:Nat) (slot:Nat->Nat) (a0:Act) (Qs:Nat->World->Value->Prop):Nat->List Oper->Prop
 | _,[]=>True
 | i,o :: os=>(∀a W,Old w0 W->Fram n slot a0 a->(∀e∈o.after.toList,Region.binds .any e=true->Qs e.on W (a.eval (.tmp (slot e.on))))->o.wp P a W (fun a' W'=>∃v,a'=a.put (some (slot i)) v/\Old W W'/\Qs i W' v) Q)/\Qe3 P Q w0 n slot a0 Qs (i+1) os
theorem eval_put_same (a:Act) (s:Nat) (v:Value) (h:s<a.tmps.size):(a.put (some s) v).eval (.tmp s)=v:=by
 simp [Act.put,Act.eval,Array.getD,h]
theorem Qav (a:Act) (s t:Nat) (v:Value) (h:s≠t):(a.put (some s) v).eval (.tmp t)=a.eval (.tmp t):=by
 have e:(a.tmps.setIfInBounds s v)[t]? = a.tmps[t]?:=Array.getElem?_setIfInBounds_ne h
 simp only [Act.put,Act.eval];rw [Array.getD_eq_getD_getElem?,Array.getD_eq_getD_getElem?,e]
theorem Qkb {P:Program} {id:Nat} {ops:Array Oper} {Q:Exit→Act→World→Prop} {a0:Act} {w0:World} (hm:P.follows .mixedOrders=true)
  (hord:(List.range ops.size).all (fun i=>((ops[i]?).map (fun o=>o.after.all fun e=> !Region.binds .any e||decide (e.on<i))).getD true)=true)
  (hg:ops.toList.all (fun o=>o.guard.isNone)=true)
  (slot:Nat->Nat) (hslot:∀i,i<ops.size->slot i<a0.tmps.size) (hinj:∀i j,i<ops.size->j<ops.size->slot i=slot j->i=j)
  (Qs:Nat->World->Value->Prop) (hQ:∀i W W' v,Qs i W v->Old W W'->Qs i W' v)
  (hstep:Qe3 P Q w0 ops.size slot a0 Qs 0 ops.toList)
  (hdone:∀a W,Old w0 W->Fram ops.size slot a0 a->(∀i,i<ops.size->Qs i W (a.eval (.tmp (slot i))))->Q .normal a W) :
  (Code.region id ops true).wp P Q a0 w0:=by
 have hon:∀i o,ops[i]? = some o->∀e∈o.after.toList,Region.binds .any e=true->e.on<i:=by
  intro i o ho e he hb;have hi:=(Array.getElem?_eq_some_iff.1 ho).1;have h1:=List.all_eq_true.1 hord i (by simpa using hi);rw [ho] at h1;simp only [Option.map_some,Option.getD_some] at h1;rw [Array.all_eq_true'] at h1;have h2:=h1 e (by simpa using he);rw [hb] at h2
  simpa using h2
 refine Qeg (fun d a W=>Old w0 W/\Fram ops.size slot a0 a/\∀i,i<ops.size->d i=true->Qs i W (a.eval (.tmp (slot i)))) hm hord hg ⟨Below.drew (Old.refl w0),⟨rfl,rfl,fun _ _=>rfl⟩,fun i _ h=>by cases h⟩ ?_ (fun d a W hd h=>hdone a W h.1 h.2.1 (fun i hi=>h.2.2 i hi (hd i hi)))
 have key:∀(l:List Oper) (k:Nat),(∀j,l[j]? = ops[k+j]?)->Qe3 P Q w0 ops.size slot a0 Qs k l->Steps P Q (fun d a W=>Old w0 W/\Fram ops.size slot a0 a/\∀i,i<ops.size->d i=true->Qs i W (a.eval (.tmp (slot i)))) k l:=by
  intro l
  induction l with
  | nil=>intro k _ _;exact trivial
  | cons o l ih=>
    intro k hk hs;refine ⟨?_,ih (k+1) (fun j=>by have:=hk (j+1);simpa [Nat.add_assoc,Nat.add_comm 1 j] using this) hs.2⟩;have ho:ops[k]? = some o:=by simpa using (hk 0).symm
    have hklt:=(Array.getElem?_eq_some_iff.1 ho).1;rintro d a W ⟨g,hF,hI⟩ hdk hdep;refine Oper.wp_mono ?_ (hs.1 a W g hF (fun e he hb=>hI e.on (by have:=hon k o ho e he hb;omega) (hdep e he hb)))
    rintro a' W' ⟨v,rfl,g',hq⟩;refine ⟨Old.trans g g',⟨by simp [Act.put,hF.size],by simp [Act.put,hF.defers],fun s hs=>?_⟩,fun i hi hd=>?_⟩
    ·rw [Qav _ _ _ _ (hs k hklt)];exact hF.same s hs
    ·by_cases hik:i=k
     ·subst hik;rw [eval_put_same _ _ _ (by rw [hF.size];exact hslot i hi)];exact hq
     ·rw [Qav _ _ _ _ (fun e=>hik (hinj k i hklt hi e).symm)];unfold upd at hd;rw [if_neg hik] at hd;exact hQ i W W' _ (hI i hi hd) g'
 exact key ops.toList 0 (by simp) hstep
theorem Qal {P:Program} {a:Act} {W:World} {K:Act->World->Prop} {Q:Exit->Act->World->Prop} {o:Oper} (ρ:Operand->Value) (hρ:a.eval=ρ) (v:Value) (hr:(execOp ρ o).run P W=.ok (.value v) W) (hK:K (a.put o.dst v) W):o.wp P a W K Q:=by
 unfold Oper.wp;rw [hρ,hr];exact hK
theorem Qyh {P:Program} {a:Act} {W W':World} {K:Act->World->Prop} {Q:Exit->Act->World->Prop} {o:Oper} (ρ:Operand->Value) (hρ:a.eval=ρ) (hr:(execOp ρ o).run P W=.ok .skip W') (hK:K (a.put o.dst undef) W'):o.wp P a W K Q:=by
 unfold Oper.wp;rw [hρ,hr];exact hK
theorem Qje (slot:Nat->Nat) (us:Nat->Value) (s:Nat):∀(l:List Nat),(∀i j,i∈l->j∈l->slot i=slot j->i=j)->(∀i,i∈l->slot i=s->Qh0 (l.map fun i=>(slot i,us i)) s=some (us i))/\((∀i,i∈l->slot i≠s)->Qh0 (l.map fun i=>(slot i,us i)) s=none)
 | [],_=>⟨fun i h=>by simp at h,fun _=>rfl⟩
 | x :: l,hinj=>by
   obtain ⟨h1,h2⟩:=Qje slot us s l (fun i j hi hj=>hinj i j (by simp [hi]) (by simp [hj]));refine ⟨fun i hi hs=>?_,fun h=>?_⟩
   ·show (if slot x=s then some (us x) else Qh0 (l.map fun i=>(slot i,us i)) s)=_
    by_cases hx:slot x=s
    ·rw [if_pos hx];have:=hinj i x hi (by simp) (hs.trans hx.symm);rw [this]
    ·rw [if_neg hx];rcases List.mem_cons.1 hi with h3 | h3
     ·subst h3;exact absurd hs hx
     ·exact h1 i h3 hs
   ·show (if slot x=s then some (us x) else Qh0 (l.map fun i=>(slot i,us i)) s)=none
    rw [if_neg (h x (by simp))];exact h2 (fun i hi=>h i (by simp [hi]))
theorem Q0i {a b:Act} (hs:a.tmps.size=b.tmps.size) (hd:a.defers=b.defers) (h:∀s,s<a.tmps.size->a.eval (.tmp s)=b.eval (.tmp s)):a=b:=by
 cases a with
 | mk ta da=>
   cases b with
   | mk tb db=>
     simp only at hs hd h;subst hd
     congr 1
     apply Array.ext hs;intro i h1 h2;have:=h i h1
     simpa [Act.eval,Array.getD,h1,h2] using this
theorem Qfr (a:Act):∀l,(Qb6 a l).defers=a.defers
 | []=>rfl
 | (t,u) :: l=>by simp [Qb6,Act.put,Qfr a l]
theorem Qeu {n:Nat} {slot:Nat->Nat} {a0 a:Act} (hF:Fram n slot a0 a) (hinj:∀i j,i<n->j<n->slot i=slot j->i=j):a=Qb6 a0 ((List.range n).map fun i=>(slot i,a.eval (.tmp (slot i)))):=by
 refine Q0i (by rw [Qd2];exact hF.size) (by rw [Qfr];exact hF.defers) (fun s hs=>?_);rw [Qh1 a0 s (by rw [<- hF.size];exact hs)];obtain ⟨h1,h2⟩:=Qje slot (fun i=>a.eval (.tmp (slot i))) s (List.range n) (fun i j hi hj=>hinj i j (by simpa using hi) (by simpa using hj))
 by_cases hx:∃i,i<n/\slot i=s
 ·obtain ⟨i,hi,rfl⟩:=hx;rw [h1 i (by simpa using hi) rfl];rfl
 ·have hn:∀i,i<n→slot i≠s:=fun i hi e=>hx ⟨i,hi,e⟩
  rw [h2 (fun i hi=>hn i (by simpa using hi))];exact hF.same s hn
theorem Qix {P:Program} {id:Nat} {pre:List Oper} {st:Oper} {Q:Exit→Act→World→Prop} {a0:Act} {w0:World} (hm:P.follows .mixedOrders=true)
  (hord:(List.range (pre++[st]).toArray.size).all (fun i=>(((pre++[st]).toArray[i]?).map (fun o=>o.after.all fun e=> !Region.binds .any e||decide (e.on<i))).getD true)=true)
  (hg:(pre++[st]).all (fun o=>o.guard.isNone)=true)
  (hlast:(List.range pre.length).all (fun i=>st.after.any fun e=>Region.binds .any e&&decide (e.on=i))=true)
  (slot:Nat->Nat) (hslot:∀i,i<pre.length->slot i<a0.tmps.size) (hinj:∀i j,i<pre.length->j<pre.length->slot i=slot j->i=j)
  (Qs:Nat->World->Value->Prop) (hQ:∀i W W' v,Qs i W v->Old W W'->Qs i W' v)
  (hstep:Qe3 P Q w0 pre.length slot a0 Qs 0 pre)
  (hdone:∀a W,Old w0 W->Fram pre.length slot a0 a->(∀i,i<pre.length->Qs i W (a.eval (.tmp (slot i))))->st.wp P a W (fun a' W'=>Q .normal a' W') Q) :
  (Code.region id (pre++[st]).toArray true).wp P Q a0 w0:=by
 have hsz:(pre++[st]).toArray.size=pre.length+1:=by simp
 have hon:∀i o,(pre++[st]).toArray[i]? = some o->∀e∈o.after.toList,Region.binds .any e=true->e.on<i:=by
  intro i o ho e he hb;have hi:=(Array.getElem?_eq_some_iff.1 ho).1;have h1:=List.all_eq_true.1 hord i (by simpa using hi);rw [ho] at h1;simp only [Option.map_some,Option.getD_some] at h1;rw [Array.all_eq_true'] at h1;have h2:=h1 e (by simpa using he);rw [hb] at h2
  simpa using h2
 have hdep:∀i,i<pre.length->∃e∈st.after.toList,Region.binds .any e=true/\e.on=i:=by
  intro i hi;have h1:=List.all_eq_true.1 hlast i (by simpa using hi);rw [Array.any_eq_true'] at h1;obtain ⟨e,he,h2⟩:=h1;rw [Bool.and_eq_true] at h2;exact ⟨e,by simpa using he,h2.1,of_decide_eq_true h2.2⟩
 let I:(Nat->Bool)->Act->World->Prop:=fun d a W=>(d pre.length=true->(∀i,i<pre.length->d i=true)/\Q .normal a W)/\(d pre.length=false->Old w0 W/\Fram pre.length slot a0 a/\∀i,i<pre.length->d i=true->Qs i W (a.eval (.tmp (slot i))))
 refine Qeg I hm hord hg ⟨(fun h=>by cases h),(fun _=>⟨Below.drew (Old.refl w0),⟨rfl,rfl,fun _ _=>rfl⟩,(fun i _ h=>by cases h)⟩)⟩ ?_ (fun d a W hd h=>(h.1 (hd _ (by rw [hsz];omega))).2)
 have key:∀(l:List Oper) (k:Nat),(∀j,(l++[st])[j]? = (pre++[st]).toArray[k+j]?)->k+l.length=pre.length->Qe3 P Q w0 pre.length slot a0 Qs k l->Steps P Q I k (l++[st]):=by
  intro l
  induction l with
  | nil=>
    intro k hk hkl _;refine ⟨?_,trivial⟩;have hkp:k=pre.length:=by simpa using hkl
    subst hkp;rintro d a W ⟨_,hI⟩ hdk hd;obtain ⟨g,hF,hq⟩:=hI hdk
    have hall:∀i,i<pre.length->d i=true:=fun i hi=>by
     obtain ⟨e,he,hb,hon⟩:=hdep i hi;rw [<- hon];exact hd e he hb
    refine Oper.wp_mono ?_ (hdone a W g hF (fun i hi=>hq i hi (hall i hi)))
    intro a' W' h;refine ⟨fun _=>⟨fun i hi=>?_,h⟩,fun hf=>?_⟩
    ·rw [Qak d (by omega)];exact hall i hi
    ·rw [upd_same] at hf
     cases hf
  | cons o l ih=>
    intro k hk hkl hs;have hklt:k<pre.length:=by simp at hkl;omega
    refine ⟨?_,ih (k+1) (fun j=>by have:=hk (j+1);simpa [Nat.add_assoc,Nat.add_comm 1 j] using this) (by simp at hkl;omega) hs.2⟩;have ho:(pre++[st]).toArray[k]? = some o:=by simpa using (hk 0).symm
    rintro d a W ⟨hT,hI⟩ hdk hd
    cases hl:d pre.length with
    | true=>
      have:=(hT hl).1 k hklt;rw [this] at hdk
      cases hdk
    | false=>
      obtain ⟨g,hF,hq⟩:=hI hl;refine Oper.wp_mono ?_ (hs.1 a W g hF (fun e he hb=>hq e.on (by have:=hon k o ho e he hb;omega) (hd e he hb)))
      rintro a' W' ⟨v,rfl,g',hv⟩;refine ⟨fun h=>?_,fun _=>⟨Old.trans g g',⟨by simp [Act.put,hF.size],by simp [Act.put,hF.defers],fun s hs=>?_⟩,fun i hi hdi=>?_⟩⟩
      ·rw [Qak d (by omega),hl] at h
       cases h
      ·rw [Qav _ _ _ _ (hs k hklt)];exact hF.same s hs
      ·by_cases hik:i=k
       ·subst hik;rw [eval_put_same _ _ _ (by rw [hF.size];exact hslot i hi)];exact hv
       ·rw [Qav _ _ _ _ (fun e=>hik (hinj k i hklt hi e).symm)];rw [Qak d hik] at hdi;exact hQ i W W' _ (hq i hi hdi) g'
 exact key pre 0 (by simp) (by simp) hstep
theorem Qfs {P:Program} {id:Nat} {l:List Oper} {st:Oper} {Q:Exit→Act→World→Prop} {a0:Act} {w0:World} (n:Nat) (hl:l=l.dropLast++[st]) (hn:l.dropLast.length=n) (hm:P.follows .mixedOrders=true)
  (hord:(List.range l.toArray.size).all (fun i=>((l.toArray[i]?).map (fun o=>o.after.all fun e=> !Region.binds .any e||decide (e.on<i))).getD true)=true)
  (hg:l.all (fun o=>o.guard.isNone)=true)
  (hlast:(List.range n).all (fun i=>st.after.any fun e=>Region.binds .any e&&decide (e.on=i))=true)
  (slot:Nat->Nat) (hslot:∀i,i<n->slot i<a0.tmps.size) (hinj:∀i j,i<n->j<n->slot i=slot j->i=j)
  (Qs:Nat->World->Value->Prop) (hQ:∀i W W' v,Qs i W v->Old W W'->Qs i W' v)
  (hstep:Qe3 P Q w0 n slot a0 Qs 0 l.dropLast)
  (hdone:∀a W,Old w0 W->Fram n slot a0 a->(∀i,i<n->Qs i W (a.eval (.tmp (slot i))))->st.wp P a W (fun a' W'=>Q .normal a' W') Q) :
  (Code.region id l.toArray true).wp P Q a0 w0:=by
 subst hn;generalize l.dropLast=pre at *;subst hl;exact Qix hm hord hg hlast slot hslot hinj Qs hQ hstep hdone
def Qg0 (ops:Array Oper) (i:Nat):List Nat:=match ops[i]? with
 | some o=>(o.after.toList.filter (fun e=>Region.binds .any e)).map (·.on)
 | none=>[]
def Q0j (ops:Array Oper) (n:Nat) (S:List Nat):List Nat:=(List.range n).filter (fun i=>S.contains i||S.any (fun s=>(Qg0 ops s).contains i))
def Qog (ops:Array Oper) (n:Nat):Nat->List Nat->List Nat
 | 0,S=>S
 | k+1,S=>Qog ops n k (Q0j ops n S)
def Done (ops:Array Oper) (d:Nat->Bool):Prop:=∀i,d i=true->∀j∈Qg0 ops i,d j=true
theorem Qrl {ops:Array Oper} {n:Nat} {d:Nat->Bool} (h:Done ops d) {S:List Nat} (hS:∀i∈S,d i=true):∀i∈Q0j ops n S,d i=true:=by
 intro i hi;unfold Q0j at hi;have h2:=(List.mem_filter.1 hi).2;rw [Bool.or_eq_true] at h2;rcases h2 with h3 | h3
 ·exact hS i (by simpa using h3)
 ·obtain ⟨s,hs,h4⟩:=List.any_eq_true.1 h3;exact h s (hS s hs) i (by simpa using h4)
theorem Qcz {ops:Array Oper} {n:Nat} {d:Nat->Bool} (h:Done ops d):∀k S,(∀i∈S,d i=true)->∀i∈Qog ops n k S,d i=true
 | 0,S,hS=>hS
 | k+1,S,hS=>Qcz h k _ (Qrl h hS)
theorem Qcq {ops:Array Oper} {i:Nat} {o:Oper} (ho:ops[i]? = some o) (j:Nat):j∈Qg0 ops i↔∃e∈o.after.toList,Region.binds .any e=true/\e.on=j:=by
 unfold Qg0;rw [ho];simp only [List.mem_map,List.mem_filter];constructor
 ·rintro ⟨e,⟨h1,h2⟩,h3⟩;exact ⟨e,h1,h2,h3⟩
 ·rintro ⟨e,h1,h2,h3⟩;exact ⟨e,⟨h1,h2⟩,h3⟩
theorem Done.upd {ops:Array Oper} {d:Nat->Bool} (h:Done ops d) {i:Nat} {o:Oper} (ho:ops[i]? = some o) (hd:∀e∈o.after.toList,Region.binds .any e=true->d e.on=true):Done ops (upd d i):=by
 intro k hk j hj
 by_cases hji:j=i
 ·subst hji;exact upd_same d j
 ·rw [Qak d hji]
  by_cases hki:k=i
  ·subst hki;obtain ⟨e,h1,h2,h3⟩:=(Qcq ho j).1 hj;rw [<- h3];exact hd e h1 h2
  ·rw [Qak d hki] at hk;exact h k hk j hj
theorem Qe4 {P:Program} {id:Nat} {l:List Oper} {Q:Exit→Act→World→Prop} {a0:Act} {w0:World} (n:Nat) {t f:Oper} (hn:l.length=n+2) (ht:l[n]? = some t) (hf:l[n+1]? = some f) (hm:P.follows .mixedOrders=true)
  (hord:(List.range l.toArray.size).all (fun i=>((l.toArray[i]?).map (fun o=>o.after.all fun e=> !Region.binds .any e||decide (e.on<i))).getD true)=true)
  (hg:l.all (fun o=>o.guard.isNone)=true)
  (hall:(List.range n).all (fun i=>(Qog l.toArray n n (Qg0 l.toArray n)).contains i)=true)
  (hft:(Qg0 l.toArray (n+1)).contains n=true)
  (slot:Nat->Nat) (hslot:∀i,i<n+2->slot i<a0.tmps.size) (hinj:∀i j,i<n+2->j<n+2->slot i=slot j->i=j)
  (Qs:Nat->World->Value->Prop) (hQ:∀i W W' v,Qs i W v->Old W W'->Qs i W' v)
  (QT:World->Value->Prop)
  (hstep:Qe3 P Q w0 (n+1) slot a0 Qs 0 (l.take n))
  (hturn:∀a W,Old w0 W->Fram (n+1) slot a0 a->(∀i,i<n->Qs i W (a.eval (.tmp (slot i))))->t.wp P a W (fun a' W'=>∃v,a'=a.put (some (slot n)) v/\QT W' v) Q)
  (hlast:∀a W v,a.eval (.tmp (slot n))=v->f.wp P a W (fun a' W'=>a'=a.put (some (slot (n+1))) v/\W'=W) Q)
  (hdone:∀a W,Fram (n+2) slot a0 a->QT W (a.eval (.tmp (slot (n+1))))->Q .normal a W) :
  (Code.region id l.toArray true).wp P Q a0 w0:=by
 have hsz:l.toArray.size=n+2:=by simpa using hn
 have hon:∀i o,l.toArray[i]? = some o->∀e∈o.after.toList,Region.binds .any e=true->e.on<i:=by
  intro i o ho e he hb;have hi:=(Array.getElem?_eq_some_iff.1 ho).1;have h1:=List.all_eq_true.1 hord i (by simpa using hi);rw [ho] at h1;simp only [Option.map_some,Option.getD_some] at h1;rw [Array.all_eq_true'] at h1;have h2:=h1 e (by simpa using he);rw [hb] at h2
  simpa using h2
 let I:(Nat->Bool)->Act->World->Prop:=fun d a W=>Fram (n+2) slot a0 a/\(d (n+1)=false->Fram (n+1) slot a0 a)/\Done l.toArray d/\
  (d n=false->Old w0 W/\d (n+1)=false/\∀i,i<n->d i=true->Qs i W (a.eval (.tmp (slot i))))/\
  (d n=true->(∀i,i<n->d i=true)/\QT W (a.eval (.tmp (slot n)))/\(d (n+1)=true->a.eval (.tmp (slot (n+1)))=a.eval (.tmp (slot n))))
 have fput:∀a v i,i<n+2->Fram (n+2) slot a0 a->Fram (n+2) slot a0 (a.put (some (slot i)) v):=fun a v i hi hF=>
  ⟨by simp [Act.put,hF.size],by simp [Act.put,hF.defers],fun s hs=>by rw [Qav _ _ _ _ (hs i hi)];exact hF.same s hs⟩
 have fput1:∀a v i,i<n+1->Fram (n+1) slot a0 a->Fram (n+1) slot a0 (a.put (some (slot i)) v):=fun a v i hi hF=>
  ⟨by simp [Act.put,hF.size],by simp [Act.put,hF.defers],fun s hs=>by rw [Qav _ _ _ _ (hs i hi)];exact hF.same s hs⟩
 refine Qcx hm I hord ⟨⟨rfl,rfl,fun _ _=>rfl⟩,(fun _=>⟨rfl,rfl,fun _ _=>rfl⟩),(fun i h=>by cases h),(fun _=>⟨Below.drew (Old.refl w0),rfl,(fun i _ h=>by cases h)⟩),(fun h=>by cases h)⟩ ?_ ?_
 ·intro i o ho d a W hI hdi hd;have hgn:=List.all_eq_true.1 hg o (List.mem_of_getElem? (by simpa using ho))
  have hw:Region.wanted o (yielded l.toArray a.tmps)=true:=by
   cases h:o.guard with
   | none=>simp [Region.wanted,h]
   | some g=>rw [h] at hgn;cases hgn
  rw [if_pos hw]
  have hi:i<n+2:=by
   have:=(Array.getElem?_eq_some_iff.1 ho).1;omega
  obtain ⟨hF,hE,hC,hA,hB⟩:=hI;have hC':=hC.upd ho hd;rcases Nat.lt_trichotomy i n with h1 | h1 | h1
  ·-- ahead of the turn
   cases hdn:d n with
   | true=>
     have:=(hB hdn).1 i h1;rw [this] at hdi
     cases hdi
   | false=>
     obtain ⟨g,hf0,hq⟩:=hA hdn
     have key:∀(m:List Oper) (k:Nat),Qe3 P Q w0 (n+1) slot a0 Qs k m->∀(j:Nat) (o:Oper),m[j]? = some o->∀(a:Act) (W:World),Old w0 W->Fram (n+1) slot a0 a->(∀e∈o.after.toList,Region.binds .any e=true->Qs e.on W (a.eval (.tmp (slot e.on))))->o.wp P a W (fun a' W'=>∃v,a'=a.put (some (slot (k+j))) v/\Old W W'/\Qs (k+j) W' v) Q:=by
      intro m
      induction m with
      | nil=>intro k _ j o h;simp at h
      | cons x m ih=>
        intro k hs j o hj
        cases j with
        | zero=>
          simp at hj;subst hj;exact hs.1
        | succ j=>
          have:=ih (k+1) hs.2 j o (by simpa using hj);rw [show k+1+j=k+(j+1) by omega] at this;exact this
     have hst:=key (l.take n) 0 hstep i o (by rw [List.getElem?_take,if_pos h1];simpa using ho) a W g (hE hf0) (fun e he hb=>hq e.on (by have:=hon i o ho e he hb;omega) (hd e he hb));rw [Nat.zero_add] at hst;refine Oper.wp_mono ?_ hst
     rintro a' W' ⟨v,rfl,g',hv⟩;refine ⟨fput a v i hi hF,(fun _=>fput1 a v i (by omega) (hE hf0)),hC',(fun _=>⟨Old.trans g g',(by rw [Qak d (by omega)];exact hf0),(fun j hj hdj=>?_)⟩),(fun h=>by rw [Qak d (by omega),hdn] at h;cases h)⟩
     by_cases hji:j=i
     ·subst hji;rw [eval_put_same _ _ _ (by rw [hF.size];exact hslot j hi)];exact hv
     ·rw [Qav _ _ _ _ (fun e=>hji (hinj i j hi (by omega) e).symm)];rw [Qak d hji] at hdj;exact hQ j W W' _ (hq j hj hdj) g'
  ·subst h1
   have hot:o=t:=by
    have:l[i]? = some o:=by simpa using ho
    rw [ht] at this;exact (Option.some.inj this).symm
   subst hot;obtain ⟨g,hf0,hq⟩:=hA hdi
   have hpre:=fun j hj=>by
    have h2:=List.all_eq_true.1 hall j (by simpa using hj)
    exact Qcz hC i _ (fun s hs=>by
     obtain ⟨e,e1,e2,e3⟩:=(Qcq ho s).1 hs;rw [<- e3];exact hd e e1 e2) j (by simpa using h2)
   refine Oper.wp_mono ?_ (hturn a W g (hE hf0) (fun j hj=>hq j hj (hpre j hj)))
   rintro a' W' ⟨v,rfl,hv⟩;refine ⟨fput a v i hi hF,(fun _=>fput1 a v i (by omega) (hE hf0)),hC',(fun h=>by rw [upd_same] at h;cases h),(fun _=>⟨(fun j hj=>by rw [Qak d (by omega)];exact hpre j hj),?_,(fun h=>?_)⟩)⟩
   ·rw [eval_put_same _ _ _ (by rw [hF.size];exact hslot i hi)];exact hv
   ·rw [Qak d (by omega),hf0] at h
    cases h
  ·obtain rfl:i=n+1:=by omega
   have hof:o=f:=by
    have:l[n+1]? = some o:=by simpa using ho
    rw [hf] at this;exact (Option.some.inj this).symm
   subst hof
   have hdn:d n=true:=by
    obtain ⟨e,e1,e2,e3⟩:=(Qcq ho n).1 (by simpa using hft);rw [<- e3];exact hd e e1 e2
   obtain ⟨b1,b2,_⟩:=hB hdn;refine Oper.wp_mono ?_ (hlast a W _ rfl)
   rintro a' W' ⟨rfl,rfl⟩;have hne:slot (n+1)≠slot n:=fun e=>by have:=hinj (n+1) n (by omega) (by omega) e;omega
   refine ⟨fput a _ (n+1) hi hF,(fun h=>by rw [upd_same] at h;cases h),hC',(fun h=>by rw [Qak d (by omega),hdn] at h;cases h),(fun _=>⟨(fun j hj=>by rw [Qak d (by omega)];exact b1 j hj),?_,(fun _=>?_)⟩)⟩
   ·rw [Qav _ _ _ _ hne];exact b2
   ·rw [eval_put_same _ _ _ (by rw [hF.size];exact hslot (n+1) hi),Qav _ _ _ _ hne]
 ·intro d a W hd hI;obtain ⟨hF,_,hC,hA,hB⟩:=hI;obtain ⟨b1,b2,b3⟩:=hB (hd n (by omega));refine hdone a W hF ?_
  rw [b3 (hd (n+1) (by omega))];exact b2
def Qtn (P:Program) (Q:Exit->Act->World->Prop) (w0:World) (n:Nat) (slot:Nat->Nat) (a0:Act) (Qs:Nat->World->Value->Prop) (al:List Nat):Nat->List Oper->Prop
 | _,[]=>True
 | i,o :: os=>(∀a W,Old w0 W->Fram n slot a0 a->(∀e∈o.after.toList,Region.binds .any e=true->Qs e.on W (a.eval (.tmp (slot e.on))))->o.wp P a W (fun a' W'=>∃v,a'=a.put (some (slot i)) v/\Old W W'/\Qs i W' v/\(al.contains i=true->v=.pointer (some ⟨W.heap.size,0,none⟩))) Q)/\Qtn P Q w0 n slot a0 Qs al (i+1) os
def Qds (slot:Nat->Nat) (a:Act) (i:Nat):Value:=a.eval (.tmp (slot i))
def Qto (P:Program) (Q:Exit->Act->World->Prop) (w0:World) (n:Nat) (slot:Nat->Nat) (a0:Act) (Qs:Nat->World->Value->Prop) (al:List Nat) (R:World->World->Prop) (E:Nat->List Nat) (Ts:Nat->World->(Nat->Value)->Prop):Nat->List Oper->Prop
 | _,[]=>True
 | k,o :: os=>(∀a W,Old w0 W->Fram n slot a0 a->Ts k W (Qds slot a)->(∀i∈E k,Qs i W (Qds slot a i))->(∀i∈E k,∀j∈E k,al.contains i=true->al.contains j=true->i≠j->Qds slot a i≠Qds slot a j)->o.wp P a W (fun a' W'=>a'=a/\Old w0 W'/\R W W'/\Ts (k+1) W' (Qds slot a)) Q)/\Qto P Q w0 n slot a0 Qs al R E Ts (k+1) os
theorem Qh2 {P:Program} {id:Nat} {l:List Oper} {Q:Exit→Act→World→Prop} {a0:Act} {w0:World} (n s:Nat) {f:Oper} (hn:l.length=n+s+1) (hf:l[n+s]? = some f) (hm:P.follows .mixedOrders=true)
  (hord:(List.range l.toArray.size).all (fun i=>((l.toArray[i]?).map (fun o=>o.after.all fun e=> !Region.binds .any e||decide (e.on<i))).getD true)=true)
  (hg:l.all (fun o=>o.guard.isNone)=true)
  (hall:(List.range (n+s)).all (fun i=>(Qog l.toArray (n+s) (n+s) (Qg0 l.toArray (n+s))).contains i)=true)
  (hch:(List.range s).all (fun k=>decide (k=0)||(Qg0 l.toArray (n+k)).contains (n+k - 1))=true)
  (E:Nat->List Nat) (hE:(List.range s).all (fun k=>(E k).all (fun i=>decide (i<n)&&(Qog l.toArray (n+s) (n+s) (Qg0 l.toArray (n+k))).contains i))=true)
  (slot:Nat->Nat) (hslot:∀i,i<n->slot i<a0.tmps.size) (hinj:∀i j,i<n->j<n->slot i=slot j->i=j)
  (Qs:Nat->World->Value->Prop) (R:World->World->Prop) (hQ:∀i W W' v,Qs i W v->Old W W'->Qs i W' v) (hQR:∀i W W' v,Qs i W v->R W W'->Qs i W' v)
  (al:List Nat) (hal:∀i W v,al.contains i=true->Qs i W v->∃g,v=.pointer (some ⟨g,0,none⟩)/\g<W.heap.size)
  (Ts:Nat->World->(Nat->Value)->Prop) (hT0:∀W vs,Ts 0 W vs) (hT:∀k W W' vs vs',Ts (k+1) W vs->Old W W'->(∀i∈E k,vs' i=vs i)->Ts (k+1) W' vs')
  (hstep:Qtn P Q w0 n slot a0 Qs al 0 (l.take n))
  (hsto:Qto P Q w0 n slot a0 Qs al R E Ts 0 ((l.drop n).take s))
  (hlast:∀a W,Old w0 W->Fram n slot a0 a->(∀i,i<n->Qs i W (Qds slot a i))->Ts s W (Qds slot a)->f.wp P a W (fun a' W'=>Q .normal a' W') Q) :
  (Code.region id l.toArray true).wp P Q a0 w0:=by
 have hsz:l.toArray.size=l.length:=by simp
 have hon:∀i o,l.toArray[i]? = some o->∀e∈o.after.toList,Region.binds .any e=true->e.on<i:=by
  intro i o ho e he hb;have hi:=(Array.getElem?_eq_some_iff.1 ho).1;have h1:=List.all_eq_true.1 hord i (by simpa using hi);rw [ho] at h1;simp only [Option.map_some,Option.getD_some] at h1;rw [Array.all_eq_true'] at h1;have h2:=h1 e (by simpa using he);rw [hb] at h2
  simpa using h2
 have hEn:∀k,k<s->∀i∈E k,i<n/\i∈Qog l.toArray (n+s) (n+s) (Qg0 l.toArray (n+k)):=fun k hk i hi=>by
  have h1:=List.all_eq_true.1 (List.all_eq_true.1 hE k (by simpa using hk)) i hi;rw [Bool.and_eq_true] at h1;exact ⟨of_decide_eq_true h1.1,by simpa using h1.2⟩
 let I:(Nat->Bool)->Act->World->Prop:=fun d a W=>Done l.toArray d/\
  (d (n+s)=false->Old w0 W/\Fram n slot a0 a/\(∀i,i<n->d i=true->Qs i W (Qds slot a i))/\(∀i j,i<n->j<n->al.contains i=true->al.contains j=true->i≠j->d i=true->d j=true->Qds slot a i≠Qds slot a j)/\∃k,k<=s/\(∀j,j<k->d (n+j)=true)/\(∀j,k<=j->j<s->d (n+j)=false)/\Ts k W (Qds slot a))/\
  (d (n+s)=true->(∀i,i<n+s->d i=true)/\Q .normal a W)
 refine Qcx hm I hord ⟨(fun i h=>by cases h),(fun _=>⟨Below.drew (Old.refl w0),⟨rfl,rfl,fun _ _=>rfl⟩,(fun i _ h=>by cases h),(fun i j _ _ _ _ _ h=>by cases h),0,Nat.zero_le _,(fun j hj=>by omega),(fun _ _ _=>rfl),hT0 _ _⟩),(fun h=>by cases h)⟩ ?_ ?_
 ·intro i o ho d a W hI hdi hd;have hgn:=List.all_eq_true.1 hg o (List.mem_of_getElem? (by simpa using ho))
  have hw:Region.wanted o (yielded l.toArray a.tmps)=true:=by
   cases h:o.guard with
   | none=>simp [Region.wanted,h]
   | some g=>rw [h] at hgn;cases hgn
  rw [if_pos hw]
  have hi:i<l.length:=by
   have:=(Array.getElem?_eq_some_iff.1 ho).1;omega
  obtain ⟨hC,hA,hB⟩:=hI;have hC':=hC.upd ho hd
  have hdn0:i<n+s->d (n+s)=false:=fun h=>by
   cases hdn:d (n+s) with
   | false=>rfl
   | true=>
     have:=(hB hdn).1 i h;rw [this] at hdi
     cases hdi
  rcases Nat.lt_or_ge i n with h1 | h1
  ·have hdn:=hdn0 (by omega);obtain ⟨g,hF,hq,hne,k,hk,k1,k2,ht⟩:=hA hdn
   have key:∀(m:List Oper) (k:Nat),Qtn P Q w0 n slot a0 Qs al k m->∀(j:Nat) (o:Oper),m[j]? = some o->∀(a:Act) (W:World),Old w0 W->Fram n slot a0 a->(∀e∈o.after.toList,Region.binds .any e=true->Qs e.on W (a.eval (.tmp (slot e.on))))->o.wp P a W (fun a' W'=>∃v,a'=a.put (some (slot (k+j))) v/\Old W W'/\Qs (k+j) W' v/\(al.contains (k+j)=true->v=.pointer (some ⟨W.heap.size,0,none⟩))) Q:=by
    intro m
    induction m with
    | nil=>intro k _ j o h;simp at h
    | cons x m ih=>
      intro k hs j o hj
      cases j with
      | zero=>
        simp at hj;subst hj;exact hs.1
      | succ j=>
        have:=ih (k+1) hs.2 j o (by simpa using hj);rw [show k+1+j=k+(j+1) by omega] at this;exact this
   have hst:=key (l.take n) 0 hstep i o (by rw [List.getElem?_take,if_pos h1];simpa using ho) a W g hF (fun e he hb=>hq e.on (by have:=hon i o ho e he hb;omega) (hd e he hb));rw [Nat.zero_add] at hst;refine Oper.wp_mono ?_ hst
   rintro a' W' ⟨v,rfl,g',hv,hnew⟩;have hsame:Qds slot (a.put (some (slot i)) v) i=v:=eval_put_same _ _ _ (by rw [hF.size];exact hslot i h1);have hoth:∀j,j<n->j≠i->Qds slot (a.put (some (slot i)) v) j=Qds slot a j:=fun j hj hji=>Qav _ _ _ _ (fun e=>hji (hinj i j h1 hj e).symm)
   refine ⟨hC',(fun _=>⟨Old.trans g g',⟨by simp [Act.put,hF.size],by simp [Act.put,hF.defers],fun s hs=>by rw [Qav _ _ _ _ (hs i h1)];exact hF.same s hs⟩,(fun j hj hdj=>?_),(fun j k hj hk aj ak hjk dj dk=>?_),k,hk,(fun j hj=>?_),(fun j hj hjs=>?_),?_⟩),(fun h=>by rw [Qak d (by omega),hdn] at h;cases h)⟩
   ·by_cases hji:j=i
    ·subst hji;rw [hsame];exact hv
    ·rw [hoth j hj hji];rw [Qak d hji] at hdj;exact hQ j W W' _ (hq j hj hdj) g'
   ·by_cases hji:j=i
    ·subst hji;rw [hsame,hoth k hk (fun e=>hjk e.symm),hnew aj];rw [Qak d (fun e=>hjk e.symm)] at dk;obtain ⟨gk,ek,hgk⟩:=hal k W _ ak (hq k hk dk);rw [ek];intro e;simp at e <;> omega
    ·by_cases hki:k=i
     ·subst hki;rw [hsame,hoth j hj hji,hnew ak];rw [Qak d hji] at dj;obtain ⟨gk,ek,hgk⟩:=hal j W _ aj (hq j hj dj);rw [ek];intro e;simp at e <;> omega
     ·rw [hoth j hj hji,hoth k hk hki];rw [Qak d hji] at dj;rw [Qak d hki] at dk;exact hne j k hj hk aj ak hjk dj dk
   ·rw [Qak d (by omega)];exact k1 j hj
   ·rw [Qak d (by omega)];exact k2 j hj hjs
   ·cases k with
    | zero=>exact hT0 _ _
    | succ k=>
      refine hT k W W' _ _ ht g' (fun j hj=>?_);obtain ⟨e1,e2⟩:=hEn k (by omega) j hj;refine hoth j e1 (fun e=>?_);have:=Qcz hC (n+s) _ (fun x hx=>hC (n+k) (k1 k (by omega)) x hx) j e2;rw [e,hdi] at this
      cases this
  ·rcases Nat.lt_or_ge i (n+s) with h2 | h2
   ·have hdn:=hdn0 h2;obtain ⟨g,hF,hq,hne,k,hk,k1,k2,ht⟩:=hA hdn;obtain ⟨q,rfl⟩:∃q,i=n+q:=⟨i - n,by omega⟩
    have hqs:q<s:=by omega
    have hkq:q=k:=by
     rcases Nat.lt_trichotomy q k with h3 | h3 | h3
     ·rw [k1 q h3] at hdi;cases hdi
     ·exact h3
     ·have h4:=List.all_eq_true.1 hch q (by simpa using hqs);rw [Bool.or_eq_true] at h4;rcases h4 with h4 | h4
      ·have:=of_decide_eq_true h4;omega
      ·obtain ⟨e,e1,e2,e3⟩:=(Qcq ho (n+q - 1)).1 (by simpa using h4);have h5:=hd e e1 e2;rw [e3,show n+q - 1=n+(q - 1) by omega,k2 (q - 1) (by omega) (by omega)] at h5
       cases h5
    subst hkq
    have key:∀(m:List Oper) (k:Nat),Qto P Q w0 n slot a0 Qs al R E Ts k m->∀(j:Nat) (o:Oper),m[j]? = some o->∀(a:Act) (W:World),Old w0 W->Fram n slot a0 a->Ts (k+j) W (Qds slot a)->(∀i∈E (k+j),Qs i W (Qds slot a i))->(∀i∈E (k+j),∀x∈E (k+j),al.contains i=true->al.contains x=true->i≠x->Qds slot a i≠Qds slot a x)->o.wp P a W (fun a' W'=>a'=a/\Old w0 W'/\R W W'/\Ts (k+j+1) W' (Qds slot a)) Q:=by
     intro m
     induction m with
     | nil=>intro k _ j o h;simp at h
     | cons x m ih=>
       intro k hs j o hj
       cases j with
       | zero=>
         simp at hj;subst hj;exact hs.1
       | succ j=>
         have:=ih (k+1) hs.2 j o (by simpa using hj);rw [show k+1+j=k+(j+1) by omega] at this;exact this
    have hEd:∀j∈E q,j<n/\d j=true:=fun j hj=>by
     obtain ⟨e1,e2⟩:=hEn q hqs j hj
     exact ⟨e1,Qcz hC (n+s) _ (fun x hx=>by
      obtain ⟨e,e4,e5,e3⟩:=(Qcq ho x).1 hx;rw [<- e3];exact hd e e4 e5) j e2⟩
    have hst:=key ((l.drop n).take s) 0 hsto q o (by rw [List.getElem?_take,if_pos hqs,List.getElem?_drop];simpa using ho) a W g hF (by rw [Nat.zero_add];exact ht) (by rw [Nat.zero_add];exact fun j hj=>hq j (hEd j hj).1 (hEd j hj).2) (by rw [Nat.zero_add];exact fun j hj x hx aj ax hjx=>hne j x (hEd j hj).1 (hEd x hx).1 aj ax hjx (hEd j hj).2 (hEd x hx).2);rw [Nat.zero_add] at hst;refine Oper.wp_mono ?_ hst
    rintro a' W' ⟨rfl,g',hr,ht'⟩;refine ⟨hC',(fun _=>⟨g',hF,(fun j hj hdj=>?_),(fun j x hj hx aj ax hjx dj dx=>?_),q+1,by omega,(fun j hj=>?_),(fun j hj hjs=>?_),ht'⟩),(fun h=>by rw [Qak d (by omega),hdn] at h;cases h)⟩
    ·rw [Qak d (by omega)] at hdj;exact hQR j W W' _ (hq j hj hdj) hr
    ·rw [Qak d (by omega)] at dj dx;exact hne j x hj hx aj ax hjx dj dx
    ·by_cases hjq:j=q
     ·subst hjq;exact upd_same d _
     ·rw [Qak d (by omega)];exact k1 j (by omega)
    ·rw [Qak d (by omega)];exact k2 j (by omega) hjs
   ·obtain rfl:i=n+s:=by omega
    have hof:o=f:=by
     have:l[n+s]? = some o:=by simpa using ho
     rw [hf] at this;exact (Option.some.inj this).symm
    subst hof;obtain ⟨g,hF,hq,hne,k,hk,k1,k2,ht⟩:=hA hdi
    have hpre:=fun j hj=>by
     have h2:=List.all_eq_true.1 hall j (by simpa using hj)
     exact Qcz hC (n+s) _ (fun x hx=>by
      obtain ⟨e,e1,e2,e3⟩:=(Qcq ho x).1 hx;rw [<- e3];exact hd e e1 e2) j (by simpa using h2)
    have hks:k=s:=by
     rcases Nat.lt_or_ge k s with h | h
     ·have:=k2 k (Nat.le_refl _) h;rw [hpre (n+k) (by omega)] at this
      cases this
     ·omega
    subst hks;refine Oper.wp_mono ?_ (hlast a W g hF (fun j hj=>hq j hj (hpre j (by omega))) ht)
    intro a' W' hv;refine ⟨hC',(fun h=>by rw [upd_same] at h;cases h),(fun _=>⟨(fun j hj=>?_),hv⟩)⟩;rw [Qak d (by omega)];exact hpre j hj
 ·intro d a W hd hI;exact (hI.2.2 (hd (n+s) (by omega))).2
theorem Qiy {P:Program} {id:Nat} {l:List Oper} {Q:Exit→Act→World→Prop} {a0:Act} {w0:World} (n:Nat) {t f:Oper} (hn:l.length=n+2) (ht:l[n]? = some t) (hf:l[n+1]? = some f) (hm:P.follows .mixedOrders=true)
  (hord:(List.range l.toArray.size).all (fun i=>((l.toArray[i]?).map (fun o=>o.after.all fun e=> !Region.binds .any e||decide (e.on<i))).getD true)=true)
  (hg:l.all (fun o=>o.guard.isNone)=true)
  (hall:(List.range n).all (fun i=>(Qog l.toArray n n (Qg0 l.toArray n)).contains i)=true)
  (hft:(Qg0 l.toArray (n+1)).contains n=true)
  (slot:Nat->Nat) (hslot:∀i,i<n->slot i<a0.tmps.size) (hinj:∀i j,i<n->j<n->slot i=slot j->i=j)
  (Qs:Nat->World->Value->Prop) (hQ:∀i W W' v,Qs i W v->Old W W'->Qs i W' v)
  (hstep:Qe3 P Q w0 n slot a0 Qs 0 (l.take n))
  (hturn:∀a W,Old w0 W->Fram n slot a0 a->(∀i,i<n->Qs i W (a.eval (.tmp (slot i))))->t.wp P a W (fun a' W'=>f.wp P a' W' (fun a2 W2=>Q .normal a2 W2) Q) Q) :
  (Code.region id l.toArray true).wp P Q a0 w0:=by
 have hsz:l.toArray.size=n+2:=by simpa using hn
 have hon:∀i o,l.toArray[i]? = some o->∀e∈o.after.toList,Region.binds .any e=true->e.on<i:=by
  intro i o ho e he hb;have hi:=(Array.getElem?_eq_some_iff.1 ho).1;have h1:=List.all_eq_true.1 hord i (by simpa using hi);rw [ho] at h1;simp only [Option.map_some,Option.getD_some] at h1;rw [Array.all_eq_true'] at h1;have h2:=h1 e (by simpa using he);rw [hb] at h2
  simpa using h2
 let I:(Nat->Bool)->Act->World->Prop:=fun d a W=>Done l.toArray d/\
  (d n=false->d (n+1)=false/\Old w0 W/\Fram n slot a0 a/\∀i,i<n->d i=true->Qs i W (a.eval (.tmp (slot i))))/\
  (d n=true->(∀i,i<n->d i=true)/\(d (n+1)=false->f.wp P a W (fun a2 W2=>Q .normal a2 W2) Q)/\(d (n+1)=true->Q .normal a W))
 refine Qcx hm I hord ⟨(fun i h=>by cases h),(fun _=>⟨rfl,Below.drew (Old.refl w0),⟨rfl,rfl,fun _ _=>rfl⟩,(fun i _ h=>by cases h)⟩),(fun h=>by cases h)⟩ ?_ ?_
 ·intro i o ho d a W hI hdi hd;have hgn:=List.all_eq_true.1 hg o (List.mem_of_getElem? (by simpa using ho))
  have hw:Region.wanted o (yielded l.toArray a.tmps)=true:=by
   cases h:o.guard with
   | none=>simp [Region.wanted,h]
   | some g=>rw [h] at hgn;cases hgn
  rw [if_pos hw]
  have hi:i<n+2:=by
   have:=(Array.getElem?_eq_some_iff.1 ho).1;omega
  obtain ⟨hC,hA,hB⟩:=hI;have hC':=hC.upd ho hd;rcases Nat.lt_trichotomy i n with h1 | h1 | h1
  ·cases hdn:d n with
   | true=>
     have:=(hB hdn).1 i h1;rw [this] at hdi
     cases hdi
   | false=>
     obtain ⟨hf0,g,hF,hq⟩:=hA hdn
     have key:∀(m:List Oper) (k:Nat),Qe3 P Q w0 n slot a0 Qs k m->∀(j:Nat) (o:Oper),m[j]? = some o->∀(a:Act) (W:World),Old w0 W->Fram n slot a0 a->(∀e∈o.after.toList,Region.binds .any e=true->Qs e.on W (a.eval (.tmp (slot e.on))))->o.wp P a W (fun a' W'=>∃v,a'=a.put (some (slot (k+j))) v/\Old W W'/\Qs (k+j) W' v) Q:=by
      intro m
      induction m with
      | nil=>intro k _ j o h;simp at h
      | cons x m ih=>
        intro k hs j o hj
        cases j with
        | zero=>
          simp at hj;subst hj;exact hs.1
        | succ j=>
          have:=ih (k+1) hs.2 j o (by simpa using hj);rw [show k+1+j=k+(j+1) by omega] at this;exact this
     have hst:=key (l.take n) 0 hstep i o (by rw [List.getElem?_take,if_pos h1];simpa using ho) a W g hF (fun e he hb=>hq e.on (by have:=hon i o ho e he hb;omega) (hd e he hb));rw [Nat.zero_add] at hst;refine Oper.wp_mono ?_ hst
     rintro a' W' ⟨v,rfl,g',hv⟩;refine ⟨hC',(fun _=>⟨(by rw [Qak d (by omega)];exact hf0),Old.trans g g',⟨by simp [Act.put,hF.size],by simp [Act.put,hF.defers],fun s hs=>by rw [Qav _ _ _ _ (hs i h1)];exact hF.same s hs⟩,(fun j hj hdj=>?_)⟩),(fun h=>by rw [Qak d (by omega),hdn] at h;cases h)⟩
     by_cases hji:j=i
     ·subst hji;rw [eval_put_same _ _ _ (by rw [hF.size];exact hslot j h1)];exact hv
     ·rw [Qav _ _ _ _ (fun e=>hji (hinj i j h1 hj e).symm)];rw [Qak d hji] at hdj;exact hQ j W W' _ (hq j hj hdj) g'
  ·subst h1
   have hot:o=t:=by
    have:l[i]? = some o:=by simpa using ho
    rw [ht] at this;exact (Option.some.inj this).symm
   subst hot;obtain ⟨hf0,g,hF,hq⟩:=hA hdi
   have hpre:=fun j hj=>by
    have h2:=List.all_eq_true.1 hall j (by simpa using hj)
    exact Qcz hC i _ (fun s hs=>by
     obtain ⟨e,e1,e2,e3⟩:=(Qcq ho s).1 hs;rw [<- e3];exact hd e e1 e2) j (by simpa using h2)
   refine Oper.wp_mono ?_ (hturn a W g hF (fun j hj=>hq j hj (hpre j hj)))
   intro a' W' hv;refine ⟨hC',(fun h=>by rw [upd_same] at h;cases h),(fun _=>⟨(fun j hj=>by rw [Qak d (by omega)];exact hpre j hj),(fun _=>hv),(fun h=>?_)⟩)⟩;rw [Qak d (by omega),hf0] at h
   cases h
  ·obtain rfl:i=n+1:=by omega
   have hof:o=f:=by
    have:l[n+1]? = some o:=by simpa using ho
    rw [hf] at this;exact (Option.some.inj this).symm
   subst hof
   have hdn:d n=true:=by
    obtain ⟨e,e1,e2,e3⟩:=(Qcq ho n).1 (by simpa using hft);rw [<- e3];exact hd e e1 e2
   obtain ⟨b1,b2,_⟩:=hB hdn;refine Oper.wp_mono ?_ (b2 hdi)
   intro a' W' hv;exact ⟨hC',(fun h=>by rw [Qak d (by omega),hdn] at h;cases h),(fun _=>⟨(fun j hj=>by rw [Qak d (by omega)];exact b1 j hj),(fun h=>by rw [upd_same] at h;cases h),(fun _=>hv)⟩)⟩
 ·intro d a W hd hI;obtain ⟨_,_,hB⟩:=hI;exact (hB (hd n (by omega))).2.2 (hd (n+1) (by omega))
end Go.Proofs.YthcidnnkakppcaaGreatDoor
