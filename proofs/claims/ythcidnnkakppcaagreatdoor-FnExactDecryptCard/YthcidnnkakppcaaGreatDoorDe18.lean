/- Proved: what its theorems say. -/
import Derived.Laws.CopyOwn
import Derived.Test.YthcidnnkakppcaaGreatDoorDe02
import Derived.Test.YthcidnnkakppcaaGreatDoorDe17
set_option linter.unusedVariables false
set_option linter.unusedSimpArgs false
set_option maxHeartbeats 4000000
set_option maxRecDepth 100000
namespace Go.Proofs.YthcidnnkakppcaaGreatDoor
open Go.ChangeShapes Go.WideShapes Go.ChangeAt Go.RowKit
open M2
theorem Qgt:(Tryz.prog.info? 3).map (·.size)=some 1:=by kernel_rfl
theorem Qqe (ls:List Nat) (c:Nat):(szA ls c).toList=ls.map (fun n:Nat=>Value.int .i64 (n:Int))++[Value.int .i64 (c:Int)]:=by simp [szA]
theorem Qrp {xs:List Nat} (h:xs.length<=80) (c:Nat):(splice (szA (ext []) c).toList 0 (xs.map (fun n:Nat=>Value.int .i64 (n:Int)))).toArray=szA (ext xs) c:=by
 unfold splice;rw [Qqe,List.take_zero,List.nil_append,Nat.zero_add,List.length_map];unfold szA ext;rw [List.drop_append_of_le_length (by simp;omega),List.nil_append,List.map_replicate,List.drop_replicate,List.map_append,List.map_replicate,List.append_assoc];rfl
theorem Q0s {xs:List Nat} (h:Nrm xs):pad (val xs)=ext xs/\cnt (val xs)=xs.length:=⟨by unfold pad;rw [Qea h],Qc2 h⟩
theorem Qqf (xs:List Nat):∀v∈xs.map (fun n:Nat=>Value.int .i64 (n:Int)),v.oneCell'=true:=by
 intro v hv;obtain ⟨n,_,rfl⟩:=List.mem_map.1 hv;rfl
theorem Q0t {w:World} {a0:Option Addr} {cap:Nat} {xs:List Nat} (h:Row w (.slice a0 xs.length cap) (toI xs)) (h0:0<xs.length) :
  ∃ad,a0=some ad/\ad.block<w.heap.size/\∀W,Old w W->∀(j:Nat) v,(xs.map (fun n:Nat=>Value.int .i64 (n:Int)))[j]? = some v->W.cell? (ad.add j)=some v:=by
 obtain ⟨b,o,rfl,hb,hc⟩:=Row.at h h0;refine ⟨_,rfl,hb,fun W g j v hj=>?_⟩
 have hjl:j<xs.length:=by
  have:=(List.getElem?_eq_some_iff.1 hj).1
  simpa using this
 have e2:v=.int .i64 ((xs.getD j 0:Nat):Int):=by
  simp [hjl] at hj;rw [<- hj];simp [List.getD,hjl]
 have:(⟨b,o,none⟩:Addr).add j=⟨b,o+j,none⟩:=by
  unfold Addr.add;split
  ·rename_i h;simp [h]
  ·rfl
 rw [e2,this,<- hc j hjl];exact g.cell (p:=⟨b,o+j,none⟩) hb
theorem Qb7 (n:Bool) (xs:List Nat) (v:Value) (w:World) (hv:Row w v (toI xs)) (hx:Nrm xs) (hl:xs.length≤79) :
  Calls Tryz.prog 74 #[.agg #[.bool n,v]] w fun e w'=>e=.returned (.agg (szV (val xs)))/\Old w w':=by
 have HV:=Qaa hv;obtain ⟨a0,cap0,rfl⟩:=hv.sliceN;clear hv;obtain ⟨p1,p2⟩:=Q0s hx;unfold szV;rw [p1,p2];clear p1 p2;have HPX:Hid ((ext xs).length=80):=Qdy (by omega);have HPE:Hid ((ext ([]:List Nat)).length=80):=Qdy (by simp)
 have HN:Hid ((xs.map (fun n:Nat=>Value.int .i64 (n:Int))).length=Nat.min xs.length 80):=by
  show (xs.map (fun n:Nat=>Value.int .i64 (n:Int))).length=min xs.length 80
  simp;omega
 have HFIT:Hid (0+(xs.map (fun n:Nat=>Value.int .i64 (n:Int))).length<=(szA (ext []) 0).toList.length):=by
  show 0+(xs.map (fun n:Nat=>Value.int .i64 (n:Int))).length<=(szA (ext []) 0).toList.length
  rw [Qqe];simp [HPE.out];omega
 have HSP:Hid ((splice (szA (ext []) 0).toList 0 (xs.map (fun n:Nat=>Value.int .i64 (n:Int)))).toArray=szA (ext xs) 0):=Qrp (by omega) 0;have HLN:Hid ((xs.map (fun n:Nat=>Value.int .i64 (n:Int))).length=xs.length):=List.length_map _;have HONE:=Qaa (Qqf xs);obtain ⟨cs,hcs⟩:∃cs,cs=xs.map (fun n:Nat=>Value.int .i64 (n:Int)):=⟨_,rfl⟩
 rw [<- hcs] at HN HFIT HSP HLN HONE
 have HCS:Hid (0<cs.length->∃ad,a0=some ad/\ad.block<w.heap.size/\∀W,Old w W->∀(j:Nat) v,cs[j]? = some v->W.cell? (ad.add j)=some v):=fun h0=>by
  rw [hcs] at h0 ⊢;exact Q0t HV.out (by simpa using h0)
 clear hcs;obtain ⟨cur,hcur⟩:∃cur,cur=(szA (ext []) 0).toList:=⟨_,rfl⟩
 rw [<- hcur] at HFIT HSP;have HCUR:Hid (cur.toArray=szA (ext []) 0):=by rw [hcur];exact Array.toArray_toList
 clear hcur;have HW1:Hid (∀A B C k,Old w ((((w.alloc (.cells A 65)).alloc (.cells B 103)).alloc (.cells C 103)).drewN k)):=fun A B C k=>((((Old.refl w).alloc _).alloc _).alloc _).drewN _
 have HB1:Hid (∀A B k,((((w.alloc (.cells A 65)).alloc (.cells B 103)).alloc (.cells Tryz.zeroCells103 103)).drewN k).heap[w.heap.size+1+1]? = some (.cells cur.toArray 103 (0,0))):=fun A B k=>by
  rw [HCUR.out];exact (Sz.zero ((w.alloc (.cells A 65)).alloc (.cells B 103)) (w.heap.size+1+1) (by simp)).blk
 have HR1:Hid (∀A C k,Sz ((((w.alloc (.cells A 65)).alloc (.cells Tryz.zeroCells103 103)).alloc (.cells C 103)).drewN k) (w.heap.size+1) (ext []) 0):=fun A C k=>((Sz.zero (w.alloc (.cells A 65)) (w.heap.size+1) (by simp)).alloc _).drew _
 go_enter Tryz.func74,Tryz.ntmps74;go_wp2_with fail
 go_region_law (refine step_copy_splice rfl (.tmp 5) (.tmp 7) 22 22 rfl 3 Tryz.underlying22 Qgt (some ⟨w.heap.size+1+1,0,none⟩) a0 80 80 xs.length cap0 (by simp [Act.eval,Act.put]) (by simp [Act.eval,Act.put]) (w.heap.size+1+1) 0 cur 103 (HB1.out _ _ 1) cs HN.out (fun h0=>⟨rfl,by obtain ⟨ad,h1,_,h3⟩:=HCS.out h0;exact ⟨ad,h1,h3 _ (HW1.out _ _ _ 1)⟩⟩) HFIT.out HONE.out (w.heap.size+1+1) _ (Below.refl _ _) (Nat.le_refl _) ?_;intro w4 hg4 hb4;have S4:Sz w4 (w.heap.size+1+1) (ext xs) 0:=⟨by rw [<- HSP.out];exact hg4.out,HPX.out⟩;have c4:=S4.cnt;have f4:=S4.fro 80;have H4:=Qaa S4;have R4:Hid (Sz w4 (w.heap.size+1) (ext []) 0):=⟨by rw [hb4.block (w.heap.size+1) (by omega)];exact (HR1.out _ _ 1).blk,HPE.out⟩;have G4:Hid (Old w w4):=Below.trans (HW1.out _ _ _ 1) (hb4.mono (by omega));clear hg4 hb4 S4)
 all_goals
  have HD:Hid (Sz (w4.setCell ⟨w.heap.size+1+1,80,none⟩ (.int .i64 (cs.length:Int))) (w.heap.size+1+1) (ext xs) cs.length):=H4.out.setc _;have HR:Hid (Sz (w4.setCell ⟨w.heap.size+1+1,80,none⟩ (.int .i64 (cs.length:Int))) (w.heap.size+1) (ext []) 0):=R4.out.other _ (by simp) _;have HG:Hid (Old w (w4.setCell ⟨w.heap.size+1+1,80,none⟩ (.int .i64 (cs.length:Int)))):=G4.out.own (by simp;omega) _;clear c4 f4 H4 R4 G4;go_wp2_with (first | ((with_reducible refine Qaq HD.out ?_ ?_);exact rfl;simp only [Act.put,List.setIfInBounds_toArray,List.set_cons_succ,List.set_cons_zero]) | ((with_reducible refine Qap HR.out (ext xs) cs.length HPX.out ?_ ?_ ?_);exact rfl;exact rfl;simp only [Act.put]) | ((with_reducible refine bodyPost_ret (Qdf Tryz.results74 _ _ ?_ (HR.out.row (ext xs) cs.length HPX.out)) ?_ ?_);exact rfl;exact rfl;exact ⟨by rw [HLN.out],HG.out.row (by omega) _⟩))
theorem Qwt {w:World} {base g n:Nat} {xs:List Value} (h:w.ownsRow base 3 1 (.slice (some ⟨g,0,none⟩) n n) n xs):∃cur:List Value,w.heap[g]? = some (.cells cur.toArray 3 (0,0))/\cur.length=n:=by
 rcases h.2 with ⟨e,_⟩ | ⟨g',cap,cur,e,_,hg,_,_,hs,_⟩
 ·cases e
 ·simp only [Value.slice.injEq,Option.some.injEq,Addr.mk.injEq] at e;obtain ⟨⟨rfl,_⟩,_,rfl⟩:=e;exact ⟨cur.toList,by simpa using hg,by simpa using hs⟩
theorem Qrq {α:Type} (L cs:List α) (h:L.length=cs.length):splice L 0 cs=cs:=by
 unfold splice;rw [List.take_zero,List.nil_append,Nat.zero_add,<- h,List.drop_length,List.append_nil]
theorem Q2s {w:World} {base g:Nat} {xs:List Nat} (hg:w.heap[g]? = some (.cells (xs.map (fun n:Nat=>Value.int .i64 (n:Int))).toArray 3 (0,0))) (hb:base<=g) (hl:xs.length<=80):Own w base (.slice (some ⟨g,0,none⟩) xs.length xs.length) (toI xs):=by
 unfold Own;rw [Qam];refine ⟨by simp [toI],Or.inr ⟨g,xs.length,_,rfl,hb,hg,Nat.le_refl _,by unfold maxLen;omega,by simp,?_⟩⟩;rw [Nat.mul_one];simp only [toI,List.map_map];exact List.take_of_length_le (by simp)
theorem Q2t {w:World} {g n:Nat} (h:Sz w g (pad n) (cnt n)) (hn:cnt n<=80):∀(j:Nat) v,((dig n).map (fun n:Nat=>Value.int .i64 (n:Int)))[j]? = some v->w.cell? ((⟨g,0,none⟩:Addr).add j)=some v:=by
 intro j v hj
 have hjl:j<(dig n).length:=by
  have:=(List.getElem?_eq_some_iff.1 hj).1
  simpa using this
 have e2:v=.int .i64 (((dig n).getD j 0:Nat):Int):=by
  simp [hjl] at hj;rw [<- hj];simp [List.getD,hjl]
 have:(⟨g,0,none⟩:Addr).add j=⟨g,j,none⟩:=by
  unfold Addr.add;split
  ·rename_i h;simp [h]
  ·simp
 rw [e2,this,h.at (j:=j) (by unfold cnt at hn;omega),Qck]
theorem Qwu {ops:Array Oper} {rest:List Oper} {a:Act} {w:World} {Q:Exit→Act→World→Prop} {ty:TypeId} {pos:String} {d:Option Tmp} {x y:Operand} {af:Array Edge}
  (g k n:Nat) (cur:List Value) (hx:a.eval x=.slice (some ⟨g,0,none⟩) k k) (hy:a.eval y=.slice (some ⟨n,0,none⟩) 80 80) (hg:w.heap[g]? = some (.cells cur.toArray 3 (0,0))) (cs:List Value) (hk:cs.length=k) (h80:k<=80)
  (hsrc:∀(j:Nat) v,cs[j]? = some v->w.cell? ((⟨n,0,none⟩:Addr).add j)=some v) (hcl:cur.length=k) (h1:∀v∈cs,v.oneCell'=true)
  (h:∀w',Hid (w'.heap[g]? = some (.cells cs.toArray 3 (0,0)))->Below g w w'->wpList Tryz.prog ops Q rest (a.put d (goInt k)) w') :
  wpList Tryz.prog ops Q (⟨d,.call {callee:=.builtin .copy,args:=#[x,y],argTypes:=#[22,22]},ty,pos,af,none⟩ :: rest) a w:=by
 refine wpList_copy_splice rfl x y 22 22 rfl 3 Tryz.underlying22 Qgt _ _ _ _ _ _ hx hy g 0 cur 3 hg cs (by rw [hk];exact (Nat.min_eq_right h80).symm) (fun _=>⟨rfl,_,rfl,hsrc⟩) (by rw [hk,hcl];omega) h1 g w (Below.refl _ _) (Nat.le_refl _) ?_
 intro w' hg' hb';rw [hk];refine h w' ?_ hb'
 have:=hg'.out;rw [Qrq cur cs (by rw [hk,hcl])] at this;exact this
theorem Qdu (neg:Bool) (w:World) :
  Calls Tryz.prog 60 #[.bool neg,.agg (szV 0)] w fun e w'=>e=.returned (.agg #[.bool false,.slice none 0 0])/\Old w w':=by
 have c0:=Qda;have HL:=Qab (n:=0) (k:=80) (by rw [c0];omega) (by omega);have a80:=Qb2 HL (cnt 0);rw [c0] at a80;unfold szV;rw [c0];clear c0;go_enter Tryz.func60,Tryz.ntmps60;go_wp2_with fail;refine bodyPost_ret (v:=.agg #[.bool false,.slice none 0 0]) (by simp [results,Tryz.results60,go_sem]) rfl ⟨rfl,?_⟩;exact ((Old.refl w).alloc _).alloc _
theorem Qci (neg:Bool) (n:Nat) (w:World) (h0:n≠0) (hn:cnt n≤80) :
  Calls Tryz.prog 60 #[.bool neg,.agg (szV n)] w fun e w'=>∃v,e=.returned (.agg #[.bool neg,v])/\Old w w'/\Own w' w.heap.size v (toI (dig n)):=by
 obtain ⟨i0,hi,hz0,hz1,hz2⟩:=info_parts Tryz.infoInt;have hc0:=Qf5 h0;have HL:=Qab hn (by omega);have a80:=Qb2 HL (cnt n);have d0:((cnt n:Int)==0)=false:=by simp;omega
 have HS0:Hid (Sz ((w.alloc (.cells (szA (pad n) (cnt n)) 103)).alloc (.cells #[.bool false,.slice none 0 0] 65)) w.heap.size (pad n) (cnt n)):=(Sz.new w _ _ HL).alloc _
 have HT0:Hid (StW ((w.alloc (.cells (szA (pad n) (cnt n)) 103)).alloc (.cells #[.bool false,.slice none 0 0] 65)) (w.heap.size+1) (.bool false) (.slice none 0 0) 65):=by
  have:=StW.new (w.alloc (.cells (szA (pad n) (cnt n)) 103)) (.bool false) (.slice none 0 0) 65;rw [show (w.alloc (.cells (szA (pad n) (cnt n)) 103)).heap.size=w.heap.size+1 by simp] at this;exact this
 have HW0:Hid (Old w ((w.alloc (.cells (szA (pad n) (cnt n)) 103)).alloc (.cells #[.bool false,.slice none 0 0] 65))):=((Old.refl w).alloc _).alloc _;have hsz:((w.alloc (.cells (szA (pad n) (cnt n)) 103)).alloc (.cells #[.bool false,.slice none 0 0] 65)).heap.size=w.heap.size+1+1:=by simp
 have HONE:Hid (∀v∈(dig n).map (fun n:Nat=>Value.int .i64 (n:Int)),v.oneCell'=true):=Qqf _;have HLN:Hid (((dig n).map (fun n:Nat=>Value.int .i64 (n:Int))).length=cnt n):=List.length_map _;obtain ⟨cs,hcs⟩:∃cs,cs=(dig n).map (fun n:Nat=>Value.int .i64 (n:Int)):=⟨_,rfl⟩
 have HCS:=Qaa hcs;rw [<- hcs] at HONE HLN;have HSZ:=Qaa hsz;clear hcs hsz;unfold szV;go_enter Tryz.func60,Tryz.ntmps60
 go_wp2_with (first
  | (at_make;refine wpList_make_full _ rfl _ _ 22 rfl (w.heap.size+1+1) 3 i0 (.int .i64 0) 1 Tryz.underlying22 hi hz0 hz1 .i64 .i64 _ _ (cnt n) rfl rfl rfl rfl (by rw [hz2];omega) (by unfold maxLen;omega) (by simp) ?_;intro w1 hown hgrow;obtain ⟨cur,hcur,hcl⟩:=Qwt hown;rw [HSZ.out] at hcur;have HC1:=Qaa hcur;have HCL:=Qaa hcl;have HG1:Hid (Old ((w.alloc (.cells (szA (pad n) (cnt n)) 103)).alloc (.cells #[.bool false,.slice none 0 0] 65)) w1):=Qbg hgrow;clear hown hgrow hcur hcl;simp only [Act.put,List.setIfInBounds_toArray,List.set_cons_succ,List.set_cons_zero];rw [HSZ.out])
  | ((with_reducible refine Qwu (w.heap.size+1+1) (cnt n) w.heap.size cur ?_ ?_ HC1.out cs HLN.out hn ?_ HCL.out HONE.out ?_);exact rfl;exact rfl;(rw [HCS.out];exact Q2t (HS0.out.old HG1.out) hn);intro w2 hg2 hb2;have HT2:Hid (StW w2 (w.heap.size+1) (.bool false) (.slice none 0 0) 65):=(hb2.block (w.heap.size+1) (by omega)).trans (HT0.out.old HG1.out);have t0:=HT2.out.c0;have t1:=HT2.out.c1;have u0:=HT2.out.f0;have u1:=HT2.out.f1;have HG2:Hid (Old w w2):=Below.trans (Old.trans HW0.out HG1.out) (hb2.mono (by omega));have HB2:=hg2;clear hg2 hb2;simp only [Act.put,List.setIfInBounds_toArray,List.set_cons_succ,List.set_cons_zero]))
 refine bodyPost_ret (v:=.agg #[.bool neg,.slice (some ⟨w.heap.size+1+1,0,none⟩) (cnt n) (cnt n)]) (by simp [results,Tryz.results60,go_sem,t0,t1]) rfl ⟨_,rfl,?_,?_⟩
 ·exact (HG2.out.own (p:=⟨w.heap.size+1,0,none⟩) (by simp) _).own (p:=⟨w.heap.size+1,1,none⟩) (by simp) _
 ·refine Q2s (g:=w.heap.size+1+1) ?_ (by omega) (by unfold cnt at hn;omega)
  rw [heap_setCell_other _ _ _ _ (by simp),heap_setCell_other _ _ _ _ (by simp),HB2.out,HCS.out]
def Qfv (neg:Bool) (n:Nat):Bool×List Nat×Bool:=if cnt n<=40 then (neg&&decide (n≠0),dig n,true) else (false,[],false)
theorem Qty (neg:Bool) (n:Nat) (w:World) (hn:cnt n≤80) (h40:40<cnt n) :
  Calls Tryz.prog 106 #[.bool neg,.agg (szV n)] w fun e w'=>e=.returned (.tuple #[.agg #[.bool false,.slice none 0 0],.bool false])/\Old w w':=by
 have HL:=Qab hn (by omega);have a80:=Qb2 HL (cnt n);have HW0:Hid (Old w ((w.alloc (.cells (szA (pad n) (cnt n)) 103)).alloc (.cells #[.bool false,.slice none 0 0] 65))):=((Old.refl w).alloc _).alloc _;clear HL;have d0:decide ((40:Int)<(cnt n:Int))=true:=Qsm (by omega);unfold szV;go_enter Tryz.func106,Tryz.ntmps106;go_wp2_with fail;refine bodyPost_ret (v:=.tuple #[.agg #[.bool false,.slice none 0 0],.bool false]) (by simp [results,Tryz.results106,go_sem]) rfl ⟨rfl,?_⟩;exact HW0.out
theorem Qrr (neg b:Bool) (n:Nat) (w:World) (hn:cnt n≤40) (hb:b=(neg&&decide (n≠0))) :
  Calls Tryz.prog 106 #[.bool neg,.agg (szV n)] w fun e w'=>∃v,e=.returned (.tuple #[.agg #[.bool b,v],.bool true])/\Old w w'/\Own w' w.heap.size v (toI (dig n)):=by
 have HC:Hid (∀W,Calls Tryz.prog 60 #[.bool neg,.agg (szV n)] W fun e w'=>∃v,e=.returned (.agg #[.bool b,v])/\Old W w'/\Own w' W.heap.size v (toI (dig n))):=fun W=>by
  by_cases h0:n=0
  ·subst h0;refine (Qdu neg W).mono ?_
   rintro e w' ⟨rfl,g⟩;have hb':b=false:=by rw [hb];simp
   rw [hb'];refine ⟨.slice none 0 0,rfl,g,?_⟩;rw [Qax];exact ⟨rfl,Or.inl ⟨rfl,rfl⟩⟩
  ·refine (Qci neg n W h0 (by omega)).mono ?_
   rintro e w' ⟨v,rfl,g,o⟩;have hb':b=neg:=by rw [hb];simp [h0]
   rw [hb'];exact ⟨v,rfl,g,o⟩
 have hn:cnt n<=80:=by omega
 have HL:=Qab hn (by omega);have a80:=Qb2 HL (cnt n);have HS0:Hid (Sz ((w.alloc (.cells (szA (pad n) (cnt n)) 103)).alloc (.cells #[.bool false,.slice none 0 0] 65)) w.heap.size (pad n) (cnt n)):=(Sz.new w _ _ HL).alloc _
 have HT0:Hid (StW ((w.alloc (.cells (szA (pad n) (cnt n)) 103)).alloc (.cells #[.bool false,.slice none 0 0] 65)) (w.heap.size+1) (.bool false) (.slice none 0 0) 65):=by
  have:=StW.new (w.alloc (.cells (szA (pad n) (cnt n)) 103)) (.bool false) (.slice none 0 0) 65;rw [show (w.alloc (.cells (szA (pad n) (cnt n)) 103)).heap.size=w.heap.size+1 by simp] at this;exact this
 have HW0:Hid (Old w ((w.alloc (.cells (szA (pad n) (cnt n)) 103)).alloc (.cells #[.bool false,.slice none 0 0] 65))):=((Old.refl w).alloc _).alloc _;clear HL;have d0:decide ((40:Int)<(cnt n:Int))=false:=Qx7 (by omega);clear hb;unfold szV at *;go_enter Tryz.func106,Tryz.ntmps106;go_wp2_with (first | ((with_reducible refine Qaq HS0.out ?_ ?_);exact rfl;simp only [Act.put,List.setIfInBounds_toArray,List.set_cons_succ,List.set_cons_zero]) | (go_at_call 60;refine (HC.out _).mono ?_;rintro e w2 ⟨v2,rfl,g2,o2⟩;obtain ⟨a2,cap2,rfl⟩:=(Own.row o2).sliceN;have S2:=Qaa (HT0.out.old g2);have HG2:=Qaa (Old.trans HW0.out g2);have HO2:Hid (Own w2 (w.heap.size+1+1) (.slice a2 (dig n).length cap2) (toI (dig n))):=Own.low o2 (by simp);have s0:=S2.out.c0;have s1:=S2.out.c1;have f0:=S2.out.f0;have f1:=S2.out.f1;clear g2 o2));refine bodyPost_ret (v:=.tuple #[.agg #[.bool b,.slice a2 (dig n).length cap2],.bool true]) (by simp [results,Tryz.results106,go_sem,s0,s1]) rfl ⟨_,rfl,?_,?_⟩
 ·exact (HG2.out.own (p:=⟨w.heap.size+1,0,none⟩) (by simp) _).own (p:=⟨w.heap.size+1,1,none⟩) (by simp) _
 ·refine Own.low (base:=w.heap.size+1+1) (ownsRow_setCell_other (ownsRow_setCell_other HO2.out (fun e=>?_) _) (fun e=>?_) _) (by omega)
  ·have:=(HO2.out.lt (w.heap.size+1) e).1;omega
  ·have:=(HO2.out.lt (w.heap.size+1) e).1;omega
theorem Qev (neg:Bool) (n:Nat) (w:World) (hn:cnt n≤80) :
  Calls Tryz.prog 106 #[.bool neg,.agg (szV n)] w fun e w'=>∃v,e=.returned (.tuple #[.agg #[.bool (Qfv neg n).1,v],.bool (Qfv neg n).2.2])/\Old w w'/\Own w' w.heap.size v (toI (Qfv neg n).2.1):=by
 by_cases h40:cnt n<=40
 ·have e:Qfv neg n=(neg&&decide (n≠0),dig n,true):=by unfold Qfv;rw [if_pos h40]
  rw [e];exact Qrr neg _ n w h40 rfl
 ·have e:Qfv neg n=(false,[],false):=by unfold Qfv;rw [if_neg h40]
  rw [e];refine (Qty neg n w hn (by omega)).mono ?_
  rintro e w' ⟨rfl,g⟩;exact ⟨_,rfl,g,rfl,Or.inl ⟨rfl,rfl⟩⟩
theorem Qtz (z:Int) (w:World) (h0 : -9223372036854775808≤z) (h1:z≤9223372036854775807) :
  Calls Tryz.prog 76 #[.int .i64 z] w fun e w'=>∃v',e=.returned (.agg #[.bool (ng z),v'])/\Old w w'/\Own w' w.heap.size v' (toI (dg z)):=by
 have HS0:Hid (StW (w.alloc (.cells #[.bool false,.slice none 0 0] 65)) w.heap.size (.bool false) (.slice none 0 0) 65):=StW.new w _ _ _;have HA:Hid (Old w (w.alloc (.cells #[.bool false,.slice none 0 0] 65))):=(Old.refl w).alloc _
 by_cases hz:z<0
 ·have e0:ng z=true:=decide_eq_true hz;obtain ⟨k,hk⟩:∃k:Nat,z = -(k:Int):=⟨z.natAbs,by omega⟩
  have e1:dg z=dig k:=by unfold dg;congr 1;omega
  rw [e0,e1];subst hk;have hk0:k≠0:=by omega
  have hk1:k<18446744073709551616:=by omega
  clear e0 e1
  have hwr:IntKind.u64.wrap (-IntKind.u64.wrap (-(k:Int)))=(k:Int):=by
   rw [IntKind.wrap_u64,IntKind.wrap_u64];omega
  go_enter Tryz.func76,Tryz.ntmps76;go_wp2_with fail
  try rw [hwr]
  refine (Qdt k _ hk1).mono ?_
  rintro e w1 ⟨rfl,g1⟩;go_wp2_with fail;refine (Qci true k _ hk0 (by have:=Qcn hk1;omega)).mono ?_
  rintro e w2 ⟨v2,rfl,g2,o2⟩;have g2':=g2;have S2:=Qaa ((HS0.out.old g1).old g2');have HG2:=Qaa (Old.trans (Old.trans HA.out g1) g2');have hsz:=(HS0.out.old g1).lt;obtain ⟨a2,cap2,rfl⟩:=(Own.row o2).sliceN;have HO2:=Qaa o2;clear g2 o2;have s0:=S2.out.c0;have s1:=S2.out.c1;have f0:=S2.out.f0;have f1:=S2.out.f1;clear g1 g2';go_wp2_with fail;refine bodyPost_ret (v:=.agg #[.bool true,.slice a2 (dig k).length cap2]) (by simp [results,Tryz.results76,go_sem,s0,s1]) rfl ⟨_,rfl,?_,?_⟩
  ·exact (HG2.out.own (p:=⟨w.heap.size,0,none⟩) (by simp) _).own (p:=⟨w.heap.size,1,none⟩) (by simp) _
  ·refine Own.low (base:=w1.heap.size) (ownsRow_setCell_other (ownsRow_setCell_other HO2.out (fun e=>?_) _) (fun e=>?_) _) (by omega)
   ·have:=(HO2.out.lt w.heap.size e).1;omega
   ·have:=(HO2.out.lt w.heap.size e).1;omega
 ·have e0:ng z=false:=decide_eq_false hz;obtain ⟨k,hk⟩:∃k:Nat,z=(k:Int):=⟨z.natAbs,by omega⟩
  have e1:dg z=dig k:=by unfold dg;congr 1;omega
  rw [e0,e1];subst hk;have hk1:k<18446744073709551616:=by omega
  clear e0 e1
  have hwr:IntKind.u64.wrap (k:Int)=(k:Int):=by
   rw [IntKind.wrap_u64];omega
  by_cases hk0:k=0
  ·subst hk0;rw [Qax];go_enter Tryz.func76,Tryz.ntmps76;go_wp2_with fail;refine (Qdt 0 _ hk1).mono ?_
   rintro e w1 ⟨rfl,g1⟩;go_wp2_with fail;refine (Qdu false _).mono ?_
   rintro e w2 ⟨rfl,g2⟩;have g2':=g2;have S2:=Qaa ((HS0.out.old g1).old g2');have HG2:=Qaa (Old.trans (Old.trans HA.out g1) g2');clear g2;have s0:=S2.out.c0;have s1:=S2.out.c1;have f0:=S2.out.f0;have f1:=S2.out.f1;clear g1 g2';go_wp2_with fail;refine bodyPost_ret (v:=.agg #[.bool false,.slice none 0 0]) (by simp [results,Tryz.results76,go_sem,s0,s1]) rfl ⟨_,rfl,?_,?_⟩
   ·exact (HG2.out.own (p:=⟨w.heap.size,0,none⟩) (by simp) _).own (p:=⟨w.heap.size,1,none⟩) (by simp) _
   ·exact ⟨rfl,Or.inl ⟨rfl,rfl⟩⟩
  ·skip
   go_enter Tryz.func76,Tryz.ntmps76;go_wp2_with fail
   try rw [hwr]
   refine (Qdt k _ hk1).mono ?_
   rintro e w1 ⟨rfl,g1⟩;go_wp2_with fail;refine (Qci false k _ hk0 (by have:=Qcn hk1;omega)).mono ?_
   rintro e w2 ⟨v2,rfl,g2,o2⟩;have g2':=g2;have S2:=Qaa ((HS0.out.old g1).old g2');have HG2:=Qaa (Old.trans (Old.trans HA.out g1) g2');have hsz:=(HS0.out.old g1).lt;obtain ⟨a2,cap2,rfl⟩:=(Own.row o2).sliceN;have HO2:=Qaa o2;clear g2 o2;have s0:=S2.out.c0;have s1:=S2.out.c1;have f0:=S2.out.f0;have f1:=S2.out.f1;clear g1 g2';go_wp2_with fail;refine bodyPost_ret (v:=.agg #[.bool false,.slice a2 (dig k).length cap2]) (by simp [results,Tryz.results76,go_sem,s0,s1]) rfl ⟨_,rfl,?_,?_⟩
   ·exact (HG2.out.own (p:=⟨w.heap.size,0,none⟩) (by simp) _).own (p:=⟨w.heap.size,1,none⟩) (by simp) _
   ·refine Own.low (base:=w1.heap.size) (ownsRow_setCell_other (ownsRow_setCell_other HO2.out (fun e=>?_) _) (fun e=>?_) _) (by omega)
    ·have:=(HO2.out.lt w.heap.size e).1;omega
    ·have:=(HO2.out.lt w.heap.size e).1;omega
end Go.Proofs.YthcidnnkakppcaaGreatDoor
