/- Proved: what its theorems say. -/
import Derived.Test.YtanijpekdnkicaaGreatDoorTc17
import Derived.Test.YtanijpekdnkicaaGreatDoorTc18
import Derived.Test.YtanijpekdnkicaaGreatDoorTc10
import Derived.Test.YtanijpekdnkicaaGreatDoorTc19
import Derived.Test.YtanijpekdnkicaaGreatDoorTc00
import Derived.Test.YtanijpekdnkicaaGreatDoorTc01
import Derived.Deep.RegionWith
import Derived.Deep.RegionLawGrows
import Derived.Test.YtanijpekdnkicaaGreatDoorTc02
import Derived.Deep.WholeRow
import Derived.Laws.ResultCell
namespace Go.Proofs.YtanijpekdnkicaaGreatDoor
open Go.ChangeShapes Go.WideShapes Go.ChangeAt Go.RowKit
open M2
set_option linter.unusedVariables false
set_option linter.unusedSimpArgs false
def prodN (ps:List Nat):Nat:=ps.foldl (fun a p=>a*p) 1
theorem prodN_snoc (ps:List Nat) (p:Nat):prodN (ps++[p])=prodN ps*p:=by simp [prodN,List.foldl_append]
theorem prodN_take (ps:List Nat) (k:Nat) (h:k<ps.length):prodN (ps.take (k+1))=prodN (ps.take k)*ps.getD k 0:=by
 rw [← prodN_snoc]
 congr 1
 rw [List.take_add_one]
 congr 1
 simp [List.getD,h]
theorem prodN_le (ps:List Nat) (hb:∀p∈ps,p≤268435456):∀k,k≤ps.length→prodN (ps.take k)≤LB^k
 | 0,_=>by simp [prodN]
 | k+1,h=>by
   rw [prodN_take ps k (by omega),Nat.pow_succ]
   have h1:=prodN_le ps hb k (by omega)
   have h2:ps.getD k 0≤LB:=by
    have:ps.getD k 0∈ps:=by simp [List.getD,show k<ps.length by omega]
    exact hb _ this
   exact Nat.mul_le_mul h1 h2
theorem prodN_cnt (ps:List Nat) (hb:∀p∈ps,p≤268435456) (k:Nat) (h:k≤ps.length):cnt (prodN (ps.take k))≤k+1:=by
 refine cnt_le (Nat.lt_of_le_of_lt (prodN_le ps hb k h) ?_)
 rw [Nat.pow_succ]
 have h1:0<LB^k:=pw k
 have h2:LB^k*2≤LB^k*LB:=Nat.mul_le_mul_left _ (by decide)
 omega
set_option maxHeartbeats 2000000 in
theorem times_sz (a p:Nat) (w:World) (ha:cnt a≤40) (hp:p≤268435456) :
 Calls Tryz.prog 111 #[.agg (szV a),.int .i64 (p:Int)] w fun e w'=>e=.returned (.agg (szV (a*p)))∧Old w w':=by
 have HPA:Hid ((pad a).length=80):=pad_len' ha (by omega)
 have c:=fun W=>scaled_sz a p 0 W (by omega) hp (by omega)
 rw [Nat.add_zero] at c
 have HPR:Hid ((pad (a*p)).length=80):=by
  have h1:cnt (a*p)≤41:=by
   refine cnt_le ?_
   have h2:=cnt_lt a
   have h3:LB^cnt a≤LB^40:=Nat.pow_le_pow_right LB_pos ha
   have h4:a*p<LB^40*LB:=by
    rcases Nat.eq_zero_or_pos p with h0 | h0
    ·subst h0;simp;exact Nat.mul_pos (pw 40) LB_pos
    ·exact Nat.mul_lt_mul_of_lt_of_le (by omega) hp LB_pos
   rw [Nat.pow_succ]
   exact h4
  exact pad_len' h1 (by omega)
 have H1:Hid (Sz ((w.alloc (.cells (szA (pad a) (cnt a)) 131)).alloc (.cells Tryz.zeroCells131 131)) w.heap.size (pad a) (cnt a)):=(Sz.new w _ _ HPA.out).alloc _
 have HR:Hid (Sz ((w.alloc (.cells (szA (pad a) (cnt a)) 131)).alloc (.cells Tryz.zeroCells131 131)) (w.heap.size+1) (ext []) 0):=Sz.zero _ _ (by simp)
 have HG:Hid (Old w ((w.alloc (.cells (szA (pad a) (cnt a)) 131)).alloc (.cells Tryz.zeroCells131 131))):=((Old.refl w).alloc _).alloc _
 unfold szV at *
 generalize a*p=r at *
 go_enter Tryz.func111,Tryz.ntmps111
 go_wp2_with (first | ((with_reducible refine load_sz H1.out ?_ ?_);exact rfl;simp only [Act.put,List.setIfInBounds_toArray,List.set_cons_succ,List.set_cons_zero]) | (go_at_call 112;refine (c _).mono ?_;rintro e w5 ⟨rfl,g5⟩;have HR5:Hid (Sz w5 (w.heap.size+1) (ext []) 0):=HR.out.old g5;have HG5:Hid (Old w w5):=Old.trans HG.out g5;clear g5) | ((with_reducible refine store_sz HR5.out (pad r) (cnt r) HPR.out ?_ ?_ ?_);exact rfl;exact rfl;simp only [Act.put]) | ((with_reducible refine bodyPost_ret (ret_sz Tryz.results111 _ _ ?_ (HR5.out.row (pad r) (cnt r) HPR.out)) ?_ ?_);exact rfl;exact rfl;exact ⟨rfl,HG5.out.row (by omega) _⟩))
set_option maxRecDepth 100000 in
set_option maxHeartbeats 4000000 in
theorem all_sz (ps:List Nat) (v:Value) (w:World) (hv:Row w v (toZ ps)) (hl:ps.length≤6) (hb:∀p∈ps,p≤268435456) :
 Calls Tryz.prog 110 #[.func (.func 111) #[] #[],.agg (szV 1),v] w fun e w'=>e=.returned (.agg (szV (prodN ps)))∧Old w w':=by
 have HP1:Hid ((pad 1).length=80):=pad_len' (n:=1) (k:=3) (cnt_word (by omega)) (by omega)
 have H1:Hid (Sz ((w.alloc (.cells (szA (pad 1) (cnt 1)) 131)).alloc (.cells Tryz.zeroCells131 131)) w.heap.size (pad 1) (cnt 1)):=(Sz.new w _ _ HP1.out).alloc _
 have HZ:Hid (Sz (((w.alloc (.cells (szA (pad 1) (cnt 1)) 131)).alloc (.cells Tryz.zeroCells131 131)).alloc (.cells Tryz.zeroCells131 131)) (w.heap.size+1+1) (ext []) 0):=Sz.zero _ _ (by simp)
 have HY:Hid (Sz (((w.alloc (.cells (szA (pad 1) (cnt 1)) 131)).alloc (.cells Tryz.zeroCells131 131)).alloc (.cells Tryz.zeroCells131 131)) (w.heap.size+1) (ext []) 0):=(Sz.zero _ _ (by simp)).alloc _
 have HG0:Hid (Old w (((w.alloc (.cells (szA (pad 1) (cnt 1)) 131)).alloc (.cells Tryz.zeroCells131 131)).alloc (.cells Tryz.zeroCells131 131))):=(((Old.refl w).alloc _).alloc _).alloc _
 have HC:Hid (∀k,k≤ps.length→cnt (prodN (ps.take k))≤7):=fun k h=>Nat.le_trans (prodN_cnt ps hb k h) (by omega)
 have HB:Hid (∀p∈ps,p≤268435456):=hb
 have HN:Hid (prodN (ps.take 0)=1):=rfl
 have HV:Hid (Row w v (toZ ps)):=hv
 obtain ⟨r,hr⟩:∃r,prodN ps=r:=⟨_,rfl⟩
 rw [hr]
 have HRR:Hid (prodN ps=r):=hr
 clear hr
 obtain ⟨va,vc,rfl⟩:∃a c,v=.slice a ps.length c:=by have:=hv.slice;rwa [toZ_len] at this
 clear hb hv
 unfold szV
 go_enter Tryz.func110,Tryz.ntmps110
 go_wp2_with (first | ((with_reducible refine load_sz H1.out ?_ ?_);exact rfl;simp only [Act.put,List.setIfInBounds_toArray,List.set_cons_succ,List.set_cons_zero]) | ((with_reducible refine store_sz HZ.out (pad 1) (cnt 1) HP1.out ?_ ?_ ?_);exact rfl;exact rfl;simp only [Act.put]))
 go_loopw [13] (fun i W=>∃k:Nat,k≤ps.length∧i=.int .i64 k∧Hid (Sz W (w.heap.size+1+1) (pad (prodN (ps.take k))) (cnt (prodN (ps.take k))))∧Hid (Sz W (w.heap.size+1) (ext []) 0)∧Hid (Old w W)) (fun i _=>ps.length - (intOf i).toNat)
 case atStart=>exact ⟨0,by omega,rfl,HZ.out.row (pad 1) (cnt 1) HP1.out,HY.out.otherRow (by omega) _,HG0.out.row (by omega) _⟩
 case round=>
  obtain ⟨k,hk,rfl,HS,HR,HG⟩:=hrel
  clear H1 HZ HY HG0
  by_cases hlt:k<ps.length
  ·have d1:decide ((k:Int)<(ps.length:Int))=true:=by simp;omega
   obtain ⟨b,o,rfl,hb,hc⟩:∃b o,va=some ⟨b,o,none⟩∧b<w.heap.size∧∀j,j<ps.length→w.cell? ⟨b,o+j,none⟩=some (.int .i64 ((ps.getD j 0:Nat):Int)):=by
    rcases HV.out with ⟨a',cap',e,e2⟩ | ⟨b,o,cap',e,hb,h0,hc⟩
    ·have:=congrArg List.length e2
     rw [toZ_len] at this
     simp only [List.length_nil] at this
     omega
    ·simp only [Value.slice.injEq] at e
     rw [toZ_len] at hc
     exact ⟨b,o,e.1,hb,fun j hj=>by rw [hc j hj,toZ_get]⟩
   have c1:wr.cell? ⟨b,o+k,none⟩=some (.int .i64 ((ps.getD k 0:Nat):Int)):=(HG.out.cell (p:=⟨b,o+k,none⟩) hb).trans (hc k hlt)
   have hpb:ps.getD k 0≤268435456:=HB.out _ (by simp [List.getD,hlt])
   have HE:Hid (prodN (ps.take (k+1))=prodN (ps.take k)*ps.getD k 0):=prodN_take ps k hlt
   have HC1:Hid (cnt (prodN (ps.take k))≤40):=Nat.le_trans (HC.out k hk) (by omega)
   have HC2:Hid ((pad (prodN (ps.take k)*ps.getD k 0)).length=80):=by
    have:=HC.out (k+1) hlt
    rw [HE.out] at this
    exact pad_len' this (by omega)
   have HF:Hid (∀W,Sz W (w.heap.size+1+1) (pad (prodN (ps.take k)*ps.getD k 0)) (cnt (prodN (ps.take k)*ps.getD k 0))→Sz W (w.heap.size+1+1) (pad (prodN (ps.take (k+1)))) (cnt (prodN (ps.take (k+1))))):=fun W h=>by rw [HE.out];exact h
   have ct:=fun W=>times_sz (prodN (ps.take k)) (ps.getD k 0) W HC1.out hpb
   clear hc HE HC1
   generalize prodN (ps.take k)*ps.getD k 0=y at *
   generalize prodN (ps.take k)=q at *
   generalize ps.getD k 0=p at *
   unfold szV at ct
   go_wp2_with (first | ((with_reducible refine load_sz HS.out ?_ ?_);exact rfl;simp only [Act.put,List.setIfInBounds_toArray,List.set_cons_succ,List.set_cons_zero]) | (go_at_call 111;refine (ct _).mono ?_;rintro e w5 ⟨rfl,g5⟩;have HS5:Hid (Sz w5 (w.heap.size+1+1) (pad q) (cnt q)):=HS.out.old g5;have HR5:Hid (Sz w5 (w.heap.size+1) (ext []) 0):=HR.out.old g5;have HG5:Hid (Old w w5):=Old.trans HG.out g5;clear g5) | ((with_reducible refine store_sz HS5.out (pad y) (cnt y) HC2.out ?_ ?_ ?_);exact rfl;exact rfl;simp only [Act.put]))
   exact ⟨⟨k+1,by omega,by go_num,HF.out _ (HS5.out.row (pad y) (cnt y) HC2.out),HR5.out.otherRow (by omega) _,HG5.out.row (by omega) _⟩,by simp [intOf];omega⟩
  ·have d1:decide ((k:Int)<(ps.length:Int))=false:=by simp;omega
   obtain rfl:k=ps.length:=by omega
   have HL:Hid ((pad r).length=80):=by
    have:=HC.out ps.length (Nat.le_refl _)
    rw [List.take_length,HRR.out] at this
    exact pad_len' this (by omega)
   have HS2:Hid (Sz wr (w.heap.size+1+1) (pad r) (cnt r)):=by
    have:=HS.out
    rw [List.take_length,HRR.out] at this
    exact this
   clear HS
   go_wp2_with (first | ((with_reducible refine load_sz HS2.out ?_ ?_);exact rfl;simp only [Act.put,List.setIfInBounds_toArray,List.set_cons_succ,List.set_cons_zero]) | ((with_reducible refine store_sz HR.out (pad r) (cnt r) HL.out ?_ ?_ ?_);exact rfl;exact rfl;simp only [Act.put]) | ((with_reducible refine bodyPost_ret (ret_sz Tryz.results110 _ _ ?_ (HR.out.row (pad r) (cnt r) HL.out)) ?_ ?_);exact rfl;exact rfl;exact ⟨rfl,HG.out.row (by omega) _⟩))
theorem productSize_sz (ps:List Nat) (v:Value) (w:World) (hv:Row w v (toZ ps)) (hl:ps.length≤6) (hb:∀p∈ps,p≤268435456) :
 Calls Tryz.prog 83 #[v] w fun e w'=>e=.returned (.agg (szV (prodN ps)))∧Old w w':=by
 have HV:Hid (Row w v (toZ ps)):=hv
 obtain ⟨va,vc,rfl⟩:∃a c,v=.slice a ps.length c:=by have:=hv.slice;rwa [toZ_len] at this
 have c1:=fun W=>ofWord_sz 1 W (by omega)
 have c2:=fun W (h:Row W (.slice va ps.length vc) (toZ ps))=>all_sz ps _ W h hl hb
 have HL:Hid ((pad (prodN ps)).length=80):=by
  have:=prodN_cnt ps hb ps.length (Nat.le_refl _)
  rw [List.take_length] at this
  exact pad_len' this (by omega)
 have HZ:Hid (Sz (w.alloc (.cells Tryz.zeroCells131 131)) w.heap.size (ext []) 0):=Sz.zero _ _ rfl
 clear hv hb
 generalize prodN ps=r at *
 unfold szV at *
 go_enter Tryz.func83,Tryz.ntmps83
 go_wp2_with (first | (go_at_call 113;refine (c1 _).mono ?_;rintro e w1 ⟨rfl,g1⟩;have HG1:Hid (Old w w1):=Old.trans ((Old.refl w).alloc _) g1;have HZ1:Hid (Sz w1 w.heap.size (ext []) 0):=HZ.out.old g1;clear g1) | (go_at_call 110;refine (c2 _ (HV.out.old HG1.out)).mono ?_;rintro e w2 ⟨rfl,g2⟩;have HG2:Hid (Old w w2):=Old.trans HG1.out g2;have HZ2:Hid (Sz w2 w.heap.size (ext []) 0):=HZ1.out.old g2;clear g2) | ((with_reducible refine store_sz HZ2.out (pad r) (cnt r) HL.out ?_ ?_ ?_);exact rfl;exact rfl;simp only [Act.put]) | ((with_reducible refine bodyPost_ret (ret_sz Tryz.results83 _ _ ?_ (HZ2.out.row (pad r) (cnt r) HL.out)) ?_ ?_);exact rfl;exact rfl;exact ⟨rfl,HG2.out.row (Nat.le_refl _) _⟩))
structure Bas (ps:List Nat):Prop where
 len1:1≤ps.length
 len6:ps.length≤6
 lo:∀p∈ps,2≤p
 hi:∀p∈ps,p≤268435456
theorem basB_yes {xs:List Int} (h:basB xs=true):∃ps:List Nat,xs=toZ ps∧Bas ps:=by
 simp only [basB,Bool.and_eq_true,decide_eq_true_eq] at h
 obtain ⟨⟨h1,h2⟩,h3⟩:=h
 have h4:∀x∈xs,2≤x∧x≤268435456:=fun x hx=>by
  obtain ⟨j,hj,e⟩:=List.getElem_of_mem hx
  have h5:=of_decide_eq_true h3 j hj (Nat.zero_le _)
  simp only [gbAt,Bool.and_eq_true,pmB] at h5
  have h6:=modB_yes h5.1.1
  have e2:xs.getD j 0=x:=by simp [List.getD,hj,e]
  rw [e2] at h6
  exact h6
 refine ⟨xs.map Int.toNat,?_,by simpa using h1,by simpa using h2,fun p hp=>?_,fun p hp=>?_⟩
 ·rw [toZ,List.map_map]
  refine (List.map_id xs).symm.trans (List.map_congr_left fun x hx=>?_)
  have:=h4 x hx
  simp
  omega
 ·obtain ⟨x,hx,rfl⟩:=List.mem_map.1 hp
  have:=h4 x hx
  omega
 ·obtain ⟨x,hx,rfl⟩:=List.mem_map.1 hp
  have:=h4 x hx
  omega
theorem nil_own (w:World) (base:Nat):Own w base (.slice none 0 0) (toI []):=⟨rfl,Or.inl ⟨rfl,rfl⟩⟩
theorem Bas.cnt {ps:List Nat} (h:Bas ps):M2.cnt (prodN ps)≤7:=by
 have:=prodN_cnt ps h.hi ps.length (Nat.le_refl _)
 rw [List.take_length] at this
 have:=h.len6
 omega
end Go.Proofs.YtanijpekdnkicaaGreatDoor
namespace Go.Proofs.YtanijpekdnkicaaGreatDoor
open Go.ChangeShapes Go.WideShapes Go.ChangeAt Go.RowKit
set_option linter.unusedVariables false
set_option linter.unusedSimpArgs false
def pwA (ls:List Nat):Array Value:=(ls.map (fun n:Nat=>Value.int .i64 (n:Int))).toArray
theorem pwA_size {ls:List Nat} (h:ls.length=32):(pwA ls).size=32:=by simp [pwA,h]
theorem pwA_at {ls:List Nat} (h:ls.length=32) {j:Nat} (hj:j<32):(pwA ls)[j]? = some (.int .i64 ((ls.getD j 0:Nat):Int)):=by
 simp [pwA,h,hj,List.getD]
theorem pwA_set {ls:List Nat} (h:ls.length=32) {j:Nat} (hj:j<32) (y:Nat):(pwA ls).setIfInBounds j (.int .i64 (y:Int))=pwA (ls.set j y):=by
 simp only [pwA,List.setIfInBounds_toArray]
 congr 1
 simp [List.map_set]
theorem pwA_one (ls:List Nat):(pwA ls).all (·.oneCell')=true:=by
 simp [pwA,Value.oneCell']
theorem infoPw:(Tryz.prog.info? 204).map (·.size)=some 32:=by kernel_rfl
structure Pw (w:World) (g:Nat) (ls:List Nat):Prop where
 blk:w.heap[g]? = some (.cells (pwA ls) 204 (0,0))
 len:ls.length=32
theorem Pw.lt {w:World} {g:Nat} {ls:List Nat} (h:Pw w g ls):g<w.heap.size:=(Array.getElem?_eq_some_iff.1 h.blk).1
theorem Pw.at {w:World} {g:Nat} {ls:List Nat} (h:Pw w g ls) {j:Nat} (hj:j<32):w.cell? ⟨g,j,none⟩=some (.int .i64 ((ls.getD j 0:Nat):Int)):=by
 rw [cell_of_row _ _ _ _ _ _ h.blk,pwA_at h.len hj]
theorem Pw.fro {w:World} {g:Nat} {ls:List Nat} (h:Pw w g ls) (j:Nat):w.frozen? ⟨g,j,none⟩=false:=frozen_of_row _ _ _ _ _ h.blk
theorem Pw.old {w w':World} {g:Nat} {ls:List Nat} (h:Pw w g ls) (o:Old w w'):Pw w' g ls:=⟨by rw [o.block g h.lt];exact h.blk,h.len⟩
theorem Pw.by_ {w w':World} {g:Nat} {ls:List Nat} {ob:Option Nat} (h:Pw w g ls) (o:w.grownBy w' ob) (hne:∀k,ob=some k→k≠g):Pw w' g ls:=⟨(o.block g h.lt (fun e=>hne g e.symm rfl)).trans h.blk,h.len⟩
theorem Pw.set {w:World} {g:Nat} {ls:List Nat} (h:Pw w g ls) {j:Nat} (hj:j<32) (y:Nat):Pw (w.setCell ⟨g,j,none⟩ (.int .i64 (y:Int))) g (ls.set j y):=
 ⟨by rw [heap_setCell_same w g j _ _ _ h.blk,pwA_set h.len hj y],by rw [List.length_set,h.len]⟩
theorem Pw.other {w:World} {g:Nat} {ls:List Nat} (h:Pw w g ls) (p:Addr) (hp:g≠p.block) (v:Value):Pw (w.setCell p v) g ls:=
 ⟨by rw [heap_setCell_other w p g v hp];exact h.blk,h.len⟩
theorem Pw.row {w:World} {g:Nat} {ls:List Nat} (h:Pw w g ls) (ls':List Nat) (hl:ls'.length=32):Pw (w.setRow g (pwA ls')) g ls':=
 ⟨setRow_heap w g _ _ _ _ h.blk,hl⟩
theorem Pw.new' (w:World) (ls:List Nat) (g:Nat) (hl:ls.length=32) (hg:g=w.heap.size):Pw (w.alloc (.cells (pwA ls) 204)) g ls:=by subst hg;exact ⟨heap_alloc_new w _,hl⟩
theorem Old.rowP {a b:World} (h:Old a b) {g:Nat} (hg:a.heap.size≤g) (cs:Array Value):Old a (b.setRow g cs):=
 ⟨h.os,h.tape,h.output,by rw [setRow_size];exact h.size,fun k hk=>by rw [setRow_other b g k cs (by omega)];exact h.block k hk⟩
section
variable {ops:Array Oper} {rest:List Oper} {a:Act} {w:World} {Q:Exit→Act→World→Prop} {ty:TypeId} {pos:String} {d:Option Tmp} {x y:Operand}
theorem load_pw {af:Array Edge} {g:Nat} {ls:List Nat} (hs:Pw w g ls) (hx:a.eval x=.pointer (some ⟨g,0,none⟩))
 (h:wpList Tryz.prog ops Q rest (a.put d (.agg (pwA ls))) w):wpList Tryz.prog ops Q (⟨d,.load 204 x,ty,pos,af,none⟩ :: rest) a w:=
 wpList_load_row rfl 204 x rfl g hx 204 (pwA ls) (0,0) _ hs.blk Tryz.underlying204 rfl (by rw [pwA_size hs.len];exact infoPw) h
theorem store_pw {af:Array Edge} {g:Nat} {ls:List Nat} (hs:Pw w g ls) (ls':List Nat) (hl:ls'.length=32) (hx:a.eval x=.pointer (some ⟨g,0,none⟩)) (hy:a.eval y=.agg (pwA ls'))
 (h:wpList Tryz.prog ops Q rest (a.put d undef) (w.setRow g (pwA ls'))):wpList Tryz.prog ops Q (⟨d,.store 204 x y,ty,pos,af,none⟩ :: rest) a w:=by
 refine wpList_store_row rfl 204 x y rfl g (pwA ls') hx hy 204 (pwA ls) hs.blk (by rw [pwA_size hl];exact infoPw) (by rw [pwA_size hs.len,pwA_size hl]) (pwA_one _) h
end
theorem ret_pw {fn:Func} {p:Tmp} (h:fn.results=#[.cell p 204]) (tmps:Array Value) (w:World) {g:Nat} {ls:List Nat} (hp:tmps.getD p undef=.pointer (some ⟨g,0,none⟩)) (hs:Pw w g ls) :
 (results fn tmps).run Tryz.prog w=.ok (.agg (pwA ls)) w:=
 results_cell_row h tmps w g 204 (pwA ls) (0,0) _ hp hs.blk Tryz.underlying204 rfl (by rw [pwA_size hs.len];exact infoPw)
def pwS (P R:Nat):Nat→List Nat
 | 0=>List.replicate 32 0
 | k+1=>(pwS P R k).set k (R^k%P)
theorem pwS_len (P R:Nat):∀k,(pwS P R k).length=32
 | 0=>by simp [pwS]
 | k+1=>by rw [pwS,List.length_set,pwS_len P R k]
theorem pwS_get (P R:Nat):∀k j,j<k→k≤32→(pwS P R k).getD j 0=R^j%P
 | 0,j,h,_=>by omega
 | k+1,j,h,h2=>by
   rw [pwS]
   by_cases hj:j=k
   ·subst hj
    simp [List.getD,pwS_len,show j<32 by omega]
   ·have:=pwS_get P R k j (by omega) (by omega)
    simp only [List.getD] at this ⊢
    rw [List.getElem?_set_ne (by omega)]
    exact this
set_option maxRecDepth 100000 in
set_option maxHeartbeats 2000000 in
theorem impl_powers (P N R:Nat) (w:World) (hP:2≤P∧P≤268435456) (hN:2≤N∧N≤16) (hR:R<P) :
 Calls Tryz.prog 172 #[.agg #[.int .i64 P,.int .i64 N,.int .i64 R]] w fun e w'=>e=.returned (.agg (pwA (pwS P R (2*N))))∧Old w w':=by
 have HM:Hid (∀k,R^k%P*R%P=R^(k+1)%P):=fun k=>by rw [Nat.pow_succ,Nat.mul_mod,Nat.mod_mod,← Nat.mul_mod]
 have HXL:Hid (∀k,R^k%P<P):=fun k=>Nat.mod_lt _ (by omega)
 have H1:Hid (1=R^0%P):=by rw [Nat.pow_zero,Nat.mod_eq_of_lt (by omega)];rfl
 have HS:Hid (∀k,pwS P R (k+1)=(pwS P R k).set k (R^k%P)):=fun k=>rfl
 have HL:Hid (∀k,(pwS P R k).length=32):=fun k=>pwS_len P R k
 have H0:Hid (pwS P R 0=List.replicate 32 0):=rfl
 generalize pwS P R=F at *
 obtain ⟨E,eE⟩:∃E:Nat→Nat,E=fun k=>R^k%P:=⟨_,rfl⟩
 have HM':Hid (∀k,E k*R%P=E (k+1)):=by rw [eE];exact HM
 have HXL':Hid (∀k,E k<P):=by rw [eE];exact HXL
 have H1':Hid (1=E 0):=by rw [eE];exact H1
 have HS':Hid (∀k,F (k+1)=(F k).set k (E k)):=by rw [eE];exact HS
 clear HM HXL H1 HS eE
 obtain ⟨M,hM⟩:∃M,M=2*N:=⟨_,rfl⟩
 have eM:2*(N:Int)=(M:Int):=by omega
 rw [← hM]
 have hM2:M≤32:=by omega
 have hpn:¬(P:Int)=0:=by omega
 have hpn2:¬P=0:=by omega
 have HZ:Hid (pwA (List.replicate 32 0)=#[.int .i64 0,.int .i64 0,.int .i64 0,.int .i64 0,.int .i64 0,.int .i64 0,.int .i64 0,.int .i64 0,.int .i64 0,.int .i64 0,.int .i64 0,.int .i64 0,.int .i64 0,.int .i64 0,.int .i64 0,.int .i64 0,.int .i64 0,.int .i64 0,.int .i64 0,.int .i64 0,.int .i64 0,.int .i64 0,.int .i64 0,.int .i64 0,.int .i64 0,.int .i64 0,.int .i64 0,.int .i64 0,.int .i64 0,.int .i64 0,.int .i64 0,.int .i64 0]):=rfl
 have HPA:Hid (Pw (((w.alloc (.cells #[.int .i64 P,.int .i64 N,.int .i64 R] 144)).alloc (.cells (pwA (List.replicate 32 0)) 204)).alloc (.cells (pwA (List.replicate 32 0)) 204)) (w.heap.size+1) (List.replicate 32 0)):=(Pw.new' (w.alloc (.cells #[.int .i64 P,.int .i64 N,.int .i64 R] 144)) (List.replicate 32 0) _ (by simp) (by simp)).old ((Old.refl _).alloc _)
 have HPB:Hid (Pw (((w.alloc (.cells #[.int .i64 P,.int .i64 N,.int .i64 R] 144)).alloc (.cells (pwA (List.replicate 32 0)) 204)).alloc (.cells (pwA (List.replicate 32 0)) 204)) (w.heap.size+1+1) (F 0)):=by rw [H0.out];exact (Pw.new' ((w.alloc (.cells #[.int .i64 P,.int .i64 N,.int .i64 R] 144)).alloc (.cells (pwA (List.replicate 32 0)) 204)) (List.replicate 32 0) _ (by simp) (by simp))
 have HRC:Hid (Rc (((w.alloc (.cells #[.int .i64 P,.int .i64 N,.int .i64 R] 144)).alloc (.cells (pwA (List.replicate 32 0)) 204)).alloc (.cells (pwA (List.replicate 32 0)) 204)) w.heap.size P N R):=(Rc.new w P N R).old (((Old.refl _).alloc _).alloc _)
 rw [HZ.out] at HPA HPB HRC
 clear hM HZ H0
 go_enter Tryz.func172,Tryz.ntmps172
 go_wp2_with fail
 go_loopw [4,5,9] (fun x y i W=>∃k:Nat,k≤M∧i=.int .i64 k∧x=.int .i64 ((E k:Nat):Int)∧Hid (Pw W (w.heap.size+1) (List.replicate 32 0))∧Hid (Pw W (w.heap.size+1+1) (F k))∧Hid (Rc W w.heap.size P N R)∧Hid (Old w W)) (fun _ _ i _=>M - (intOf i).toNat)
 case atStart=>exact ⟨0,by omega,rfl,by rw [← H1'.out];rfl,HPA,HPB,HRC,(((Old.refl _).alloc _).alloc _).alloc _⟩
 case round=>
  obtain ⟨k,hk,rfl,rfl,PA,PB,RC,HG⟩:=hrel
  clear HPA HPB HRC
  by_cases hlt:k<M
  ·have d1:decide ((k:Int)<(M:Int))=true:=by simp;omega
   have i1:(k:Int)<32:=by omega
   have c1:=PB.out.at (show k<32 by omega)
   have c2:=PB.out.fro k
   have HP2:Hid (Pw (wr.setCell ⟨w.heap.size+1+1,k,none⟩ (.int .i64 ((E k:Nat):Int))) (w.heap.size+1+1) (F (k+1))):=by rw [HS'.out];exact PB.out.set (by omega) _
   have HA2:Hid (Pw (wr.setCell ⟨w.heap.size+1+1,k,none⟩ (.int .i64 ((E k:Nat):Int))) (w.heap.size+1) (List.replicate 32 0)):=PA.out.other _ (by simp) _
   have HG2:Hid (Old w (wr.setCell ⟨w.heap.size+1+1,k,none⟩ (.int .i64 ((E k:Nat):Int)))):=HG.out.own (by simp;omega) _
   have HR2:Hid (Rc (wr.setCell ⟨w.heap.size+1+1,k,none⟩ (.int .i64 ((E k:Nat):Int))) w.heap.size P N R):=⟨by have:=RC.out.lt;simpa using this,by rw [World.cell?_of_block (w:=wr) (heap_setCell_other wr ⟨w.heap.size+1+1,k,none⟩ w.heap.size _ (by simp;omega))];exact RC.out.c0,by rw [World.cell?_of_block (w:=wr) (heap_setCell_other wr ⟨w.heap.size+1+1,k,none⟩ w.heap.size _ (by simp;omega))];exact RC.out.c1,by rw [World.cell?_of_block (w:=wr) (heap_setCell_other wr ⟨w.heap.size+1+1,k,none⟩ w.heap.size _ (by simp;omega))];exact RC.out.c2⟩
   have z0:=HR2.out.c0
   have z2:=HR2.out.c2
   have hx:=HXL'.out k
   have HN:Hid (E k*R%P=E (k+1)):=HM'.out k
   generalize (F k).getD k 0=oldv at *
   generalize E k=x at *
   have hmul:=mul_lt28 x R P hx hR hP.2
   have e1:(x:Int)*(R:Int)=((x*R:Nat):Int):=by simp
   have e2:((x*R:Nat):Int)%(P:Int)=((x*R%P:Nat):Int):=by simp
   generalize x*R=s at *
   generalize s%P=q at *
   go_wp2_with fail
   exact ⟨⟨k+1,by omega,by go_num,by rw [← HN.out,e2],HA2,HP2,HR2,HG2⟩,by simp [intOf];omega⟩
  ·have d1:decide ((k:Int)<(M:Int))=false:=by simp;omega
   obtain rfl:k=M:=by omega
   have HL2:Hid ((F k).length=32):=HL.out k
   go_wp2_with (first | ((with_reducible refine load_pw PB.out ?_ ?_);exact rfl;simp only [Act.put,List.setIfInBounds_toArray,List.set_cons_succ,List.set_cons_zero]) | ((with_reducible refine store_pw PA.out (F k) HL2.out ?_ ?_ ?_);exact rfl;exact rfl;simp only [Act.put]) | ((with_reducible refine bodyPost_ret (ret_pw Tryz.results172 _ _ ?_ (PA.out.row (F k) HL2.out)) ?_ ?_);exact rfl;exact rfl;exact ⟨rfl,HG.out.rowP (by omega) _⟩))
end Go.Proofs.YtanijpekdnkicaaGreatDoor
