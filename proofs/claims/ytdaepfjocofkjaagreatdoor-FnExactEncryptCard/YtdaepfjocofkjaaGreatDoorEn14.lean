/- Proved: what its theorems say. -/
import Derived.Test.YtdaepfjocofkjaaGreatDoorEn00
import Derived.Conc.LoneCalls
set_option linter.unusedVariables false
set_option linter.unusedSimpArgs false
set_option maxHeartbeats 2000000
set_option maxRecDepth 100000
namespace Go.Proofs.YtdaepfjocofkjaaGreatDoor
open Go.ChangeShapes Go.WideShapes Go.ChangeAt Go.RowKit
open Go.Conc
def Qu9 (P:Program) (ops:Array Oper) (Q:Exit->Act->World->Prop) (is:List Nat) (a:Act) (w:World):Prop:=
 ∀(b:Frame) (k:List Item) (cs:List Frame),∃e a' w',Q e a' w'/\Arrives P (lone (b.at a (.inRegion ops is :: k)) cs w) b k cs e a' w'
section
variable {P:Program} {ops:Array Oper} {Q:Exit->Act->World->Prop} {a:Act} {w:World} {rest:List Nat} {i:Nat} {o:Oper}
theorem Qo4 {id:Nat} (h:Qu9 P ops Q (List.range ops.size) a w):(Code.region id ops false).wp P Q a w:=
 fun b k cs=>let ⟨e,a',w',q,r⟩:=h b k cs;⟨e,a',w',q,.of_steps (.one step_region) r⟩
theorem Qle (h:wpList P ops Q [] a w):Qu9 P ops Q [] a w:=
 fun b k cs=>⟨.normal,a,w,h,.one step_region_end⟩
theorem Qin (ho:ops[i]? = some o) (hw:Region.wanted o (yielded ops a.tmps)=true)
 (h:∀K:Act->World->Prop,(∀a' w',Qu9 P ops Q rest a' w'->K a' w')->uponK o a K ((execOp a.eval o).run P w)):Qu9 P ops Q (i :: rest) a w:=by
 intro b k cs;have h':=h _ (fun _ _ x=>x);have hg:=stepG_op (P:=P) (b:=b) (k:=k) (cs:=cs) (w:=w) (rest:=rest) ho hw
 have hfin:∀v,(b.at a (.inRegion ops (i :: rest) :: k)).finish v=b.at (a.put o.dst v) (.inRegion ops rest :: k):=by
  intro v;rw [Frame.finish_at,ho];rfl
 generalize hr:(execOp a.eval o).run P w=r at h'
 match r,h' with
 | .ok (.value v) w',h'=>
   obtain ⟨e,a',w'',hq,harr⟩:=h' b k cs;refine ⟨e,a',w'',hq,.of_steps (.one (step_lone_go ?_)) harr⟩;rw [hg,<- hfin];simp [stepG.apply,hr]
 | .ok .skip w',h'=>
   obtain ⟨e,a',w'',hq,harr⟩:=h' b k cs;refine ⟨e,a',w'',hq,.of_steps (.one (step_lone_go ?_)) harr⟩;rw [hg,<- hfin];simp [stepG.apply,hr]
theorem Qio {b:Frame} {k:List Item} {cs:List Frame} {cases:Array CommCase} {blocking:Bool} {shape:CommShape} {w':World} (ho:ops[i]? = some o) (hw:Region.wanted o (yielded ops a.tmps)=true)
 (hr:(execOp a.eval o).run P w=.ok (.comm cases blocking shape) w') :
 ∃es,stepG P true (G (b.at a (.inRegion ops (i :: rest) :: k)) cs) w=.comm (G (b.at a (.inRegion ops (i :: rest) :: k)) cs) cases blocking shape w' es:=by
 rw [stepG_oper ho hw];simp [stepG.apply,hr,G,Frame.at,GStep.after]
theorem Qt8 {c cap s r:Nat} {buf:Array Value} {tm:Bool} {v z:Value} (ho:ops[i]? = some o) (hw:Region.wanted o (yielded ops a.tmps)=true)
 (hr:(execOp a.eval o).run P w=.ok (.comm #[scase c v z] true .send) w) (hc:w.heap[c]? = some (.chan cap buf false s r tm)) (hroom:buf.size<cap)
 (h:Qu9 P ops Q rest (a.put o.dst undef) (w.setChan c cap (buf.push v) false (s+1) r tm)):Qu9 P ops Q (i :: rest) a w:=by
 intro b k cs;obtain ⟨es,hs⟩:=Qio (b:=b) (k:=k) (cs:=cs) (rest:=rest) ho hw hr;obtain ⟨e,a',w'',hq,harr⟩:=h b k cs;have st:=step_lone_send_room hs hc hroom;rw [Frame.finish_at,ho] at st;exact ⟨e,a',w'',hq,.of_steps (.one st) harr⟩
theorem Qt9 {c cap s r:Nat} {buf:Array Value} {tm closed:Bool} {z:Value} (ho:ops[i]? = some o) (hw:Region.wanted o (yielded ops a.tmps)=true)
 (hr:(execOp a.eval o).run P w=.ok (.comm #[rcase c z] true (.recv true)) w) (hc:w.heap[c]? = some (.chan cap buf closed s r tm)) (hsome:0<buf.size)
 (h:Qu9 P ops Q rest (a.put o.dst (.tuple #[buf.getD 0 undef,.bool true])) (w.setChan c cap (buf.extract 1 buf.size) closed s (r+1) tm)):Qu9 P ops Q (i :: rest) a w:=by
 intro b k cs;obtain ⟨es,hs⟩:=Qio (b:=b) (k:=k) (cs:=cs) (rest:=rest) ho hw hr;obtain ⟨e,a',w'',hq,harr⟩:=h b k cs;have st:=step_lone_recv_buf true hs hc hsome;rw [Frame.finish_at,ho] at st;exact ⟨e,a',w'',hq,.of_steps (.one st) harr⟩
theorem Qua {c cap s r:Nat} {tm:Bool} {z:Value} (ho:ops[i]? = some o) (hw:Region.wanted o (yielded ops a.tmps)=true)
 (hr:(execOp a.eval o).run P w=.ok (.comm #[rcase c z] true (.recv true)) w) (hc:w.heap[c]? = some (.chan cap #[] true s r tm))
 (h:Qu9 P ops Q rest (a.put o.dst (.tuple #[z,.bool false])) w):Qu9 P ops Q (i :: rest) a w:=by
 intro b k cs;obtain ⟨es,hs⟩:=Qio (b:=b) (k:=k) (cs:=cs) (rest:=rest) ho hw hr;obtain ⟨e,a',w'',hq,harr⟩:=h b k cs;have st:=step_lone_recv_shut true hs hc;rw [Frame.finish_at,ho] at st;exact ⟨e,a',w'',hq,.of_steps (.one st) harr⟩
end
def Qi3 (ws:List Int) (k:Nat):Array Value:=((ws.drop k).map (Value.int .i64)).toArray
theorem Qwp (ws:List Int) (k:Nat) (h:k<ws.length):(Qi3 ws k).getD 0 undef=.int .i64 (ws.getD k 0):=by
 unfold Qi3;rw [List.drop_eq_getElem_cons h];simp [List.getD,h]
theorem Qwq (ws:List Int) (k:Nat) (h:k<ws.length):0<(Qi3 ws k).size:=by
 simp [Qi3];omega
theorem Qub (ws:List Int) (k:Nat) (h:k<ws.length):(Qi3 ws k).extract 1 (Qi3 ws k).size=Qi3 ws (k+1):=by
 unfold Qi3;rw [List.drop_eq_getElem_cons h];simp;exact List.take_of_length_le (by simp;omega)
theorem Qqr (ws:List Int):Qi3 ws ws.length=#[]:=by simp [Qi3]
structure Pu (w:World) (c:Nat) (ws:List Int) (k:Nat):Prop where
 lt:c+1<w.heap.size
 le:k<=ws.length
 cells:w.heap[c+1]? = some (.cells #[.chan (some c),.int .i64 k] 173 (0,0))
 chan:∃cap s r,w.heap[c]? = some (.chan cap (Qi3 ws k) true s r false)
theorem Pu.old {w w':World} {c k:Nat} {ws:List Int} (h:Pu w c ws k) (g:Old w w'):Pu w' c ws k:=by
 obtain ⟨h1,h2,h3,cap,s,r,h4⟩:=h;exact ⟨Nat.lt_of_lt_of_le h1 g.size,h2,(g.block _ h1).trans h3,cap,s,r,(g.block _ (by omega)).trans h4⟩
theorem Pu.chg {w w':World} {c k lo hi:Nat} {ws:List Int} (h:Pu w c ws k) (g:Chg w w' lo hi) (hd:c+2<=lo∨hi<=c):Pu w' c ws k:=by
 obtain ⟨h1,h2,h3,cap,s,r,h4⟩:=h;exact ⟨Nat.lt_of_lt_of_le h1 g.size,h2,(g.block _ h1 (by omega)).trans h3,cap,s,r,(g.block _ (by omega) (by omega)).trans h4⟩
theorem Qo5 (w:World) (c cap:Nat) (buf:Array Value) (cl:Bool) (s r:Nat) (tm:Bool):Chg w (w.setChan c cap buf cl s r tm) c (c+1):=
 ⟨rfl,rfl,rfl,by simp [World.setChan],fun k hk ho=>by simp only [World.setChan];rw [Array.getElem?_setIfInBounds_ne (by omega)]⟩
theorem Qc5 (w:World) (b j:Nat) (v:Value):Chg w (w.setCell ⟨b,j,none⟩ v) b (b+1):=
 ⟨rfl,rfl,rfl,by simp [World.setCell],fun k hk ho=>heap_setCell_other w ⟨b,j,none⟩ k v (by show k≠b;omega)⟩
theorem Pu.took {w:World} {c k:Nat} {ws:List Int} (h:Pu w c ws k) (hk:k<ws.length) {cap s r:Nat} :
 Pu ((w.setChan c cap (Qi3 ws (k+1)) true s r false).setCell ⟨c+1,1,none⟩ (.int .i64 ((k:Int)+1))) c ws (k+1):=by
 obtain ⟨h1,h2,h3,_⟩:=h
 have e1:(w.setChan c cap (Qi3 ws (k+1)) true s r false).heap[c+1]? = some (.cells #[.chan (some c),.int .i64 k] 173 (0,0)):=by
  rw [<- h3];simp only [World.setChan];rw [Array.getElem?_setIfInBounds_ne (by omega)]
 refine ⟨?_,by omega,?_,cap,s,r,?_⟩
 ·rw [World.size_setCell,size_setChan];exact h1
 ·rw [heap_setCell_same _ _ _ _ _ _ e1];rfl
 ·rw [heap_setCell_other _ _ _ _ (by show c≠c+1;omega),heap_setChan _ _ _ _ _ _ _ _ (by omega)]
theorem Quc (ws:List Int) (c k:Nat) (w:World) (h:Pu w c ws k) (hk:k<ws.length) (hl:ws.length<=4000) :
 Calls Tryz.prog 127 #[.pointer (some ⟨c+1,0,none⟩)] w fun e w'=>e=.returned (.tuple #[.int .i64 (ws.getD k 0),.bool true])/\Chg w w' c (c+2)/\Pu w' c ws (k+1):=by
 have HP:=Qaa h;obtain ⟨h1,h2,h3,cap,s,r,h4⟩:=h;have hc0:w.cell? ⟨c+1,0,none⟩=some (.chan (some c)):=by rw [cell_of_row _ _ _ _ _ _ h3];rfl
 have hc1:(w.setChan c cap (Qi3 ws (k+1)) true s (r+1) false).cell? ⟨c+1,1,none⟩=some (.int .i64 k):=by
  rw [cell_of_row _ (c+1) 1 #[.chan (some c),.int .i64 k] 173 (0,0) (by rw [<- h3];simp only [World.setChan];rw [Array.getElem?_setIfInBounds_ne (by omega)])];rfl
 have hf1:(w.setChan c cap (Qi3 ws (k+1)) true s (r+1) false).frozen? ⟨c+1,1,none⟩=false:=
  frozen_of_row _ (c+1) 1 #[.chan (some c),.int .i64 k] 173 (by rw [<- h3];simp only [World.setChan];rw [Array.getElem?_setIfInBounds_ne (by omega)])
 have HF:=Qaa (HP.out.took (cap:=cap) (s:=s) (r:=r+1) hk);have H4:=Qaa h4;have HX:=Qaa (Qwp ws k hk);have HN:=Qaa (Qub ws k hk);have HS:=Qaa (Qwq ws k hk);clear h1 h2 h3 h4;generalize ws.getD k 0=x at HX ⊢;go_enter Tryz.func127,Tryz.ntmps127
 iterate 13 go_step
 refine Qo4 (id:=1) ?_
 simp only [List.size_toArray,List.length_cons,List.length_nil,Nat.reduceAdd,Nat.zero_add,List.range,List.range.loop]
 iterate 4 (refine Qin rfl rfl (fun K hK=>?_);go_simp;refine hK _ _ ?_;clear hK K)
 refine Qt9 (c:=c) (cap:=cap) (s:=s) (r:=r) (buf:=Qi3 ws k) (tm:=false) (closed:=true) (z:=.int .i64 0) rfl rfl (by simp [go_sem,rcase,Act.eval]) H4.out HS.out ?_
 rw [HX.out,HN.out]
 iterate 5 (refine Qin rfl rfl (fun K hK=>?_);go_simp;refine hK _ _ ?_;clear hK K)
 refine Qle ?_
 go_wp2_with fail
 go_ret2
 exact ⟨rfl,((Qo5 w c cap _ _ _ _ _).wide (Nat.le_refl _) (by omega)).trans ((Qc5 _ (c+1) 1 _).wide (by omega) (Nat.le_refl _)),HF.out⟩
theorem Qud (ws:List Int) (c:Nat) (w:World) (h:Pu w c ws ws.length) :
 Calls Tryz.prog 127 #[.pointer (some ⟨c+1,0,none⟩)] w fun e w'=>e=.returned (.tuple #[.int .i64 0,.bool false])/\w'=w:=by
 obtain ⟨h1,h2,h3,cap,s,r,h4⟩:=h;rw [Qqr] at h4;have hc0:w.cell? ⟨c+1,0,none⟩=some (.chan (some c)):=by rw [cell_of_row _ _ _ _ _ _ h3];rfl
 have H4:=Qaa h4;clear h1 h2 h3 h4;go_enter Tryz.func127,Tryz.ntmps127
 iterate 13 go_step
 refine Qo4 (id:=1) ?_
 simp only [List.size_toArray,List.length_cons,List.length_nil,Nat.reduceAdd,Nat.zero_add,List.range,List.range.loop]
 iterate 4 (refine Qin rfl rfl (fun K hK=>?_);go_simp;refine hK _ _ ?_;clear hK K)
 refine Qua (c:=c) (cap:=cap) (s:=s) (r:=r) (tm:=false) (z:=.int .i64 0) rfl rfl (by simp [go_sem,rcase,Act.eval]) H4.out ?_
 iterate 5 (refine Qin rfl rfl (fun K hK=>?_);go_simp;refine hK _ _ ?_;clear hK K)
 refine Qle ?_
 go_wp2_with fail
 go_ret2
 exact ⟨rfl,rfl⟩
theorem Qwr:∃i,Tryz.prog.info? 3=some i/\i.bytes=8:=by
 obtain ⟨i0,hi,hz0,hz1,hz2⟩:=info_parts Tryz.infoInt;exact ⟨i0,hi,hz2⟩
theorem Qip (w:World) (n:Nat) (hn:n<=4000):(Instr.makeChan 174 (.int .i64 n)).run Tryz.prog w=.ok (.chan (some w.heap.size)) (w.alloc (.chan n #[] false 0 0 false)):=by
 obtain ⟨i,hi,hb⟩:=Qwr;exact run_makeChan (P:=Tryz.prog) (w:=w) Tryz.underlying174 hi .i64 n (by omega) (by rw [hb];omega)
def Qva (ws:List Int) (k j:Nat):Array Value:=(((ws.drop k).take j).map (Value.int .i64)).toArray
theorem Que (ws:List Int) (k j:Nat) (h:k+j<ws.length):(Qva ws k j).push (.int .i64 (ws.getD (k+j) 0))=Qva ws k (j+1):=by
 unfold Qva;rw [List.take_add_one];simp [List.getD,h]
theorem Quf (ws:List Int) (k j:Nat) (h:k+j<=ws.length):(Qva ws k j).size=j:=by simp [Qva];omega
theorem Qws (ws:List Int) (k n:Nat) (h:ws.length=k+n):Qva ws k n=Qi3 ws k:=by
 unfold Qva Qi3;rw [List.take_of_length_le (by simp;omega)]
theorem Qd2 {a w:World} (h:Old a w) {c:Nat} (hc:a.heap.size<=c) (cap:Nat) (buf:Array Value) (cl:Bool) (s r:Nat) (tm:Bool):Old a (w.setChan c cap buf cl s r tm):=below_setChan h hc cap buf cl s r tm
theorem Qm9 (ws:List Int) (b o cap at_ n:Nat) (w:World) (hb:b<w.heap.size) (hc:∀j,j<ws.length->w.cell? ⟨b,o+j,none⟩=some (.int .i64 (ws.getD j 0))) (hcap:ws.length<=cap) (hl:ws.length<=4000) (hn:ws.length=at_ + n) :
 Calls Tryz.prog 105 #[.slice (some ⟨b,o,none⟩) ws.length cap,.int .i64 at_] w fun e w'=>e=.returned (.pointer (some ⟨w.heap.size+1,0,none⟩))/\Old w w'/\Pu w' w.heap.size ws at_:=by
 have HC:=Qaa hc;have HL:=Qaa hn;have hmk:=Qip w n (by omega);have e1:(ws.length:Int) - (at_ : Int)=(n:Int):=by omega
 have d1:decide ((at_ : Int)<0)=false:=decide_eq_false (by omega);have e3:ws.length - at_ = n:=by omega
 have b1:at_<=ws.length:=by omega
 have b2:n<=4000:=by omega
 clear hn hc
 by_cases hca:cap=at_
 ·have hn0:n=0:=by omega
  subst hn0;subst hca;have e4:ws.length=cap:=by omega
  have hmk0:(Instr.makeChan 174 (.int .i64 0)).run Tryz.prog w=.ok (.chan (some w.heap.size)) (w.alloc (.chan 0 #[] false 0 0 false)):=Qip w 0 (by omega);have HE:Hid (Qi3 ws cap=#[]):=by rw [<- e4];exact Qqr ws
  rw [e4];clear hmk HC HL e1 e3 b2 hcap;have HX:=Qaa e4;clear e4 hl b1;have hcl:=fun ats ty=>run_close_open (P:=Tryz.prog) (w:=w.alloc (.chan 0 #[] false 0 0 false)) ats ty (heap_alloc_new _ _)
  go_enter Tryz.func105,Tryz.ntmps105;go_wp2_with fail;refine wp_loop_rounds 1 ?_
  rw [rounds_succ];go_wp2_with fail;go_ret;have hz:(w.alloc (.chan 0 #[] false 0 0 false)).heap.size=w.heap.size+1:=by simp
  refine ⟨rfl,?_,?_⟩
  ·exact (Qd2 ((Old.refl w).alloc (.chan 0 #[] false 0 0 false)) (Nat.le_refl _) 0 #[] true 0 0 false).alloc _
  ·refine ⟨?_,by rw [HX.out];exact Nat.le_refl _,?_,0,0,0,?_⟩
   ·show _ < (World.alloc _ _).heap.size
    simp
   ·have:=heap_alloc_new ((w.alloc (.chan 0 #[] false 0 0 false)).setChan w.heap.size 0 #[] true 0 0 false) (.cells #[.chan (some w.heap.size),.int .i64 cap] 173);rw [size_setChan,hz] at this;exact this
   ·have:=heap_alloc_old ((w.alloc (.chan 0 #[] false 0 0 false)).setChan w.heap.size 0 #[] true 0 0 false) (.cells #[.chan (some w.heap.size),.int .i64 cap] 173) (r:=w.heap.size) (by rw [size_setChan,hz];omega);rw [HE.out];exact this.trans (heap_setChan _ _ _ _ _ _ _ _ (by rw [hz];omega))
 ·go_enter Tryz.func105,Tryz.ntmps105;go_wp2_with fail
  go_loopw [17] (fun i W=>∃j:Nat,j<=n/\i=.int .i64 j/\Hid (W.heap[w.heap.size]? = some (.chan n (Qva ws at_ j) false j 0 false))/\Hid (Old w W)/\Hid (W.heap.size=w.heap.size+1)) (fun i _=>n - (intOf i).toNat)
  case atStart=>exact ⟨0,by omega,rfl,heap_alloc_new _ _,(Old.refl w).alloc _,by show (w.alloc _).heap.size=_;simp⟩
  case round=>
   obtain ⟨j,hj,rfl,HQ,HG,HZ⟩:=hrel;clear hmk
   by_cases hlt:j<n
   ·have c1:wr.cell? ⟨b,o+at_ + j,none⟩=some (.int .i64 (ws.getD (at_ + j) 0)):=by
     rw [Nat.add_assoc];exact (HG.out.cell (p:=⟨b,o+(at_ + j),none⟩) hb).trans (HC.out (at_ + j) (by omega))
    have HPu:=Qaa (Que ws at_ j (by omega));have HSz:Hid ((Qva ws at_ j).size<n):=by show _ < n;rw [Quf ws at_ j (by omega)];exact hlt
    generalize ws.getD (at_ + j) 0=x at c1 HPu
    iterate 30 go_step
    refine Qo4 (id:=5) ?_
    simp only [List.size_toArray,List.length_cons,List.length_nil,Nat.reduceAdd,Nat.zero_add,List.range,List.range.loop]
    iterate 2 (refine Qin rfl rfl (fun K hK=>?_);go_simp;refine hK _ _ ?_;clear hK K)
    refine Qt8 (c:=w.heap.size) (cap:=n) (s:=j) (r:=0) (buf:=Qva ws at_ j) (tm:=false) (v:=.int .i64 x) (z:=.tuple #[]) rfl rfl (by simp [execOp,scase,Act.eval]) HQ.out HSz.out ?_
    rw [HPu.out];refine Qle ?_
    go_wp2_with fail;exact ⟨⟨j+1,by omega,by go_num,heap_setChan _ _ _ _ _ _ _ _ (by rw [HZ.out];omega),Qd2 HG.out (Nat.le_refl _) _ _ _ _ _ _,by show (World.setChan _ _ _ _ _ _ _ _).heap.size=_;rw [size_setChan];exact HZ.out⟩,by simp [intOf];omega⟩
   ·have dl:decide ((j:Int)<(n:Int))=false:=by simp;omega
    obtain rfl:j=n:=by omega
    have hcl:=fun ats ty=>run_close_open (P:=Tryz.prog) (w:=wr) ats ty HQ.out
    have HE:=Qaa (Qws ws at_ j HL.out);go_wp2_with fail;go_ret;rw [HZ.out,HE.out];refine ⟨rfl,?_,?_⟩
    ·exact (Qd2 HG.out (Nat.le_refl _) j (Qi3 ws at_) true j 0 false).alloc _
    ·refine ⟨?_,b1,?_,j,j,0,?_⟩
     ·show _ < (World.alloc _ _).heap.size
      simp [HZ.out]
     ·have:=heap_alloc_new (wr.setChan w.heap.size j (Qi3 ws at_) true j 0 false) (.cells #[.chan (some w.heap.size),.int .i64 at_] 173);rw [size_setChan,HZ.out] at this;exact this
     ·have:=heap_alloc_old (wr.setChan w.heap.size j (Qi3 ws at_) true j 0 false) (.cells #[.chan (some w.heap.size),.int .i64 at_] 173) (r:=w.heap.size) (by rw [size_setChan,HZ.out];omega);exact this.trans (heap_setChan _ _ _ _ _ _ _ _ (by rw [HZ.out];omega))
theorem Qna (a:Option Addr) (cap:Nat) (w:World) :
 Calls Tryz.prog 105 #[.slice a 0 cap,.int .i64 0] w fun e w'=>e=.returned (.pointer (some ⟨w.heap.size+1,0,none⟩))/\Old w w'/\Pu w' w.heap.size [] 0:=by
 have hmk0:(Instr.makeChan 174 (.int .i64 0)).run Tryz.prog w=.ok (.chan (some w.heap.size)) (w.alloc (.chan 0 #[] false 0 0 false)):=Qip w 0 (by omega);have hcl:=fun ats ty=>run_close_open (P:=Tryz.prog) (w:=w.alloc (.chan 0 #[] false 0 0 false)) ats ty (heap_alloc_new _ _)
 go_enter Tryz.func105,Tryz.ntmps105;go_wp2_with fail
 all_goals (
  refine wp_loop_rounds 1 ?_
  rw [rounds_succ];go_wp2_with fail;go_ret;have hz:(w.alloc (.chan 0 #[] false 0 0 false)).heap.size=w.heap.size+1:=by simp
  refine ⟨rfl,?_,?_⟩
  ·exact (Qd2 ((Old.refl w).alloc (.chan 0 #[] false 0 0 false)) (Nat.le_refl _) 0 #[] true 0 0 false).alloc _
  ·refine ⟨?_,Nat.le_refl _,?_,0,0,0,?_⟩
   ·show _ < (World.alloc _ _).heap.size
    simp
   ·have:=heap_alloc_new ((w.alloc (.chan 0 #[] false 0 0 false)).setChan w.heap.size 0 #[] true 0 0 false) (.cells #[.chan (some w.heap.size),.int .i64 0] 173);rw [size_setChan,hz] at this;exact this
   ·have:=heap_alloc_old ((w.alloc (.chan 0 #[] false 0 0 false)).setChan w.heap.size 0 #[] true 0 0 false) (.cells #[.chan (some w.heap.size),.int .i64 0] 173) (r:=w.heap.size) (by rw [size_setChan,hz];omega);exact this.trans (heap_setChan _ _ _ _ _ _ _ _ (by rw [hz];omega)))
def Q0u:Value->Prop
 | .slice _ n c=>n<=c
 | _=>True
theorem Qiq (ws:List Int) (v:Value) (at_ : Nat) (w:World) (h:Row w v ws) (hf:Q0u v) (hl:ws.length<=4000) (ha:at_<=ws.length) :
 Calls Tryz.prog 105 #[v,.int .i64 at_] w fun e w'=>e=.returned (.pointer (some ⟨w.heap.size+1,0,none⟩))/\Old w w'/\Pu w' w.heap.size ws at_:=by
 rcases h with ⟨a,cap,rfl,rfl⟩ | ⟨b,o,cap,rfl,hb,h0,hc⟩
 ·obtain rfl:at_ = 0:=by simpa using ha
  exact Qna a cap w
 ·exact Qm9 ws b o cap at_ (ws.length - at_) w hb hc hf hl (by omega)
end Go.Proofs.YtdaepfjocofkjaaGreatDoor
