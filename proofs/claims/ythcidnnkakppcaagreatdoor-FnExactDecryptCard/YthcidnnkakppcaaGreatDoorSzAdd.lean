/- Proved: what its theorems say. -/
import Derived.Test.YthcidnnkakppcaaGreatDoorDe14
set_option linter.unusedVariables false
set_option linter.unusedSimpArgs false
set_option maxHeartbeats 2000000
namespace Go.Proofs.YthcidnnkakppcaaGreatDoor
open Go.ChangeShapes Go.WideShapes Go.ChangeAt Go.RowKit
open M2
theorem Qbv (n c most:Nat) (w:World) (hn:cnt n≤most) (hm:most≤80) :
  Calls Tryz.prog 105 #[.agg (szA (pad n) c),.int .i64 (most:Int)] w fun e w'=>e=.returned (.agg (szV n))/\Old w w':=by
 have:=Qoj (pad n) c most w (Qe8 (by unfold cnt at hn;omega)) (Qf4 n) hm (by rw [Qe7];unfold pad;rw [Qvs most hn hm,Qag]);rw [Qe7] at this;exact this
theorem Qab {n k:Nat} (h:cnt n<=k) (hk:k<=80):(pad n).length=80:=Qe8 (by unfold cnt at h;omega)
theorem Qdg (n k:Nat) (h:cnt n<=k):(dig n).take k=dig n:=List.take_of_length_le h
theorem Qqd {a b k:Nat} {out:List Nat} {c:Nat} (h:AddI (dig a) (dig b) k out c) (ha:cnt a<=k) (hb:cnt b<=k) (hk:k<=79):ext (out++[c])=pad (a+b)/\cnt (a+b)<=k+1:=by
 have e:=h.eq;rw [Qdg a k ha,Qdg b k hb,Qag,Qag] at e;have hl:Lim (out++[c]):=h.lim.append (Lim.cons (by have:=h.c1;have:LB=268435456:=rfl;omega) Lim.nil);have hv:val (out++[c])=a+b:=by rw [Qcw,h.len,e]
 have hlen:(out++[c]).length=k+1:=by simp [h.len]
 refine ⟨?_,?_⟩
 ·rw [Qhf (Qjy hl) (Qdy (by rw [hlen];omega)),Qjz,hv]
 ·have:=Qbi hl;rw [hv,hlen] at this;exact Qb4 this
theorem Qtw (a b:Nat) (w:World) (ha:cnt a≤79) (hb:cnt b≤79) :
  Calls Tryz.prog 124 #[.agg (szV a),.agg (szV b)] w fun e w'=>e=.returned (.agg (szV (a+b)))/\Old w w':=by
 have HLA:=Qab ha (by omega);have HLB:=Qab hb (by omega);have a80:=Qb2 HLA (cnt a);have b80:=Qb2 HLB (cnt b);have HPA:=Qaa HLA;have HPB:=Qaa HLB;clear HLA HLB;unfold szV;go_enter Tryz.func124,Tryz.ntmps124;go_wp2_with fail
 ·clear a80 b80;have hA:cnt a≤cnt b:=by omega
  have hB:cnt b<=cnt b:=Nat.le_refl _;have hM:cnt b<=79:=by omega
  go_loopw [7,15] (fun cy i W=>∃(k:Nat) (out:List Nat) (c:Nat),k<=cnt b/\i=.int .i64 (k:Int)/\cy=.int .i64 (c:Int)/\c<=1/\Hid (AddI (dig a) (dig b) k out c)/\Hid (Sz W w.heap.size (pad a) (cnt a))/\Hid (Sz W (w.heap.size+1) (pad b) (cnt b))/\Hid (Sz W (w.heap.size+1+1) (ext []) 0)/\Hid (Sz W (w.heap.size+1+1+1) (ext out) 0)/\Hid (Old w W)) (fun _ i _=>cnt b - (intOf i).toNat)
  case atStart=>exact ⟨0,[],0,by omega,rfl,rfl,by omega,AddI.start _ _,(((Sz.new w _ _ HPA.out).alloc _).alloc _).alloc _,(((Sz.new' _ _ _ _ HPB.out (by simp)).alloc _).alloc _),((Sz.zero _ _ (by simp)).alloc _),Sz.zero _ _ (by simp),((((Old.refl w).alloc _).alloc _).alloc _).alloc _⟩
  case round=>
   obtain ⟨k,out,c,hk,rfl,rfl,hc,HI,HSA,HSB,HR,HO,HG⟩:=hrel
   by_cases hlt:k<cnt b
   ·have i1:(k:Int)<80:=by omega
    have c1:=HSA.out.at (j:=k) (by omega);have c2:=HSB.out.at (j:=k) (by omega);have f1:=HO.out.fro k;have c3:=HO.out.at (j:=k) (by omega);rw [Qck] at c1 c2;have l1:=(Qao a).getD k;have l2:=(Qao b).getD k;have HN:=HI.out.step (Qao a) (Qao b);have HL:=Qaa HI.out.len;have HN':=Qaa HN;have hc1:=HN.c1;clear HN;generalize (dig a).getD k 0=x at *;generalize (dig b).getD k 0=y at *;generalize (ext out).getD k 0=z at *;have hx:x<268435456:=l1;have hy:y<268435456:=l2;clear l1 l2;go_wp2_with fail
    go_quiet (fail)
    have e1:((c:Int)+((x:Int)+(y:Int)))%268435456=(((c+x+y)%LB:Nat):Int):=by unfold LB;omega
    have e2:((c:Int)+((x:Int)+(y:Int)))/268435456=(((c+x+y)/LB:Nat):Int):=by unfold LB;omega
    generalize (c+x+y)%LB=u at *;generalize (c+x+y)/LB=c' at *;go_wp2_with fail;refine ⟨⟨k+1,out++[u],c',by omega,by go_num,by first | rfl | rw [e2],hc1,HN',(HSA.out.drew _).other _ (by first | (simp;done) | (simp;omega)) _,(HSB.out.drew _).other _ (by first | (simp;done) | (simp;omega)) _,(HR.out.drew _).other _ (by simp) _,?_,(HG.out.drewN _).own (by simp;omega) _⟩,by simp [intOf];omega⟩;have:=(HO.out.drew nq).set (j:=k) (by omega) u;rw [<- HL.out,Qe6 (by rw [HL.out];omega)] at this;rw [<- HL.out];exact this
   ·obtain rfl:k=cnt b:=by omega
    have i1:((cnt b:Nat):Int)<80:=by omega
    have f1:=HO.out.fro (cnt b);have c3:=HO.out.at (j:=cnt b) (by omega);obtain ⟨HE1,HE2⟩:=Qqd HI.out hA hB hM;have HE:=Qaa HE2;have HPS:=Qaa (Qab HE2 (by omega))
    have HD:Hid (Sz (wr.setCell ⟨w.heap.size+1+1+1,cnt b,none⟩ (.int .i64 (c:Int))) (w.heap.size+1+1+1) (pad (a+b)) 0):=by
     have:=HO.out.set (j:=cnt b) (by omega) c;rw [show (ext out).set (cnt b) c=pad (a+b) by rw [<- HE1,<- Qe6 (by rw [HI.out.len];omega),HI.out.len]] at this;exact this
    have HR0:=HR;clear HR;have HR:Hid (Sz (wr.setCell ⟨w.heap.size+1+1+1,cnt b,none⟩ (.int .i64 (c:Int))) (w.heap.size+1+1) (ext []) 0):=HR0.out.other _ (by simp) _;have HG0:=HG;clear HG;have HG:Hid (Old w (wr.setCell ⟨w.heap.size+1+1+1,cnt b,none⟩ (.int .i64 (c:Int)))):=HG0.out.own (by simp;omega) _;clear HE1 HE2 HR0 HG0 HI HO HSA HSB;generalize (ext out).getD (cnt b) 0=z at *;go_wp2_with (first | ((with_reducible refine Qaq HD.out ?_ ?_);exact rfl;simp only [Act.put,List.setIfInBounds_toArray,List.set_cons_succ,List.set_cons_zero]) | (go_at_call 105;refine (Qbv (a+b) 0 (cnt b+1) _ HE.out (by omega)).mono ?_;rintro e w5 ⟨rfl,g5⟩;have HR5:=Qaa (HR.out.old g5);have HG5:=Qaa (Old.trans HG.out g5)) | ((with_reducible refine Qap HR5.out (pad (a+b)) (cnt (a+b)) HPS.out ?_ ?_ ?_);exact rfl;exact rfl;simp only [Act.put]) | ((with_reducible refine bodyPost_ret (Qdf Tryz.results124 _ _ ?_ (HR5.out.row (pad (a+b)) (cnt (a+b)) HPS.out)) ?_ ?_);exact rfl;exact rfl;exact ⟨rfl,HG5.out.row (by omega) _⟩))
 ·clear a80 b80;have hA:cnt a≤cnt a:=Nat.le_refl _;have hB:cnt b≤cnt a:=by omega
  have hM:cnt a<=79:=by omega
  go_loopw [7,15] (fun cy i W=>∃(k:Nat) (out:List Nat) (c:Nat),k<=cnt a/\i=.int .i64 (k:Int)/\cy=.int .i64 (c:Int)/\c<=1/\Hid (AddI (dig a) (dig b) k out c)/\Hid (Sz W w.heap.size (pad a) (cnt a))/\Hid (Sz W (w.heap.size+1) (pad b) (cnt b))/\Hid (Sz W (w.heap.size+1+1) (ext []) 0)/\Hid (Sz W (w.heap.size+1+1+1) (ext out) 0)/\Hid (Old w W)) (fun _ i _=>cnt a - (intOf i).toNat)
  case atStart=>exact ⟨0,[],0,by omega,rfl,rfl,by omega,AddI.start _ _,(((Sz.new w _ _ HPA.out).alloc _).alloc _).alloc _,(((Sz.new' _ _ _ _ HPB.out (by simp)).alloc _).alloc _),((Sz.zero _ _ (by simp)).alloc _),Sz.zero _ _ (by simp),((((Old.refl w).alloc _).alloc _).alloc _).alloc _⟩
  case round=>
   obtain ⟨k,out,c,hk,rfl,rfl,hc,HI,HSA,HSB,HR,HO,HG⟩:=hrel
   by_cases hlt:k<cnt a
   ·have i1:(k:Int)<80:=by omega
    have c1:=HSA.out.at (j:=k) (by omega);have c2:=HSB.out.at (j:=k) (by omega);have f1:=HO.out.fro k;have c3:=HO.out.at (j:=k) (by omega);rw [Qck] at c1 c2;have l1:=(Qao a).getD k;have l2:=(Qao b).getD k;have HN:=HI.out.step (Qao a) (Qao b);have HL:=Qaa HI.out.len;have HN':=Qaa HN;have hc1:=HN.c1;clear HN;generalize (dig a).getD k 0=x at *;generalize (dig b).getD k 0=y at *;generalize (ext out).getD k 0=z at *;have hx:x<268435456:=l1;have hy:y<268435456:=l2;clear l1 l2;go_wp2_with fail
    go_quiet (fail)
    have e1:((c:Int)+((x:Int)+(y:Int)))%268435456=(((c+x+y)%LB:Nat):Int):=by unfold LB;omega
    have e2:((c:Int)+((x:Int)+(y:Int)))/268435456=(((c+x+y)/LB:Nat):Int):=by unfold LB;omega
    generalize (c+x+y)%LB=u at *;generalize (c+x+y)/LB=c' at *;go_wp2_with fail;refine ⟨⟨k+1,out++[u],c',by omega,by go_num,by first | rfl | rw [e2],hc1,HN',(HSA.out.drew _).other _ (by first | (simp;done) | (simp;omega)) _,(HSB.out.drew _).other _ (by first | (simp;done) | (simp;omega)) _,(HR.out.drew _).other _ (by simp) _,?_,(HG.out.drewN _).own (by simp;omega) _⟩,by simp [intOf];omega⟩;have:=(HO.out.drew nq).set (j:=k) (by omega) u;rw [<- HL.out,Qe6 (by rw [HL.out];omega)] at this;rw [<- HL.out];exact this
   ·obtain rfl:k=cnt a:=by omega
    have i1:((cnt a:Nat):Int)<80:=by omega
    have f1:=HO.out.fro (cnt a);have c3:=HO.out.at (j:=cnt a) (by omega);obtain ⟨HE1,HE2⟩:=Qqd HI.out hA hB hM;have HE:=Qaa HE2;have HPS:=Qaa (Qab HE2 (by omega))
    have HD:Hid (Sz (wr.setCell ⟨w.heap.size+1+1+1,cnt a,none⟩ (.int .i64 (c:Int))) (w.heap.size+1+1+1) (pad (a+b)) 0):=by
     have:=HO.out.set (j:=cnt a) (by omega) c;rw [show (ext out).set (cnt a) c=pad (a+b) by rw [<- HE1,<- Qe6 (by rw [HI.out.len];omega),HI.out.len]] at this;exact this
    have HR0:=HR;clear HR;have HR:Hid (Sz (wr.setCell ⟨w.heap.size+1+1+1,cnt a,none⟩ (.int .i64 (c:Int))) (w.heap.size+1+1) (ext []) 0):=HR0.out.other _ (by simp) _;have HG0:=HG;clear HG;have HG:Hid (Old w (wr.setCell ⟨w.heap.size+1+1+1,cnt a,none⟩ (.int .i64 (c:Int)))):=HG0.out.own (by simp;omega) _;clear HE1 HE2 HR0 HG0 HI HO HSA HSB;generalize (ext out).getD (cnt a) 0=z at *;go_wp2_with (first | ((with_reducible refine Qaq HD.out ?_ ?_);exact rfl;simp only [Act.put,List.setIfInBounds_toArray,List.set_cons_succ,List.set_cons_zero]) | (go_at_call 105;refine (Qbv (a+b) 0 (cnt a+1) _ HE.out (by omega)).mono ?_;rintro e w5 ⟨rfl,g5⟩;have HR5:=Qaa (HR.out.old g5);have HG5:=Qaa (Old.trans HG.out g5)) | ((with_reducible refine Qap HR5.out (pad (a+b)) (cnt (a+b)) HPS.out ?_ ?_ ?_);exact rfl;exact rfl;simp only [Act.put]) | ((with_reducible refine bodyPost_ret (Qdf Tryz.results124 _ _ ?_ (HR5.out.row (pad (a+b)) (cnt (a+b)) HPS.out)) ?_ ?_);exact rfl;exact rfl;exact ⟨rfl,HG5.out.row (by omega) _⟩))
end Go.Proofs.YthcidnnkakppcaaGreatDoor
