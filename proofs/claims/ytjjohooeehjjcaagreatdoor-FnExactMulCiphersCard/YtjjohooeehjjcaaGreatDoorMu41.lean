/- Proved: what its theorems say. -/
import Derived.Test.YtjjohooeehjjcaaGreatDoorMu36
set_option linter.unusedVariables false
set_option linter.unusedSimpArgs false
set_option maxHeartbeats 4000000
set_option maxRecDepth 100000
namespace Go.Proofs.YtjjohooeehjjcaaGreatDoor
open Go.ChangeShapes Go.WideShapes Go.ChangeAt Go.RowKit
open M2
theorem Q0f (z:Int) (x:Value) (w:World) (hx:Rz z w x) (hz:(dg z).length<=1000):Calls Tryz.prog 44 #[x] w fun e w'=>∃y,e=.returned y/\Old w w'/\Rz (-z) w' y:=by
 obtain ⟨a,c,rfl,hr⟩:=hx;have hl:(toI (dg z)).length=(dg z).length:=by simp [toI]
 rw [<- hl];refine (Qx1 z a c w hz).mono fun e w' h=>?_
 obtain ⟨h1,h2⟩:=h;refine ⟨_,h1,h2,a,c,?_,?_⟩
 ·rw [hl,Qzq]
 ·rw [show dg (-z)=dg z by unfold dg;rw [Int.natAbs_neg]];exact hr.old h2
theorem Qnl (A B:Nat→Int) (n:Nat) (v u:Value) (w:World) (hn:1≤n∧n≤16) (hA:Bd A n 7) (hB:Bd B n 7) (hv:Zr A n w v) (hu:Zr B n w u) :
  Calls Tryz.prog 21 #[.int .i64 n,v,u] w fun e w'=>∃p,e=.returned (.slice (some ⟨p,0,none⟩) n n)/\w.heap.size<=p/\Old w w'/\Zn (pzF A B n) n p w':=by
 obtain ⟨i0,hi,hz0,hz1,hz2⟩:=info_parts Tryz.infoL2W;obtain ⟨b0,o0,c0,rfl,hb0⟩:=hv.slice;obtain ⟨b1,o1,c1,rfl,hb1⟩:=hu.slice;have HA:=Qaa (fun k hk=>hv.at k hk);have HB:=Qaa (fun k hk=>hu.at k hk);have KM:=Qaa (fun i k (hi:i<n) (hk:k<n) W x y (hx:Rz (A i) W x) (hy:Rz (B k) W y)=>Qsp (A i) (B k) x y W hx hy (Nat.le_trans (hA i hi) (by omega)) (Nat.le_trans (hB k hk) (by omega)));have KO:=Qaa (fun i k (hi:i<n) (hk:k<n) W x (hx:Rz (A i*B k) W x)=>Q0f (A i*B k) x W hx (Nat.le_trans (Qs3 (hA i hi) (hB k hk)) (by omega)))
 have KP:=Qaa (fun i k (hi:i<n) (hk:k<n) W x y (hx:Rz (pz A B n (i*n+k) ((i+k)%n)) W x) (hy:Rz (pzT A B n i k) W y)=>Qvr (pz A B n (i*n+k) ((i+k)%n)) (pzT A B n i k) x y W hx hy (Nat.le_trans (Qu2 hn.2 hA hB (i*n+k) (by
  have h1:(i+1)*n<=n*n:=Nat.mul_le_mul_right n hi;rw [Nat.add_mul] at h1;omega) _) (by omega)) (Nat.le_trans (Qs1 (Qs4 hA hB i k hi hk)) (by omega)))
 clear hv hu hA hB;have hnn:0<n:=by omega
 go_enter Tryz.func21,Tryz.ntmps21;go_wp2_with (at_make;refine wpList_make_full _ rfl _ _ 47 rfl w.heap.size 53 i0 (.agg #[.bool false,.slice none 0 0]) 2 Tryz.underlying47 hi hz0 hz1 .i64 .i64 _ _ n rfl rfl rfl rfl (by rw [hz2];omega) (by unfold maxLen;omega) (Nat.le_refl _) ?_;intro w1 hown hgrow)
 have HZ:Hid (Zn (pz A B n (0*n+0)) n w.heap.size w1):=by
  rw [Nat.zero_mul];exact Zn.zero hown
 have HG:Hid (Old w w1):=Old.by_ (Old.refl _) hgrow (fun b hb=>by cases hb);obtain ⟨pb,hpb⟩:∃pb,w.heap.size=pb:=⟨_,rfl⟩
 rw [hpb] at HZ ⊢;have HPB:Hid (w.heap.size<=pb):=Nat.le_of_eq hpb;clear hown hgrow hpb
 go_loopw [17,8,9] (fun x _ _ W=>∃i:Nat,i<=n/\x=.int .i64 i/\Hid (Zn (pz A B n (i*n+0)) n pb W)/\Hid (Old w W)) (fun x _ _ _=>n - (intOf x).toNat)
 case atStart=>exact ⟨0,by omega,rfl,HZ,HG⟩
 case round=>
  obtain ⟨i,hi',rfl,HZ1,HG1⟩:=hrel;clear HZ HG
  by_cases hlt:i<n
  ·obtain ⟨ax,cx,x0,x1,hx⟩:=HA.out i hlt;have q0:=(HG1.out.cell (p:=⟨b0,o0+i*2,none⟩) hb0).trans x0;have q1:=(HG1.out.cell (p:=⟨b0,o0+i*2+1,none⟩) hb0).trans x1;have KM1:=Qaa (fun k hk=>KM.out i k hlt hk);have KO1:=Qaa (fun k hk=>KO.out i k hlt hk);have KP1:=Qaa (fun k hk=>KP.out i k hlt hk);have HX:=Qaa hx;have iL:(i:Int)<(n:Int):=by omega
   obtain ⟨nx,hnx⟩:∃b,ng (A i)=b:=⟨_,rfl⟩
   obtain ⟨lx,hlx⟩:∃l,(dg (A i)).length=l:=⟨_,rfl⟩
   rw [hnx,hlx] at HX;rw [hnx] at q0;rw [hlx] at q1;clear x0 x1 hx hnx hlx;obtain ⟨W2,hW2⟩:∃B:World,wr.alloc (.cells #[.bool nx,.slice ax lx cx] 53)=B:=⟨_,rfl⟩
   have A2:Old wr W2:=by rw [<- hW2];exact (Old.refl wr).alloc _
   have BX:Hid (Bk W2 wr.heap.size #[.bool nx,.slice ax lx cx] 53):=by rw [<- hW2];exact Bk.new' wr _ _ rfl
   have HZ2:=Qaa (HZ1.out.old A2);have HG2:=Qaa (Old.trans HG1.out A2);obtain ⟨kx,hkx⟩:∃k,wr.heap.size=k:=⟨_,rfl⟩
   rw [hkx] at BX
   have HKX:Hid (kx≠pb):=by
    show kx≠pb
    have:=HZ1.out.1;omega
   clear A2 HZ1 HG1
   rename World=>wq
   go_wp2_with fail
   go_loopw [24,10,11] (fun x _ _ W=>∃k:Nat,k<=n/\x=.int .i64 k/\Hid (Zn (pz A B n (i*n+k)) n pb W)/\Hid (Old w W)/\Hid (Bk W kx #[.bool nx,.slice ax lx cx] 53)) (fun x _ _ _=>n - (intOf x).toNat)
   case atStart=>exact ⟨0,by omega,rfl,HZ2,HG2,BX⟩
   case round=>
    obtain ⟨k,hk',rfl,HZ3,HG3,BX3⟩:=hrel;clear HZ2 HG2 BX
    by_cases hkt:k<n
    ·obtain ⟨ay,cy,y0,y1,hy⟩:=HB.out k hkt;have q0:=(HG3.out.cell (p:=⟨b1,o1+k*2,none⟩) hb1).trans y0;have q1:=(HG3.out.cell (p:=⟨b1,o1+k*2+1,none⟩) hb1).trans y1;have KM2:=Qaa (KM1.out k hkt);have KO2:=Qaa (KO1.out k hkt);have KP2:=Qaa (KP1.out k hkt);have HY:=Qaa hy;have kL:(k:Int)<(n:Int):=by omega
     obtain ⟨ny,hny⟩:∃b,ng (B k)=b:=⟨_,rfl⟩
     obtain ⟨ly,hly⟩:∃l,(dg (B k)).length=l:=⟨_,rfl⟩
     rw [hny,hly] at HY;rw [hny] at q0;rw [hly] at q1;obtain ⟨pl,hpl⟩:∃p,(i+k)%n=p:=⟨_,rfl⟩
     have hpn:pl<n:=by rw [<- hpl];exact Nat.mod_lt _ (by omega)
     have HZS:=Qaa (fun z (hz:pz A B n (i*n+k) pl+pzT A B n i k=z)=>(⟨by rw [<- hpl] at hz ⊢;rw [Qx7 A B n i k hkt];exact hz,fun j hj hne=>Qv1 A B n i k j hkt (by rw [hpl];exact hne)⟩:pz A B n (i*n+(k+1)) pl=z/\∀j,j<n->j≠pl->pz A B n (i*n+(k+1)) j=pz A B n (i*n+k) j));rw [hpl] at KP2;have HT:Hid ((n<=i+k->pzT A B n i k = -(A i*B k))/\(i+k<n->pzT A B n i k=A i*B k)):=⟨fun h=>if_pos h,fun h=>if_neg (by omega)⟩;have m1:IntKind.i64.wrap ((i:Int)+(k:Int))=(i:Int)+(k:Int):=by rw [IntKind.wrap_i64];omega
     have m2:((i:Int)+(k:Int)).tmod (n:Int)=(pl:Int):=by
      rw [Int.tmod_eq_emod_of_nonneg (by omega),<- hpl]
      push_cast
      rfl
     have m3:((i:Int)+(k:Int))%(n:Int)=(pl:Int):=by
      rw [<- hpl]
      push_cast
      rfl
     have m4:¬(n:Int)=0:=by omega
     have m5:(pl:Int)<(n:Int):=by omega
     clear y0 y1 hy hny hly hpl;obtain ⟨W4,hW4⟩:∃B:World,wr.alloc (.cells #[.bool ny,.slice ay ly cy] 53)=B:=⟨_,rfl⟩
     have A4:Old wr W4:=by rw [<- hW4];exact (Old.refl wr).alloc _
     have BY4:Hid (Bk W4 wr.heap.size #[.bool ny,.slice ay ly cy] 53):=by rw [<- hW4];exact Bk.new' wr _ _ rfl
     have BX4:=Qaa (BX3.out.old A4);have HZ4:=Qaa (HZ3.out.old A4);have HG4:=Qaa (Old.trans HG3.out A4);have HX4:=Qaa (HX.out.old HG4.out);have HY4:=Qaa (HY.out.old HG4.out);obtain ⟨ky,hky⟩:∃k,wr.heap.size=k:=⟨_,rfl⟩
     rw [hky] at BY4;clear A4 HZ3 HG3 BX3;have x0:=BX4.out.c (i:=0) rfl;have x1:=BX4.out.c (i:=1) rfl;have y0:=BY4.out.c (i:=0) rfl;have y1:=BY4.out.c (i:=1) rfl;go_wp2_with fail;refine (KM2.out _ _ _ HX4.out HY4.out).mono ?_
     rintro e w5 ⟨z5,rfl,g5,o5⟩;have HZ5:=Qaa (HZ4.out.old g5);have HG5:=Qaa (Old.trans HG4.out g5);have BX5:=Qaa (BX4.out.old g5);have HZR:=Qaa o5.rz;obtain ⟨az,cz,rfl,_⟩:=o5;obtain ⟨nz,hnz⟩:∃b,ng (A i*B k)=b:=⟨_,rfl⟩
     obtain ⟨lz,hlz⟩:∃l,(dg (A i*B k)).length=l:=⟨_,rfl⟩
     rw [hnz,hlz] at HZR ⊢;clear g5 x0 x1 y0 y1 hnz hlz HZ4 HG4 BX4 BY4 KM2 hW4 hky;obtain ⟨W6,hW6⟩:∃B:World,w5.alloc (.cells #[.bool nz,.slice az lz cz] 53)=B:=⟨_,rfl⟩
     have A6:Old w5 W6:=by rw [<- hW6];exact (Old.refl w5).alloc _
     have BZ6:Hid (Bk W6 w5.heap.size #[.bool nz,.slice az lz cz] 53):=by rw [<- hW6];exact Bk.new' w5 _ _ rfl
     have BX6:=Qaa (BX5.out.old A6);have HZ6:=Qaa (HZ5.out.old A6);have HG6:=Qaa (Old.trans HG5.out A6);have HR6:=Qaa (HZR.out.old A6);obtain ⟨kz,hkz⟩:∃k,w5.heap.size=k:=⟨_,rfl⟩
     rw [hkz] at BZ6;have hkw:w.heap.size<=kz:=by rw [<- hkz];exact HG5.out.size
     have hkx:kx≠kz:=by have:=BX5.out.lt;omega
     have hpz:pb≠kz:=by have:=HZ5.out.1;omega
     have HKZ:Hid (w.heap.size<=kz/\kx≠kz/\pb≠kz):=⟨hkw,hkx,hpz⟩;clear A6 BX5 HZ5 HG5 hkw hkx hpz HZR;have z0:=BZ6.out.c (i:=0) rfl;have z1:=BZ6.out.c (i:=1) rfl;obtain ⟨ap,cp,p0,p1,hp⟩:=HZ6.out.at pl hpn;have HP6:=Qaa hp;obtain ⟨z,hz⟩:∃z,pz A B n (i*n+k) pl+pzT A B n i k=z:=⟨_,rfl⟩
     have HE:=Qaa (HZS.out z hz);rw [hz] at KP2;obtain ⟨np,hnp⟩:∃b,ng (pz A B n (i*n+k) pl)=b:=⟨_,rfl⟩
     obtain ⟨lp,hlp⟩:∃l,(dg (pz A B n (i*n+k) pl)).length=l:=⟨_,rfl⟩
     rw [hnp] at p0;rw [hlp] at p1;rw [hnp,hlp] at HP6;have hpb6:=HZ6.out.1;have hn16:(n:Int)<=16:=by omega
     clear hp hz hnp hlp;rcases Nat.lt_or_ge (i+k) n with hge | hge
     case' inl=>
      have d1:decide ((i:Int)+(k:Int)<(n:Int))=true:=decide_eq_true (by omega);have d2:(i:Int)+(k:Int)<(n:Int):=by omega
      have ez:A i*B k=pzT A B n i k:=(HT.out.2 hge).symm;rw [ez] at HR6;have hs:(i:Int)+(k:Int)=(pl:Int):=by rw [<- m3,Int.emod_eq_of_lt (by omega) (by omega)]
      clear KO2 ez;go_wp2_with fail;refine Qzb _ i k pb pl n np ap lp cp kz _ _ _ _ (fun W u=>RzG z pb W u) (fun W W' v h q=>h.old q) (fun W v h=>?_) BZ6.out m5 (fun W q=>⟨(q.cell (p:=⟨pb,pl*2,none⟩) hpb6).trans p0,(q.cell (p:=⟨pb,pl*2+1,none⟩) hpb6).trans p1⟩) hs hn16 (fun W q=>⟨⟨_,(q.cell (p:=⟨pb,pl*2,none⟩) hpb6).trans p0⟩,⟨_,(q.cell (p:=⟨pb,pl*2+1,none⟩) hpb6).trans p1⟩,(HZ6.out.old q).2.1 _,(HZ6.out.old q).2.1 _⟩) (fun W v h=>?_) (fun W q=>?_) _ _ ?_ ?_ ?_ ?_ ?_ ?_
      ·obtain ⟨a,c,e,_⟩:=h;exact ⟨_,e,rfl,by simp [Value.oneCell']⟩
      ·obtain ⟨a,c,e,_⟩:=h;exact ⟨_,_,_,_,e⟩
      ·refine (KP2.out W _ _ (HP6.out.old q) (HR6.out.old q)).mono fun e w' h=>?_
       obtain ⟨x,e1,q',o⟩:=h;exact ⟨_,e1,q',RzG.wz o (Nat.lt_of_lt_of_le hpb6 q.size)⟩
      iterate 5 (·exact rfl)
     case' inr=>
      have d1:decide ((i:Int)+(k:Int)<(n:Int))=false:=decide_eq_false (by omega);have d2:¬(i:Int)+(k:Int)<(n:Int):=by omega
      have ez : -(A i*B k)=pzT A B n i k:=(HT.out.1 hge).symm;rw [ez] at KO2;have hs:(i:Int)+(k:Int)=((i+k:Nat):Int):=by omega
      have hd:((i+k:Nat):Int) - (n:Int)=(pl:Int):=by
       have h1:=Int.emod_eq_of_lt (a:=(i:Int)+(k:Int) - (n:Int)) (b:=(n:Int)) (by omega) (by omega);rw [Int.sub_emod_right,m3] at h1;omega
      obtain ⟨sm,hsm⟩:∃s,i+k=s:=⟨_,rfl⟩
      rw [hsm] at hs hd;clear ez hsm;go_wp2_with fail;refine Qzc _ i k sm pb pl n np ap lp cp kz _ _ _ _ (fun W u=>Rz (pzT A B n i k) W u) (fun W u=>RzG z pb W u) (fun W W' v h q=>h.old q) (fun W W' v h q=>h.old q) (fun W v h=>?_) BZ6.out m5 (fun W q=>⟨(q.cell (p:=⟨pb,pl*2,none⟩) hpb6).trans p0,(q.cell (p:=⟨pb,pl*2+1,none⟩) hpb6).trans p1⟩) hs hd hn16 (fun W q=>⟨⟨_,(q.cell (p:=⟨pb,pl*2,none⟩) hpb6).trans p0⟩,⟨_,(q.cell (p:=⟨pb,pl*2+1,none⟩) hpb6).trans p1⟩,(HZ6.out.old q).2.1 _,(HZ6.out.old q).2.1 _⟩) (fun W v h=>?_) (fun W q=>?_) (fun W q u hu=>?_) _ _ ?_ ?_ ?_ ?_ ?_ ?_ ?_
      ·obtain ⟨a,c,e,_⟩:=h;exact ⟨_,e,rfl,by simp [Value.oneCell']⟩
      ·obtain ⟨a,c,e,_⟩:=h;exact ⟨_,_,_,_,e⟩
      ·exact KO2.out W _ (HR6.out.old q)
      ·refine (KP2.out W _ _ (HP6.out.old q) hu).mono fun e w' h=>?_
       obtain ⟨x,e1,q',o⟩:=h;exact ⟨_,e1,q',RzG.wz o (Nat.lt_of_lt_of_le hpb6 q.size)⟩
      iterate 6 (·exact rfl)
     all_goals
      intro us W9 b9 u9' l9 c9 g9 pv;have hx:=pv;obtain ⟨a',c',e9,_⟩:=hx;have e':b9=ng z/\u9'=a'/\l9=(dg z).length/\c9=c':=by simpa using e9
      obtain ⟨rfl,rfl,rfl,rfl⟩:=e';have N9:=Qaa (Zn.put (HZ6.out.old g9) hpn pv HE.out.1 HE.out.2);have G9:Hid (Old w ((W9.setCell ⟨pb,pl*2,none⟩ (.bool (ng z))).setCell ⟨pb,pl*2+1,none⟩ (.slice u9' (dg z).length c9))):=((Old.trans HG6.out g9).own (p:=⟨pb,pl*2,none⟩) HPB.out _).own (p:=⟨pb,pl*2+1,none⟩) HPB.out _;have X9:=Qaa (Chn.bk (((Chn.refl pb W9).set (pl*2) (.bool (ng z))).set (pl*2+1) (.slice u9' (dg z).length c9)) HKX.out (BX6.out.old g9));simp only [Qal,Act.put,Qd6,Qdp,List.range,List.range.loop,List.map_cons,List.map_nil,List.getD_cons_zero,List.getD_cons_succ,List.setIfInBounds_toArray,List.set_cons_succ,List.set_cons_zero];clear g9 pv e9 p0 p1 z0 z1 HZ6 HG6 BX6 BZ6 HP6 KP2 HE HZS HT;generalize (W9.setCell ⟨pb,pl*2,none⟩ (.bool (ng z))).setCell ⟨pb,pl*2+1,none⟩ (.slice u9' (dg z).length c9)=W10 at *;go_wp2_with fail;exact ⟨⟨k+1,by omega,by go_num,N9,G9,X9⟩,by simp [intOf];omega⟩
    ·have d1:decide ((k:Int)<(n:Int))=false:=decide_eq_false (by omega);obtain rfl:k=n:=by omega
     have HZ4:Hid (Zn (pz A B k ((i+1)*k+0)) k pb wr):=by
      rw [<- Qv2 A B k i];exact HZ3.out
     go_wp2_with fail;exact ⟨⟨i+1,by omega,by go_num,HZ4,HG3⟩,by simp [intOf];omega⟩
  ·have d1:decide ((i:Int)<(n:Int))=false:=decide_eq_false (by omega);obtain rfl:i=n:=by omega
   go_wp2_with fail;go_ret;exact ⟨pb,rfl,HPB.out,HG1.out,HZ1.out⟩
theorem TSW.rowW {T:TypeId} {bs:List Bool} {xss:List (List Int)} {W:World} {B:Nat->Prop} {v:Value} (hb:bs.length=xss.length) (h:TS T 2 xss.length (elW bs xss) W B [v]):Qjw W v bs xss:=by
 refine ⟨hb,?_⟩;rcases h with ⟨h0,h1,_⟩ | ⟨p,cap,vs,Bs,e,hc,_⟩
 ·simp at h1;exact .inl ⟨none,0,h1,List.length_eq_zero_iff.1 h0⟩
 ·simp at e;subst e;rcases Nat.eq_zero_or_pos xss.length with h0 | h0
  ·rw [h0];exact .inl ⟨_,_,rfl,List.length_eq_zero_iff.1 h0⟩
  ·refine .inr ⟨p,0,cap,fun j=>(Qa6 2 vs j).getD 1 (.slice none 0 0),rfl,Qaw hc.row,h0,fun j hj=>?_⟩;obtain ⟨x,e0,e1,hE⟩:=TB.two (hc.el j hj);have c0:=hc.cell j 0 hj (by omega);have c1:=hc.cell j 1 hj (by omega);have ex:(Qa6 2 vs j).getD 1 (.slice none 0 0)=x:=by simp [List.getD,e1]
   show W.cell? ⟨p,0+j*2,none⟩=_/\W.cell? ⟨p,0+j*2+1,none⟩=some ((Qa6 2 vs j).getD 1 (.slice none 0 0))/\Row W ((Qa6 2 vs j).getD 1 (.slice none 0 0)) _
   rw [ex,Nat.zero_add];exact ⟨c0.trans e0,c1.trans e1,hE.row⟩
theorem Qc1 (Nn:Nat) (ps:List Int) (zss:List (List Int)) (v u:Value) (w:World) (hv:Row w v ps) (h1:Qhd w u zss) (hN:1≤Nn∧Nn≤16) (hps:1≤ps.length∧ps.length≤6) (hG:Gr Nn ps zss) :
  Calls Tryz.prog 20 #[.agg #[.int .i64 Nn,v],u] w fun e w'=>∃v',e=.returned v'/\Old w w'/\Qjw w' v' (whB Nn ps zss) (whX Nn ps zss):=by
 obtain ⟨i0,hi,hz0,hz1,hz2⟩:=info_parts Tryz.infoInt;obtain ⟨j0,ji,jz0,jz1,jz2⟩:=info_parts Tryz.infoL2W;obtain ⟨ep,hb⟩:=hG.ps;have hzl:=hG.len;obtain ⟨a0,c0,ev⟩:=hv.slice;obtain ⟨a1,cap1,e1⟩:=h1.slice;rw [hzl] at e1;subst ev e1;obtain ⟨pz,hpz⟩:∃pz,pz=toI (dig (Qae (pnN ps))):=⟨_,rfl⟩
 obtain ⟨cz,hcz⟩:∃cz:Nat->List Int,∀i,cz i=toI (dig (coN (cqN zss i) (pnN ps))):=⟨_,fun i=>rfl⟩
 have HPR:Hid (∀W,Old w W->Calls Tryz.prog 40 #[.slice a0 ps.length c0] W fun e w'=>∃v',e=.returned v'/\Old W w'/\Row w' v' pz):=fun W g=>by rw [hpz];exact Qec (pnN ps) _ W (by rw [<- ep];exact hv.old g) hb.len6 hb.hi
 have HCP:Hid (∀i,i<Nn->∀W v',Old w W->Row W v' (Qkj zss i)->Calls Tryz.prog 42 #[v',.slice a0 ps.length c0] W fun e w'=>∃v2,e=.returned v2/\Old W w'/\Own w' W.heap.size v2 (cz i)):=fun i hi W v' g hr=>by
  obtain ⟨e1,hR⟩:=hG.col i hi;rw [hcz i];exact Qki (cqN zss i) (pnN ps) v' _ W (by rw [<- e1];exact hr) (by rw [<- ep];exact hv.old g) hR
 have HCT:Hid (∀i,i<Nn->∀W x y base,Own W base x (cz i)->base<=W.heap.size->Row W y pz->Calls Tryz.prog 41 #[x,y] W fun e w'=>∃v3,e=.returned (.agg #[.bool ((whB Nn ps zss).getD i false),v3])/\Old W w'/\Own w' base v3 ((whX Nn ps zss).getD i [])):=fun i hi W x y base hx hbase hy=>by
  obtain ⟨e1,hR⟩:=hG.col i hi;rw [Qkl Nn ps zss i hi,Qkm Nn ps zss i hi];rw [hcz i] at hx;rw [hpz] at hy
  have hc2:cnt (coN (cqN zss i) (pnN ps)*2)<=8:=by
   refine Qcd ?_
   have h1:=cnt_lt (coN (cqN zss i) (pnN ps));have h3:=Nat.pow_le_pow_right Qa3 (Qdb hR);have h4:LB^8=LB^7*LB:=Nat.pow_succ ..;have h5:LB^7*2<=LB^7*LB:=Nat.mul_le_mul_left _ (by decide);omega
  exact Qng (coN (cqN zss i) (pnN ps)) (Qae (pnN ps)) base x y W hx hbase hy (Nat.le_trans (Qdb hR) (by omega)) (Nat.le_trans hb.cnt (by omega)) (Nat.le_trans hc2 (by omega)) (Nat.mod_lt _ (Nat.pos_of_ne_zero hb.pos))
 have HRL:=Qaa (fun j hj=>(hG.row j hj).1);have HCG:Hid (∀i j,j<ps.length->(Qkj zss i).getD j 0=(zss.getD j []).getD i 0):=fun i j hj=>Qgq zss i j (by omega)
 have HCL:Hid (∀i,(Qkj zss i).length=ps.length):=fun i=>by rw [Qfq,hzl]
 have HBL:(whB Nn ps zss).length=(whX Nn ps zss).length:=by rw [Qx4,Qkk]
 have HXL:=Qaa (Qkk Nn ps zss);rcases h1 with ⟨a,cap,e,e'⟩ | ⟨b1,o1,cap,us1,e_1,hb1,h01,hc1⟩
 ·subst e';simp at hzl;omega
 simp only [Value.slice.injEq] at e_1;obtain ⟨rfl,hle1,rfl⟩:=e_1;clear hle1;have HC1:Hid (∀j,j<ps.length->w.cell? ⟨b1,o1+j,none⟩=some (us1 j)/\Row w (us1 j) (zss.getD j [])):=fun j hj=>hc1 j (by omega)
 have HAO:Hid (Old w (w.alloc (.cells #[.int .i64 Nn,.slice a0 ps.length c0] 45))):=(Old.refl w).alloc _;have BA:Hid (Bk (w.alloc (.cells #[.int .i64 Nn,.slice a0 ps.length c0] 45)) w.heap.size #[.int .i64 Nn,.slice a0 ps.length c0] 45):=Bk.new' w _ _ rfl
 have HFI:Hid (∀W v',Ows (TS 53 2 Nn (elW (whB Nn ps zss) (whX Nn ps zss))) W w.heap.size W.heap.size [v']->Qjw W v' (whB Nn ps zss) (whX Nn ps zss)):=fun W v' h2=>by
  obtain ⟨_,B,hT,_⟩:=h2;refine TSW.rowW (T:=53) (B:=B) HBL ?_
  rw [Qkk];exact hT
 have HEL:Hid (∀k,elW (whB Nn ps zss) (whX Nn ps zss) k=TB ((whB Nn ps zss).getD k false) (TI ((whX Nn ps zss).getD k []))):=fun k=>rfl
 have HGD:Hid (∀j,GoodT (elW (whB Nn ps zss) (whX Nn ps zss) j)):=Qjx _ _;generalize elW (whB Nn ps zss) (whX Nn ps zss)=Es at *;generalize whB Nn ps zss=bs at *;generalize whX Nn ps zss=yss at *;clear hc1 hv hG hb ep hzl HBL hpz hcz;go_enter Tryz.func20,Tryz.ntmps20;go_wp2_with fail;refine (HPR.out _ HAO.out).mono ?_
 rintro e w1 ⟨vq,rfl,g1,rq⟩;obtain ⟨aq,cq,rfl⟩:=rq.slice;have RQ:=Qaa rq;have HG1:=Qaa (Old.trans HAO.out g1);have B1:=Qaa (BA.out.old g1);clear g1 rq;go_wp2_with fail
 go_loopw [6,7] (fun x i W=>∃(k:Nat) (a:Option Addr) (c:Nat),k<=Nn/\i=.int .i64 k/\x=.slice a k c/\Hid (Ows (TS 53 2 k Es) W w1.heap.size W.heap.size [.slice a k c])/\Hid (Old w1 W)) (fun _ i _=>Nn - (intOf i).toNat)
 case atStart=>exact ⟨0,none,0,by omega,rfl,rfl,Ows.nil (Nat.le_refl _),Old.refl _⟩
 case round=>
  obtain ⟨k,a,c,hk,rfl,rfl,HO,HG2⟩:=hrel;have HGW:=Qaa (Old.trans HG1.out HG2.out);have B2:=Qaa (B1.out.old HG2.out);have z0:=B2.out.c (i:=0) rfl;have z1:=B2.out.c (i:=1) rfl;have hsw1:=HG2.out.size
  by_cases hlt:k<Nn
  ·have ilt:(k:Int)<(Nn:Int):=by omega
   have kcp:=HCP.out k hlt;have kct:=HCT.out k hlt
   have HT:Hid (∀j,j<ps.length->(Qkj zss k).take (j+1)=(Qkj zss k).take j++[(zss.getD j []).getD k 0]):=fun j hj=>by
    rw [Qfu _ _ (by rw [HCL.out k];exact hj),HCG.out k j hj]
   have HTL:=Qaa (HCL.out k);generalize Qkj zss k=zs at *;generalize cz k=czk at *
   rename World=>wq
   go_wp2_with fail
   go_loopw [8,22,9] (fun x i _ W=>∃(j:Nat) (ra:Option Addr) (rc:Nat),j<=ps.length/\i=.int .i64 j/\x=.slice ra j rc/\Hid (Own W wq.heap.size (.slice ra j rc) (zs.take j))/\Hid (Old wq W)) (fun _ i _ _=>ps.length - (intOf i).toNat)
   case atStart=>exact ⟨0,none,0,by omega,rfl,rfl,(by exact Qmn _ _),Old.refl _⟩
   case round=>
    obtain ⟨j,ra,rc,hj,rfl,rfl,HO2,HG3⟩:=hrel;have hs2:=HG3.out.size;have HGX:=Qaa (Old.trans HGW.out HG3.out)
    by_cases hjl:j<ps.length
    ·have jlt:(j:Int)<(ps.length:Int):=by omega
     obtain ⟨p1,p2⟩:=HC1.out j hjl;have hrl:=HRL.out j hjl;rcases p2 with ⟨x,y,e,e'⟩ | ⟨b3,o3,cap3,e,hb3,h03,hc3⟩
     ·rw [e'] at hrl;simp at hrl;omega
     have q1:=((HGX.out.cell (p:=⟨b1,o1+j,none⟩) hb1).trans p1).trans (by rw [e,hrl]);have q2:=(HGX.out.cell (p:=⟨b3,o3+k,none⟩) hb3).trans (hc3 k (by omega));have htk:(zs.take j).length=j:=by rw [List.length_take];have:=HTL.out;omega
     have HT2:=Qaa (HT.out j hjl);clear p1 e hc3 hrl h03;generalize (zss.getD j []).getD k 0=q at *;go_wp2_with (at_builtin;go_loud (refine wpList_append_own _ rfl _ _ 22 rfl wq.heap.size 3 i0 (.int .i64 0) 1 8 Tryz.underlying22 hi hz0 hz1 hz2 rfl (by decide) _ _ _ rfl (by have:=HO2.out.alloc (.cells #[.int .i64 q] 3);unfold Own at this;rw [htk] at this;exact this) ⟨wr.heap.size,0,none⟩ 1 1 [.int .i64 q] rfl rfl (one_cell _ _ _) (one_one _) (by unfold maxLen;omega) (by omega) (by simp;omega) ?_;intro v5 w5 o5 g5 x5;have O5:Hid (Own w5 wq.heap.size v5 (zs.take (j+1))):=(by have:=HT2.out;show Own _ _ _ _;rw [this];exact Own.snoc (by rw [htk];exact o5));have G5:Hid (Old wq w5):=Below.grown (HG3.out.alloc (.cells #[.int .i64 q] 3)) g5 (HG3.out.alloc (.cells #[.int .i64 q] 3)).size (fun j hj=>(HO2.out.lt j hj).1);clear o5 g5 x5));obtain ⟨a5,cap5,rfl⟩:=(Own.row O5.out).slice;have htk1:(zs.take (j+1)).length=j+1:=by rw [List.length_take];have:=HTL.out;omega
     rw [htk1] at O5 ⊢;exact ⟨⟨j+1,_,_,by omega,by go_num,rfl,O5,G5⟩,by simp [intOf];omega⟩
    ·have d2:decide ((j:Int)<(ps.length:Int))=false:=by simp;omega
     obtain rfl:j=ps.length:=by omega
     have RZ:Hid (Row wr (.slice ra ps.length rc) zs):=by
      have:=HO2.out;rw [List.take_of_length_le (by have:=HTL.out;omega)] at this;exact Own.row this
     have z1':wr.cell? ⟨w.heap.size,1,none⟩=some (.slice a0 ps.length c0):=(B2.out.old HG3.out).c (i:=1) rfl
     clear HO2;go_wp2_with fail;refine (kcp _ _ HGX.out RZ.out).mono ?_
     rintro e w3 ⟨v3,rfl,g3,r3⟩;obtain ⟨x3,y3,rfl⟩:=(Own.row r3).slice;have R3:=Qaa r3;have G3:=Qaa (Old.trans HG3.out g3);have hs3:=g3.size;clear g3 r3;go_wp2_with fail;refine (kct _ _ _ wr.heap.size R3.out hs3 (RQ.out.old (Old.trans HG2.out G3.out))).mono ?_
     rintro e w4 ⟨v4,rfl,g4,r4⟩;obtain ⟨x4,y4,rfl⟩:=(Own.row r4).slice;have HEK:=Qaa (HEL.out k);generalize bs.getD k false=sg at *;generalize yss.getD k []=xs at *;have G4:=Old.trans G3.out g4;obtain ⟨B,hTI,hBlo⟩:=TI.of r4
     have HAP:Hid (∀o1:Obj,∃vs,(w4.alloc o1).ownsRow 0 53 2 (.slice a k c) k vs/\(∀b,(Value.slice a k c).ownBlock=some b->w1.heap.size<=b)/\∀v' w',w'.ownsRow 0 53 2 v' (k+1) (vs++[.bool sg,.slice x4 xs.length y4])->(w4.alloc o1).grownBy w' (Value.slice a k c).ownBlock->(v'.ownBlock=(Value.slice a k c).ownBlock∨v'.ownBlock=some (w4.alloc o1).heap.size)->Ows (TS 53 2 (k+1) Es) w' w1.heap.size w'.heap.size [v']):=fun o1=>by
      have hE:TB sg (TI xs) (w4.alloc o1) B [.bool sg,.slice x4 xs.length y4]:=⟨_,rfl,(Qb9 xs).far hTI (fun b hb=>((Old.refl w4).alloc o1).block b ((Qb9 xs).lt hTI b hb))⟩;obtain ⟨vs,p1,p2,p3⟩:=Ows.app HGD.out (Ql9 sg (Qb9 xs)) HO.out hsw1 (G4.alloc o1) hE (fun b hb=>by have:=hBlo b hb;omega) rfl;refine ⟨vs,p1,p2,fun v' w' q1 q2 q3=>?_⟩;obtain ⟨hh,B',hT',hB'⟩:=p3 v' w' q1 q2 q3;exact ⟨hh,B',TS.ext (fun j hj=>by by_cases e:j=k <;> simp [e,HEK.out]) hT',hB'⟩
     obtain ⟨vs,p1,p2,p3⟩:=HAP.out (.cells #[.bool sg,.slice x4 xs.length y4] 53);have P1:=Qaa p1;have P2:=Qaa p2;have P3:=Qaa p3;have HGA:Hid (Old w1 (w4.alloc (.cells #[.bool sg,.slice x4 xs.length y4] 53))):=(Old.trans HG2.out G4).alloc _;have HNW:Hid (∀(j:Nat) (u:Value),[Value.bool sg,.slice x4 xs.length y4][j]? = some u->(w4.alloc (.cells #[.bool sg,.slice x4 xs.length y4] 53)).cell? ((⟨w4.heap.size,0,none⟩:Addr).add j)=some u):=Qun _ _ _ _ rfl;clear p1 p2 p3 HAP HO g4 r4 hTI hBlo HEK G4;go_wp2_with (at_builtin;go_loud (refine wpList_append_own_at _ rfl _ _ 47 rfl 0 53 j0 (.agg #[.bool false,.slice none 0 0]) 2 32 Tryz.underlying47 ji jz0 jz1 jz2 rfl (by decide) _ _ _ rfl P1.out ⟨w4.heap.size,0,none⟩ 1 1 [.bool sg,.slice x4 xs.length y4] rfl rfl HNW.out (by simp [Value.oneCell']) (by unfold maxLen;omega) (by omega) (Nat.zero_le _) ?_;intro v5 w5 o5 g5 x5 l5;have O5:=Qaa (P3.out v5 w5 o5 g5 l5);have G5:Hid (Old w1 w5):=Below.grown HGA.out g5 HGA.out.size (fun j hj=>P2.out j hj);clear o5 g5 x5 l5));obtain ⟨a5,c5,rfl⟩:∃a c,v5=.slice a (k+1) c:=by obtain ⟨_,B5,hT5,_⟩:=O5.out;exact TS.slice hT5
     exact ⟨⟨k+1,a5,c5,by omega,by go_num,rfl,O5,G5⟩,by simp [intOf];omega⟩
  ·have d1:decide ((k:Int)<(Nn:Int))=false:=by simp;omega
   obtain rfl:k=Nn:=by omega
   have HE:=Qaa (HFI.out _ _ (HO.out.low HG1.out.size (Nat.le_refl _) (Nat.le_refl _)));go_wp2_with fail;go_ret;exact ⟨_,rfl,HGW.out,HE.out⟩
theorem Qzt (N:Int) (ps:List Int) (f:Nat→Int) (n:Nat) (v u:Value) (w:World) (hv:Row w v ps) (hu:Qjw w u (bsF f n) (xsF f n)) (hn:1≤n∧n≤16) (hf:Bd f n 40) (hps:1≤ps.length∧ps.length≤6) (hp:∀k,k<ps.length→2≤ps.getD k 0∧ps.getD k 0≤268435456) :
  Calls Tryz.prog 51 #[.agg #[.int .i64 N,v],u] w fun e w'=>∃v',e=.returned v'/\Old w w'/\OwS (rwZ f n ps) w' w.heap.size w'.heap.size v':=
 Qr5 N ps (bsF f n) (xsF f n) v u w hv hu hps (by rw [Qcw];exact hn) (fun k hk j hj W u hr=>by
  rw [Qcw] at hj;rw [Qhu f n j hj];rw [Qhv f n j hj] at hr;obtain ⟨p,hpp⟩:∃p:Nat,ps.getD k 0=p:=⟨(ps.getD k 0).toNat,by have:=hp k hk;omega⟩
  have hb:=hp k hk;have h:=Qo0 (ng (f j)) (dg (f j)) p u W hr (Qfx (f j)).1.1 (Nat.le_trans (hf j hj) (by omega)) (by omega) (by omega);rw [Qr4 _ _ _ j (by rw [Qcw];exact hj),Qhu f n j hj,Qhv f n j hj,Qd2,hpp];exact h)
theorem Qp7 (N:Int) (Tn:Nat) (E:Int) (ps:List Int) (f:Nat→Int) (n:Nat) (v u:Value) (w:World) (hv:Row w v ps) (hu:Zr f n w u) (hn:1≤n∧n≤16) (hf:Bd f n 16) (hT:2≤Tn∧Tn≤65536) (hps:1≤ps.length∧ps.length≤6) (hp:∀k,k<ps.length→2≤ps.getD k 0∧ps.getD k 0≤268435456) (ep:ps=toZ (pnN ps)) (hb:Bas (pnN ps)) :
  Calls Tryz.prog 23 #[.agg #[.int .i64 N,.int .i64 (Tn:Int),.int .i64 E,v],u] w fun e w'=>∃v',e=.returned v'/\Old w w'/\OwS (rwZ (scF f (Tn:Int) (Qae (pnN ps))) n ps) w' w.heap.size w'.heap.size v':=by
 have hqp:=Qf7 hb;have hql:(dig (Qae (pnN ps))).length<=7:=hb.cnt;obtain ⟨j0,ji,jz0,jz1,jz2⟩:=info_parts Tryz.infoL2W;obtain ⟨a0,c0,rfl⟩:=hv.slice;obtain ⟨b1,o1,c1,rfl,hb1⟩:=hu.slice;have HA:=Qaa (fun k hk=>hu.at k hk);have KQ:=Qaa (fun W (g:Old w W)=>Qu1 N (Tn:Int) E (pnN ps) a0 ps.length c0 W (by rw [<- ep];exact hv.old g) hb);have KI:=Qaa (fun W=>Q0d (Tn:Int) W (by omega) (by omega));have KT:=Qaa (fun k (hk:k<n) W x y (hx:Rz (f k) W x) (hy:Rz (Tn:Int) W y)=>Qsp (f k) (Tn:Int) x y W hx hy (Nat.le_trans (hf k hk) (by omega)) (Nat.le_trans (Qfp (Tn:Int) (by omega) (by omega)) (by omega)));have KN:=Qaa (fun k (hk:k<n) W x y (hx:Rz (f k*(Tn:Int)) W x) (hy:Row W y (toI (dig (Qae (pnN ps)))))=>Qzl (f k*(Tn:Int)) (Qae (pnN ps)) x y W hx hy hqp (Nat.le_trans (Qkn (hf k hk) (by omega)) (by omega)) (Nat.le_trans hql (by omega)));have KS:=Qaa (fun W=>Qby N (Tn:Int) E a0 ps.length c0 W);have K5:=Qaa (fun W u (g:Old w W) (h:Qjw W u (bsF (scF f (Tn:Int) (Qae (pnN ps))) n) (xsF (scF f (Tn:Int) (Qae (pnN ps))) n))=>Qzt N ps (scF f (Tn:Int) (Qae (pnN ps))) n (.slice a0 ps.length c0) u W (hv.old g) h hn (fun k hk=>Nat.le_trans (Qv4 hf (by omega) hqp k hk) (by omega)) hps hp)
 have HEL:Hid (∀k,k<n->elW (bsF (scF f (Tn:Int) (Qae (pnN ps))) n) (xsF (scF f (Tn:Int) (Qae (pnN ps))) n) k=TB (ng (Qew (f k*(Tn:Int)) (Qae (pnN ps)))) (TI (toI (dg (Qew (f k*(Tn:Int)) (Qae (pnN ps))))))):=fun k hk=>by
  unfold elW;rw [Qhu _ n k hk,Qhv _ n k hk];rfl
 have HFI:Hid (∀W v,Ows (TS 53 2 n (elW (bsF (scF f (Tn:Int) (Qae (pnN ps))) n) (xsF (scF f (Tn:Int) (Qae (pnN ps))) n))) W 0 W.heap.size [v]->Qjw W v (bsF (scF f (Tn:Int) (Qae (pnN ps))) n) (xsF (scF f (Tn:Int) (Qae (pnN ps))) n)):=fun W v h=>by
  obtain ⟨_,B,hT,_⟩:=h;refine TSW.rowW (T:=53) (B:=B) (by rw [Qs6,Qcw]) ?_
  rw [Qcw];exact hT
 have HGD:Hid (∀j,GoodT (elW (bsF (scF f (Tn:Int) (Qae (pnN ps))) n) (xsF (scF f (Tn:Int) (Qae (pnN ps))) n) j)):=Qjx _ _;have HNN:=Qaa hn;generalize elW (bsF (scF f (Tn:Int) (Qae (pnN ps))) n) (xsF (scF f (Tn:Int) (Qae (pnN ps))) n)=Es at *;generalize bsF (scF f (Tn:Int) (Qae (pnN ps))) n=bs at *;generalize xsF (scF f (Tn:Int) (Qae (pnN ps))) n=xss at *;generalize rwZ (scF f (Tn:Int) (Qae (pnN ps))) n ps=zss at *;clear hv hu hf hps hp ep hb hqp;obtain ⟨m,hmm⟩:∃m,ps.length=m:=⟨_,rfl⟩
 rw [hmm] at KQ KS K5 ⊢;clear hmm;obtain ⟨T,hT'⟩:∃T:Int,(Tn:Int)=T:=⟨_,rfl⟩
 rw [hT'] at KQ KI KT KN KS HEL ⊢;clear hT';obtain ⟨B,hB⟩:∃B:World,w.alloc (.cells #[.int .i64 N,.int .i64 T,.int .i64 E,.slice a0 m c0] 33)=B:=⟨_,rfl⟩
 have O:Hid (Old w B):=by rw [<- hB];exact (Old.refl w).alloc _
 have X:Hid (Bk B w.heap.size #[.int .i64 N,.int .i64 T,.int .i64 E,.slice a0 m c0] 33):=by rw [<- hB];exact Bk.new' w _ _ rfl
 obtain ⟨kp,hkp⟩:∃k,w.heap.size=k:=⟨_,rfl⟩
 have HKP:=Qaa hkp;rw [hkp] at X;have x0:=X.out.c (i:=0) rfl;have x1:=X.out.c (i:=1) rfl;have x2:=X.out.c (i:=2) rfl;have x3:=X.out.c (i:=3) rfl;go_enter Tryz.func23,Tryz.ntmps23;go_wp2_with fail;refine (KQ.out _ O.out).mono ?_
 rintro e w4 ⟨q4,rfl,g4,r4⟩;obtain ⟨qa,qc,eq4⟩:=r4.sliceN;subst eq4;obtain ⟨ql,hql'⟩:∃k,(dig (Qae (pnN ps))).length=k:=⟨_,rfl⟩
 have R4:=Qaa r4;rw [hql'] at R4 ⊢;have G4:=Qaa (Old.trans O.out g4);have X4:=Qaa (X.out.old g4);clear g4 r4 hql' x0 x1 x2 x3 X KQ O hB hkp;go_wp2_with fail
 go_loopw [13,6,8] (fun i v _ W=>∃(k:Nat) (ra:Option Addr) (rc:Nat),k<=n/\i=.int .i64 k/\v=.slice ra k rc/\Hid (Ows (TS 53 2 k Es) W w4.heap.size W.heap.size [.slice ra k rc])/\Hid (Old w4 W)) (fun i _ _ _=>n - (intOf i).toNat)
 case atStart=>exact ⟨0,none,0,by omega,rfl,rfl,Ows.nil (Nat.le_refl _),Old.refl _⟩
 case round=>
  obtain ⟨k,ra,rc,hk,rfl,rfl,HO,HG⟩:=hrel
  by_cases hlt:k<n
  ·obtain ⟨a8,c8,q0,q1,hrz⟩:=HA.out k hlt;have HGW:=Qaa (Old.trans G4.out HG.out);have q0':=(HGW.out.cell (p:=⟨b1,o1+k*2,none⟩) hb1).trans q0;have q1':=(HGW.out.cell (p:=⟨b1,o1+k*2+1,none⟩) hb1).trans q1;have HRZ:=Qaa (hrz.old HGW.out);have KT1:=Qaa (KT.out k hlt);have KN1:=Qaa (KN.out k hlt);have HEK:=Qaa (HEL.out k hlt);obtain ⟨z,hz⟩:∃z,Qew (f k*T) (Qae (pnN ps))=z:=⟨_,rfl⟩
   rw [hz] at KN1 HEK;obtain ⟨nb,hnb⟩:∃nb,ng (f k)=nb:=⟨_,rfl⟩
   obtain ⟨l8,hl8⟩:∃l8,(dg (f k)).length=l8:=⟨_,rfl⟩
   rw [hnb,hl8] at HRZ;rw [hnb] at q0';rw [hl8] at q1';have iL:(k:Int)<(n:Int):=by omega
   obtain ⟨B8,hB8⟩:∃B:World,wr.alloc (.cells #[.bool nb,.slice a8 l8 c8] 53)=B:=⟨_,rfl⟩
   have O8:Old wr B8:=by rw [<- hB8];exact (Old.refl wr).alloc _
   have Y8:Hid (Bk B8 wr.heap.size #[.bool nb,.slice a8 l8 c8] 53):=by rw [<- hB8];exact Bk.new' wr _ _ rfl
   have X8:=Qaa ((X4.out.old HG.out).old O8);have R8:=Qaa (HRZ.out.old O8);have Q8:=Qaa ((R4.out.old HG.out).old O8);have HO8:=Qaa O8;have HGH:=HG;have hsw:=HG.out.size;obtain ⟨wb,hwb⟩:∃wb,wr.heap.size=wb:=⟨_,rfl⟩
   rw [hwb] at Y8;clear q0 q1 hrz hz hnb hl8 O8 HRZ;go_wp2_with fail;refine Qze B8 N T E a0 m c0 kp wb nb a8 l8 c8 qa ql qc ra k rc (fun W u=>Rz T W u) (fun W u=>Rz (f k*T) W u) (fun W u=>Wz z wr.heap.size W u) (fun W W' u h q=>h.old q) (fun W W' u h q=>h.old q) (fun W W' u h q=>h.old q) Y8.out X8.out (by have:=HNN.out;omega) 0 (Nat.zero_le _) (fun W v=>Ows (TS 53 2 (k+1) Es) W w4.heap.size W.heap.size [v]/\Old w4 W) (fun W v h=>?_) (fun W b_ u_ l_ c_ q h=>?_) (fun W q=>?_) (fun W q u hu=>?_) (fun W q u hu=>?_) _ _ ?_ ?_ ?_ ?_ ?_ ?_
   ·obtain ⟨a,c,e,_⟩:=h;exact ⟨_,_,_,_,e⟩
   ·obtain ⟨a',c',e,o⟩:=h;have e':b_ = ng z∧u_ = a'∧l_ = (dg z).length∧c_ = c':=by simpa using e
    obtain ⟨rfl,rfl,rfl,rfl⟩:=e';have hl:(toI (dg z)).length=(dg z).length:=by simp [toI]
    obtain ⟨Bz,hTI,hBlo⟩:=TI.of o;have qq:=Old.trans HO8.out q;have hE:TB (ng z) (TI (toI (dg z))) W Bz [.bool (ng z),.slice u_ (dg z).length c_]:=⟨_,rfl,hTI⟩;obtain ⟨vs,p1,p2,p3⟩:=Ows.app HGD.out (Ql9 (ng z) (Qb9 _)) HO.out hsw qq hE (fun b hb=>hBlo b hb) rfl;refine ⟨vs,p1,fun v' w' q1 q2 q3=>⟨?_,Below.grown (Old.trans HGH.out qq) q2 (Old.trans HGH.out qq).size (fun i hi=>p2 i hi)⟩⟩;obtain ⟨hh,B',hT',hB'⟩:=p3 v' w' q1 q2 q3;exact ⟨hh,B',TS.ext (fun j hj=>by by_cases e:j=k <;> simp [e,HEK.out]) hT',hB'⟩
   ·refine (KI.out W).mono fun e w' h=>?_
    obtain ⟨u',e1,e2,e3⟩:=h;exact ⟨u',e1,e2,e3.rz⟩
   ·refine (KT1.out W _ u (R8.out.old q) hu).mono fun e w' h=>?_
    obtain ⟨u',e1,e2,e3⟩:=h;exact ⟨u',e1,e2,e3.rz⟩
   ·refine (KN1.out W u _ hu (Q8.out.old q)).mono fun e w' h=>?_
    obtain ⟨u',e1,e2,e3⟩:=h;exact ⟨u',e1,e2,e3.low (Nat.le_trans HO8.out.size q.size)⟩
   iterate 5 (·exact rfl)
   intro us' w9 hfin;obtain ⟨O5,G5⟩:=hfin;have HO5:=Qaa O5;have HG5:=Qaa G5;obtain ⟨a5,cap5,e5⟩:∃a c,us' 10=.slice a (k+1) c:=by obtain ⟨_,B5,hT5,_⟩:=O5;exact TS.slice hT5
   simp only [Qal,Act.put,Qei,List.range,List.range.loop,List.map_cons,List.map_nil,List.getD_cons_zero,List.getD_cons_succ,List.setIfInBounds_toArray,List.set_cons_succ,List.set_cons_zero];rw [e5] at HO5;simp only [e5];clear O5 G5 e5 X8 Y8 R8 Q8 hB8 hwb HO HG HGH hsw HO8 HEK KT1 KN1;go_wp2_with fail;exact ⟨⟨k+1,_,_,by omega,by go_num,rfl,HO5,HG5⟩,by simp [intOf];omega⟩
  ·have d1:decide ((k:Int)<(n:Int))=false:=decide_eq_false (by omega);obtain rfl:k=n:=by omega
   have RW:=Qaa (HFI.out _ _ (HO.out.low (Nat.zero_le _) (Nat.le_refl _) (Nat.le_refl _)));have G9:=Qaa (Old.trans G4.out HG.out);have X9:=Qaa (X4.out.old HG.out);have x0:=X9.out.c (i:=0) rfl;have x1:=X9.out.c (i:=1) rfl;have x2:=X9.out.c (i:=2) rfl;have x3:=X9.out.c (i:=3) rfl;clear HO;go_wp2_with fail;refine (KS.out _).mono ?_
   rintro e w5 ⟨rfl,g5⟩;have G5:=Qaa (Old.trans G9.out g5);have RW5:=Qaa (RW.out.old g5);clear g5 x0 x1 x2 x3;go_wp2_with fail;refine (K5.out _ _ G5.out RW5.out).mono ?_
   rintro e w6 ⟨v6,rfl,g6,o6⟩;have G6:=Qaa (Old.trans G5.out g6);have O6:=Qaa (o6.low G5.out.size);clear g6 o6;go_wp2_with fail;go_ret;exact ⟨_,rfl,G6.out,O6.out⟩
end Go.Proofs.YtjjohooeehjjcaaGreatDoor
