/- Proved: what its theorems say. -/
import Derived.Test.YthcidnnkakppcaaGreatDoorDe39
import Derived.Test.YthcidnnkakppcaaGreatDoorDe22
set_option linter.unusedVariables false
set_option linter.unusedSimpArgs false
set_option maxHeartbeats 4000000
set_option maxRecDepth 100000
namespace Go.Proofs.YthcidnnkakppcaaGreatDoor
open Go.ChangeShapes Go.WideShapes Go.ChangeAt Go.RowKit
theorem Qxx {W:World} {lo g:Nat} {v:Value} {xs:List Int} {cs:Array Value} {fr:Nat×Nat} (h:Own W lo v xs) (hg:W.heap[g]? = some (.cells cs 65 fr)) (c:Array Value):Own (W.setRow g c) lo v xs:=by
 refine ⟨h.1,?_⟩;rcases h.2 with hn | ⟨p,cap,cur,rfl,hb,hgg,rest⟩
 ·exact .inl hn
 ·refine .inr ⟨p,cap,cur,rfl,hb,?_,rest⟩;rw [Qbf _ _ _ _ (fun e=>by rw [e,hg] at hgg;simp at hgg)];exact hgg
theorem Qy4 {w:World} {k:Nat} {x y:Value} {t:TypeId} (h:Bk w k #[x,y] t) (x':Value):Bk (w.setCell ⟨k,0,none⟩ x') k #[x',y] t:=heap_setCell_same w k 0 _ _ x' h
theorem Q3l {w:World} {k:Nat} {x y:Value} {t:TypeId} (h:Bk w k #[x,y] t) (x' y':Value):Bk ((w.setCell ⟨k,0,none⟩ x').setCell ⟨k,1,none⟩ y') k #[x',y'] t:=heap_setCell_same _ k 1 _ _ y' (Qy4 h x')
theorem Qnk {W:World} {lo g j:Nat} {v:Value} {xs:List Int} {cs:Array Value} (h:Own W lo v xs) (hg:Bk W g cs 65) (y:Value):Own (W.setCell ⟨g,j,none⟩ y) lo v xs:=by
 refine ⟨h.1,?_⟩;rcases h.2 with hn | ⟨p,cap,cur,rfl,hb,hgg,rest⟩
 ·exact .inl hn
 ·refine .inr ⟨p,cap,cur,rfl,hb,?_,rest⟩
  have hne:p≠g:=fun e=>by
   have hg':W.heap[g]? = some (.cells cs 65 (0,0)):=hg
   rw [e,hg'] at hgg;simp at hgg
  rw [heap_setCell_other W ⟨g,j,none⟩ p _ hne];exact hgg
theorem Wz.box {z:Int} {base g:Nat} {W:World} {x:Value} {c0:Array Value} (h:Wz z base W x) (hg:W.heap[g]? = some (.cells c0 65 (0,0))) (c:Array Value):Wz z base (W.setRow g c) x:=by
 obtain ⟨a,l,e,o⟩:=h;exact ⟨a,l,e,Qxx o hg c⟩
theorem Wz.cells {z:Int} {base:Nat} {W:World} {x:Value} (h:Wz z base W x):∃cs,x=.agg cs/\cs.size=2/\cs.all (·.oneCell')=true:=by
 obtain ⟨a,c,rfl,_⟩:=h;exact ⟨_,rfl,rfl,by simp [Value.oneCell']⟩
theorem Qnl (N T E:Int) (q:Nat) (z:Int) (a3:Option Addr) (l3 c3:Nat) (a4:Option Addr) (l4 c4:Nat) (a6:Option Addr) (l6 c6:Nat) (x:Value) (w:World) (hx:Rz z w x) (hq:0<q) (hqr:Rz q w (.agg #[.bool false,.slice a6 l6 c6])) (hT:0≤T∧T≤65536) (lz:(dg z).length≤40) (lT:(dg (z*T)).length≤40) (lq:(dg (q:Int)).length≤40) (ln:(dg (Qd7 (z*T) q)).length≤40) :
  Calls Tryz.prog 38 #[.agg #[.int .i64 N,.int .i64 T,.int .i64 E,.slice a3 l3 c3,.slice a4 l4 c4,.bool false,.slice a6 l6 c6],x] w fun e w'=>∃v',e=.returned v'/\Old w w'/\Wz (Qd7 (z*T) q) w.heap.size w' v':=by
 have lTT:=Qfw T (by omega) (by omega);have K1:=Qaa (fun W=>Q46 T W (by omega) (by omega));have K2:=Qaa (fun W u (g:Old w W) (hu:Rz T W u)=>Q4r z T x u W (hx.old g) hu lz lTT lT);have K3:=Qaa (fun W u (g:Old w W) (hu:Rz (z*T) W u)=>Q1k (z*T) q u (.agg #[.bool false,.slice a6 l6 c6]) W hu (hqr.old g) hq lT lq ln);obtain ⟨a1,c1,rfl,_⟩:=hx;clear hqr hT lz lT lq ln hq lTT;obtain ⟨nb,hnb⟩:∃nb,ng z=nb:=⟨_,rfl⟩
 obtain ⟨l1,hl1⟩:∃l1,(dg z).length=l1:=⟨_,rfl⟩
 rw [hnb,hl1] at K2 ⊢;clear hnb hl1;obtain ⟨y,hy⟩:∃y,z*T=y:=⟨_,rfl⟩
 rw [hy] at K2 K3 ⊢;clear hy;obtain ⟨B,hB⟩:∃B:World,((w.alloc (.cells #[.int .i64 N,.int .i64 T,.int .i64 E,.slice a3 l3 c3,.slice a4 l4 c4,.bool false,.slice a6 l6 c6] 67)).alloc (.cells #[.bool nb,.slice a1 l1 c1] 65)).alloc (.cells #[.bool false,.slice none 0 0] 65)=B:=⟨_,rfl⟩
 have O:Hid (Old w B):=by rw [<- hB];exact (((Old.refl w).alloc _).alloc _).alloc _
 have X:Hid (Bk B w.heap.size #[.int .i64 N,.int .i64 T,.int .i64 E,.slice a3 l3 c3,.slice a4 l4 c4,.bool false,.slice a6 l6 c6] 67):=by rw [<- hB];exact ((Bk.new' w _ _ rfl).alloc _).alloc _
 have Y:Hid (Bk B (w.heap.size+1) #[.bool nb,.slice a1 l1 c1] 65):=by rw [<- hB];exact (Bk.new' _ _ _ (by simp)).alloc _
 have R:Hid (Bk B (w.heap.size+1+1) #[.bool false,.slice none 0 0] 65):=by rw [<- hB];exact Bk.new' _ _ _ (by simp)
 go_enter Tryz.func38,Tryz.ntmps38;go_wp2_with fail;refine Q2q B N T E a3 l3 c3 a4 l4 c4 a6 l6 c6 w.heap.size (w.heap.size+1) nb a1 l1 c1 (fun W u=>Wz T w.heap.size W u) (fun W u=>∃v,u=.tuple #[v,.bool true]/\Wz y w.heap.size W v) (fun W u=>Wz y w.heap.size W u) (fun W W' u h q=>h.old q) (fun W W' u h q=>?_) (fun W W' u h q=>h.old q) (fun W u h=>?_) (fun W u h=>h.cells) (fun W u g c0 c h hg=>h.box hg c) (fun W u g c0 c h hg=>?_) (fun W u g c0 c h hg=>h.box hg c) X.out Y.out (fun W g=>?_) (fun W g u hu=>?_) _ _ ?_ ?_ ?_ ?_
 ·obtain ⟨v,e,h⟩:=h;exact ⟨v,e,h.old q⟩
 ·obtain ⟨v,e,h⟩:=h;exact ⟨v,_,e,h,rfl⟩
 ·obtain ⟨v,e,h⟩:=h;exact ⟨v,e,h.box hg c⟩
 ·exact (K1.out W).mono fun e w' h=>by
   obtain ⟨u,e1,q,o⟩:=h;exact ⟨u,e1,q,o.low (Nat.le_trans O.out.size g.size)⟩
 ·exact (K2.out W u (Old.trans O.out g) hu.rz).mono fun e w' h=>by
   obtain ⟨u,e1,q,o⟩:=h;exact ⟨_,e1,q,u,rfl,o.low (Nat.le_trans O.out.size g.size)⟩
 iterate 3 (·exact rfl)
 intro us W g9 cs g hp hb hc hv;have G2:=Qaa (Old.trans O.out g);have X2:=Qaa (X.out.old g);have R2:=Qaa (R.out.old g);have V2:=Qaa hv.rz;obtain ⟨a5,c5,e5,_⟩:=hv;obtain rfl:cs=#[.bool (ng y),.slice a5 (dg y).length c5]:=by simpa using e5
 obtain ⟨ny,hny⟩:∃nb,ng y=nb:=⟨_,rfl⟩
 obtain ⟨ly,hly⟩:∃l1,(dg y).length=l1:=⟨_,rfl⟩
 rw [hny,hly] at V2 hc;have C2:Hid (Bk W g9 #[.bool ny,.slice a5 ly c5] 65):=hc;have x5:=X2.out.c (i:=5) rfl;have x6:=X2.out.c (i:=6) rfl;have y0:=C2.out.c (i:=0) rfl;have y1:=C2.out.c (i:=1) rfl;simp only [Qb6,Act.put,Qei,List.range,List.range.loop,List.map_cons,List.map_nil,List.getD_cons_zero,List.getD_cons_succ,List.setIfInBounds_toArray,List.set_cons_succ,List.set_cons_zero];simp only [hp];clear g hb hc e5 hny hly K1 K2 X Y R hp;go_wp2_with fail;refine (K3.out _ _ G2.out V2.out).mono ?_
 rintro e w3 ⟨u,rfl,g3,o3⟩;have G3:=Qaa (Old.trans G2.out g3);have R3:=Qaa (R2.out.old g3);obtain ⟨a7,c7,e7,o7⟩:=o3.low G2.out.size;have M3':=o7;clear o7 o3;subst e7;obtain ⟨r,hr⟩:∃r,Qd7 y q=r:=⟨_,rfl⟩
 rw [hr] at M3' ⊢;have M3:=Qaa M3';clear M3';obtain ⟨nr,hnr⟩:∃nb,ng r=nb:=⟨_,rfl⟩
 obtain ⟨lr,hlr⟩:∃l1,(dg r).length=l1:=⟨_,rfl⟩
 rw [hlr] at M3;rw [hnr,hlr];have HRR:Hid (Qd7 y q=r/\ng r=nr/\(dg r).length=lr):=⟨hr,hnr,hlr⟩;clear g3 K3 x5 x6 y0 y1 C2 V2 R2 hr hnr hlr;obtain ⟨B3,hB3⟩:∃B:World,w3.alloc (.cells #[.bool nr,.slice a7 lr c7] 65)=B:=⟨_,rfl⟩
 have G4:Hid (Old w B3):=by rw [<- hB3];exact G3.out.alloc _
 have R4:Hid (Bk B3 (w.heap.size+1+1) #[.bool false,.slice none 0 0] 65):=by rw [<- hB3];exact R3.out.alloc _
 have N4:Hid (Bk B3 w3.heap.size #[.bool nr,.slice a7 lr c7] 65):=by rw [<- hB3];exact Bk.new' w3 _ _ rfl
 have M4:Hid (Own B3 w.heap.size (.slice a7 lr c7) (toI (dg r))):=by rw [<- hB3];exact M3.out.old ((Old.refl w3).alloc _)
 obtain ⟨k3,hk3⟩:∃k,w3.heap.size=k:=⟨_,rfl⟩
 rw [hk3] at N4;have n0:=N4.out.c (i:=0) rfl;have n1:=N4.out.c (i:=1) rfl;have z0:=R4.out.c (i:=0) rfl;have z1:=R4.out.c (i:=1) rfl;have f0:B3.frozen? ⟨w.heap.size+1+1,0,none⟩=false:=frozen_of_row _ _ _ _ _ R4.out
 have f1:B3.frozen? ⟨w.heap.size+1+1,1,none⟩=false:=frozen_of_row _ _ _ _ _ R4.out
 clear R3 M3 G3;go_wp2_with fail;have qq:=Q3l R4.out (.bool nr) (.slice a7 lr c7);have q0:=qq.c (i:=0) rfl;have q1:=qq.c (i:=1) rfl;refine bodyPost_ret (v:=.agg #[.bool nr,.slice a7 lr c7]) (by simp [results,Tryz.results38,go_sem,q0,q1]) rfl ?_
 refine ⟨_,rfl,(G4.out.own (p:=⟨w.heap.size+1+1,0,none⟩) (by simp;omega) _).own (p:=⟨w.heap.size+1+1,1,none⟩) (by simp;omega) _,?_⟩;obtain ⟨er,en,el⟩:=HRR.out;rw [er];refine ⟨a7,c7,by rw [en,el],?_⟩;rw [el];exact Qnk (Qnk M4.out R4.out _) (Qy4 R4.out (.bool nr)) _
end Go.Proofs.YthcidnnkakppcaaGreatDoor
namespace Go.Proofs.YthcidnnkakppcaaGreatDoor
open Go.ChangeShapes Go.WideShapes Go.ChangeAt Go.RowKit
open M2
theorem Qxy (N T E:Int) (P:List Nat) (a0:Option Addr) (l0 c0:Nat) (w:World) (hv:Row w (.slice a0 l0 c0) (toZ P)) (hb:Bas P) :
  Calls Tryz.prog 22 #[.agg #[.int .i64 N,.int .i64 T,.int .i64 E,.slice a0 l0 c0]] w fun e w'=>∃v',e=.returned v'/\Old w w'/\Row w' v' (toI (dig (Qaf P))):=by
 have HK:=Qaa (fun W g=>Qek P _ W (hv.old g) hb.len6 hb.hi);have HA:Hid (Old w (w.alloc (.cells #[.int .i64 N,.int .i64 T,.int .i64 E,.slice a0 l0 c0] 32))):=(Old.refl w).alloc _;have BA:Hid (Bk (w.alloc (.cells #[.int .i64 N,.int .i64 T,.int .i64 E,.slice a0 l0 c0] 32)) w.heap.size #[.int .i64 N,.int .i64 T,.int .i64 E,.slice a0 l0 c0] 32):=Bk.new' w _ _ rfl;have x3:=BA.out.c (i:=3) rfl;clear hv hb;go_enter Tryz.func22,Tryz.ntmps22;go_wp2_with fail;refine (HK.out _ HA.out).mono ?_
 rintro e w1 ⟨v1,rfl,g1,r1⟩;have HG:=Qaa (Old.trans HA.out g1);have HR:=Qaa r1;clear g1 r1 x3;go_wp2_with fail;go_ret;exact ⟨_,rfl,HG.out,HR.out⟩
end Go.Proofs.YthcidnnkakppcaaGreatDoor
