/- Proved: what its theorems say. -/
import Derived.Test.YtjjohooeehjjcaaGreatDoorMu21
import Derived.Test.YtjjohooeehjjcaaGreatDoorMu22
import Derived.Test.YtjjohooeehjjcaaGreatDoorMu39
set_option linter.unusedVariables false
set_option linter.unusedSimpArgs false
set_option maxHeartbeats 8000000
set_option maxRecDepth 100000
namespace Go.Proofs.YtjjohooeehjjcaaGreatDoor
open Go.ChangeShapes Go.WideShapes Go.ChangeAt Go.RowKit
theorem Qcz {N:Int} {ps:List Int} {xss:List (List Int)} (h:rwB N ps xss=true):xss.length=ps.length/\∀k,k<ps.length->Qct (ps.getD k 0) N (xss.getD k [])=true:=by
 unfold rwB at h;rw [Bool.and_eq_true] at h;refine ⟨of_decide_eq_true h.1,fun k hk=>?_⟩;have h2:=h.2;unfold rwA at h2;exact of_decide_eq_true h2 k hk (Nat.zero_le _)
theorem Qi5 {p N:Int} {xs:List Int} (h:Qct p N xs=true):(xs.length:Int)=N/\∀i,i<xs.length->0<=xs.getD i 0/\xs.getD i 0<p:=by
 unfold Qct at h;rw [Bool.and_eq_true] at h;refine ⟨of_decide_eq_true h.1,fun i hi=>?_⟩;have h2:=List.all_eq_true.1 h.2 xs[i] (List.getElem_mem hi);rw [show xs.getD i 0=xs[i] by simp [List.getD,hi]];simp [Qis] at h2;omega
def CiA (zsss:List (List (List Int))) (ok:Bool) (w:World) (e:Ending) (w':World):Prop:=∃r0,e=.returned (.tuple #[.agg r0,.bool ok])/\Old w w'/\XC zsss w' w.heap.size w'.heap.size r0
theorem XC.nil2 {W:World} {lo hi:Nat} (h:hi<=W.heap.size):XC [] W lo hi #[.slice none 0 0]:=⟨none,0,rfl,Ows.nil h⟩
theorem Qgi {W:World} {k:Nat} {x:Value} {t:TypeId} (h:Bk W k #[x] t) (y:Value):Bk (W.setCell ⟨k,0,none⟩ y) k #[y] t:=(heap_setCell_same W k 0 _ _ y h).trans rfl
theorem rd_true {m:Nat} {B:Nat->Bool} (h:rdB m B=true):(2<=m/\m<=3)/\∀j,j<m->B j=true:=by
 unfold rdB at h;rw [Bool.and_eq_true] at h;exact ⟨of_decide_eq_true h.1,of_decide_eq_true h.2⟩
def RdX (N:Int) (ps:List Int) (Rf:Nat->Int) (xss:List (List Int)) (W:World) (v:Value):Prop:=∃us:Nat->Value,RdR W v ps.length N false ps Rf us/\∀k,k<ps.length->Row W (us k) (xss.getD k [])/\∃x c,us k=.slice x (xss.getD k []).length c
theorem RdX.old {N:Int} {ps:List Int} {Rf:Nat->Int} {xss:List (List Int)} {W W':World} {v:Value} (h:RdX N ps Rf xss W v) (g:Old W W'):RdX N ps Rf xss W' v:=by
 obtain ⟨us,h1,h2⟩:=h;exact ⟨us,h1.old g,fun k hk=>⟨(h2 k hk).1.old g,(h2 k hk).2⟩⟩
theorem RdX.slice {N:Int} {ps:List Int} {Rf:Nat->Int} {xss:List (List Int)} {W:World} {v:Value} (h:RdX N ps Rf xss W v):∃a c,v=.slice a ps.length c:=by
 obtain ⟨us,⟨b,cap,e,_⟩,_⟩:=h;exact ⟨_,_,e⟩
def OkX (Nn:Nat) (ps:List Int) (xss:List (List Int)):Prop:=∀k,k<ps.length->(xss.getD k []).length=Nn/\∀i,i<Nn->0<=(xss.getD k []).getD i 0/\(xss.getD k []).getD i 0<ps.getD k 0
theorem Qr6 {Nn:Nat} {ps:List Int} {xss:List (List Int)} (h:rwB Nn ps xss=true):OkX Nn ps xss:=fun k hk=>by
 obtain ⟨h1,h2⟩:=Qcz h;obtain ⟨p1,p2⟩:=Qi5 (h2 k hk);exact ⟨by omega,fun i hi=>p2 i (by omega)⟩
end Go.Proofs.YtjjohooeehjjcaaGreatDoor
namespace Go.Proofs.YtjjohooeehjjcaaGreatDoor
open Go.ChangeShapes Go.WideShapes Go.ChangeAt Go.RowKit
open M1
theorem Q0b (L:Nat) (g0 g1:Option Addr) (W:World):Sem.run Tryz.prog (Instr.typeAssert (if2 L g0 g1) 101 67 true) W=.ok (.tuple #[.agg #[.slice g0 L L,.slice g1 L L],.bool true]) W:=by kernel_rfl
theorem Q0c (L:Nat) (g0 g1 g2:Option Addr) (W:World):Sem.run Tryz.prog (Instr.typeAssert (if3 L g0 g1 g2) 101 67 true) W=.ok (.tuple #[.agg #[.slice none 0 0,.slice none 0 0],.bool false]) W:=by kernel_rfl
theorem Qj7 (ys:List Nat):(toZ ys).map Int.toNat=ys:=by
 rw [toZ,List.map_map];refine (List.map_congr_left fun x hx=>?_).trans (List.map_id ys);simp
end Go.Proofs.YtjjohooeehjjcaaGreatDoor
namespace Go.Proofs.YtjjohooeehjjcaaGreatDoor
open Go.ChangeShapes Go.WideShapes Go.ChangeAt Go.RowKit
theorem Qxo {base Nn:Nat} {ps:List Int} {Rf:Nat->Int} {uf:Nat->Nat->Option Addr} {cf:Nat->Nat} {j:Nat} {W:World} {gp:Option Addr} {v2:Value} {xss:List (List Int)} (hN:2<=Nn/\Nn<=16) (hph:PhG base Nn ps Rf uf j W gp) (hra:Qgd W v2 ps xss (uf j) cf) (hrw:rwB Nn ps xss=true):RdX Nn ps Rf xss W (.slice gp ps.length ps.length):=by
 obtain ⟨gn,rfl,_,hrr⟩:=hph;obtain ⟨bb,cc,_,hbb,hrow⟩:=hra;obtain ⟨hxl,hpoly⟩:=Qcz hrw;refine ⟨_,hrr.rd,fun k hk=>?_⟩;obtain ⟨q1,q2⟩:=Qi5 (hpoly k hk);have hlx:(xss.getD k []).length=Nn:=by omega
 obtain ⟨_,hcf,r2⟩:=hrow k (by omega);rw [hlx] at r2;rw [show ((Nn:Int).toNat)=Nn by omega,hlx];exact ⟨r2.recap (by intro h;rw [h] at hlx;simp at hlx;omega),_,_,rfl⟩
def CiF (Nn:Nat) (ps:List Int) (Rf:Nat->Int) (xsss:List (List (List Int))) (W:World) (IF:Value):Prop:=
 (xsss.length=2/\∃g0 g1,IF=if2 ps.length g0 g1/\RdX Nn ps Rf (xsss.getD 0 []) W (.slice g0 ps.length ps.length)/\RdX Nn ps Rf (xsss.getD 1 []) W (.slice g1 ps.length ps.length))∨
 (xsss.length=3/\∃g0 g1 g2,IF=if3 ps.length g0 g1 g2/\RdX Nn ps Rf (xsss.getD 0 []) W (.slice g0 ps.length ps.length)/\RdX Nn ps Rf (xsss.getD 1 []) W (.slice g1 ps.length ps.length)/\RdX Nn ps Rf (xsss.getD 2 []) W (.slice g2 ps.length ps.length))
def CiI (xsss:List (List (List Int))) (ps:List Int) (w:World) (a1:Option Addr) (au:Nat->Option Addr) (cu:Nat->Nat) (uf:Nat->Nat->Option Addr) (cf:Nat->Nat->Nat):Prop:=0<xsss.length->∃b,a1=some ⟨b,0,none⟩/\PaT w b ps xsss au cu uf cf
theorem CiI.old {xsss:List (List (List Int))} {ps:List Int} {w W:World} {a1:Option Addr} {au:Nat->Option Addr} {cu:Nat->Nat} {uf:Nat->Nat->Option Addr} {cf:Nat->Nat->Nat} (h:CiI xsss ps w a1 au cu uf cf) (q:Old w W):CiI xsss ps W a1 au cu uf cf:=fun h0=>by
 obtain ⟨b,e,hp⟩:=h h0;exact ⟨b,e,hp.old q⟩
theorem CiI.of {xsss:List (List (List Int))} {w:World} {lo hi:Nat} {a1:Option Addr} {c1:Nat} (ps:List Int) (hu:Ows (TTT xsss) w lo hi [.slice a1 xsss.length c1]):∃au cu uf cf,CiI xsss ps w a1 au cu uf cf:=by
 rcases Nat.eq_zero_or_pos xsss.length with h0 | h0
 ·exact ⟨fun _=>none,fun _=>0,fun _ _=>none,fun _ _=>0,fun h=>by omega⟩
 ·obtain ⟨_,B,hT,_⟩:=hu;obtain ⟨b,cap,au,cu,uf,cf,e,hp⟩:=TTT.at ps hT h0;simp only [Value.slice.injEq,true_and] at e;exact ⟨au,cu,uf,cf,fun _=>⟨b,e.1,hp⟩⟩
def RcA (Nn:Nat) (ps:List Int) (Rf:Nat->Int) (xsss:List (List (List Int))) (w:World) (e:Ending) (w':World):Prop:=
 Old w w'/\((ciB Nn ps xsss=false/\e=.returned (.tuple #[.nilIface,.bool false]))∨(ciB Nn ps xsss=true/\∃IF,e=.returned (.tuple #[IF,.bool true])/\CiF Nn ps Rf xsss w' IF))
theorem Quo (Nn:Nat) (T E:Int) (a3:Option Addr) (l3 c3:Nat) (gr:Nat) (b5:Bool) (a6:Option Addr) (l6 c6:Nat) (a1:Option Addr) (cap1:Nat) (w:World) (ps:List Int) (Rf:Nat→Int) (xsss:List (List (List Int))) (au:Nat→Option Addr) (cu:Nat→Nat) (uf:Nat→Nat→Option Addr) (cf:Nat→Nat→Nat)
  (hm:xsss.length<=1048576) (hr:∀r∈xsss,r.length<=1048576/\∀q∈r,q.length<=1048576) (hpa:CiI xsss ps w a1 au cu uf cf)
  (hrg:Rgs w gr Nn ps Rf ps.length) (hsp:spB Nn ps=true) (hN:2<=Nn/\Nn<=16) (hps:1<=ps.length/\ps.length<=6) :
  Calls Tryz.prog 56 #[.agg #[.int .i64 Nn,.int .i64 T,.int .i64 E,.slice a3 l3 c3,.slice (some ⟨gr,0,none⟩) ps.length ps.length,.bool b5,.slice a6 l6 c6],.agg #[.slice a1 xsss.length cap1]] w (RcA Nn ps Rf xsss w):=by
 refine (Qrx Nn T E a3 l3 c3 gr b5 a6 l6 c6 a1 cap1 w ps Rf xsss au cu uf cf hm hr hpa hrg hsp).mono fun e w' h=>?_
 obtain ⟨g,h⟩:=h;refine ⟨g,?_⟩
 have key:∀j gp,j<xsss.length->rdB xsss.length (fun j=>rwB Nn ps (xsss.getD j []))=true->PhG w.heap.size Nn ps Rf uf j w' gp->RdX Nn ps Rf (xsss.getD j []) w' (.slice gp ps.length ps.length):=fun j gp hj hC hph=>by
  have hrw:=(rd_true hC).2 j hj;obtain ⟨b,_,hp⟩:=hpa (by omega);have hxl:=(Qcz hrw).1;have hat:=(hp.2 j hj).2 (by omega);exact Qxo hN hph (hat.old g) hrw
 rcases h with ⟨hC,e1⟩ | ⟨hC,hm2,g0,g1,e1,p0,p1⟩ | ⟨hC,hm3,g0,g1,g2,e1,p0,p1,p2⟩
 ·exact .inl ⟨hC,e1⟩
 ·exact .inr ⟨hC,_,e1,.inl ⟨hm2,g0,g1,rfl,key 0 g0 (by omega) hC p0,key 1 g1 (by omega) hC p1⟩⟩
 ·exact .inr ⟨hC,_,e1,.inr ⟨hm3,g0,g1,g2,rfl,key 0 g0 (by omega) hC p0,key 1 g1 (by omega) hC p1,key 2 g2 (by omega) hC p2⟩⟩
theorem Qon {Nn:Nat} {ps:List Int} {xsss:List (List (List Int))} (h:ciB Nn ps xsss=true) (j:Nat) (hj:j<xsss.length):OkX Nn ps (xsss.getD j []):=Qr6 ((rd_true h).2 j hj)
theorem Qf3 {d:Option Tmp} {ty:TypeId} {pos:String} {af:Array Edge} {a:Act} {W:World} {K:Act→World→Prop} {Q:Exit→Act→World→Prop} {p x:Operand} {g o:Nat} {b:Bool} {u:Option Addr} {l c:Nat} {z0 z1:Value} (ha:a.eval p=.pointer (some ⟨g,o,none⟩)) (hv:a.eval x=.agg #[.bool b,.slice u l c])
  (c0:W.cell? ⟨g,o,none⟩=some z0) (c1:W.cell? ⟨g,o+1,none⟩=some z1) (f0:W.frozen? ⟨g,o,none⟩=false) (f1:W.frozen? ⟨g,o+1,none⟩=false)
  (hK:K (a.put d undef) ((W.setCell ⟨g,o,none⟩ (.bool b)).setCell ⟨g,o+1,none⟩ (.slice u l c))):Oper.wp Tryz.prog ⟨d,.store 53 p x,ty,pos,af,none⟩ a W K Q:=by
 obtain ⟨ρ,hρ⟩:∃ρ,a.eval=ρ:=⟨_,rfl⟩
 rw [hρ] at ha hv;refine Qvg ρ hρ ?_ hK
 clear hρ hK
 go_simp
def Qd6 (i:Nat):Nat:=[37,38,39,40,41,42,43,44,45,46,47,48,49].getD i 0
theorem Qr7:∀i,i<13->Qd6 i<71:=by decide
theorem Qi6:∀i,i<13->∀j,j<13->Qd6 i=Qd6 j->i=j:=by decide
theorem Qi7:∀i,i<13->Qd6 i≠7:=by decide
theorem Qi8:∀i,i<13->Qd6 i≠8:=by decide
theorem Qho:∀i,i<13->Qd6 i≠10:=by decide
theorem Qm9:∀i,i<13->Qd6 i≠12:=by decide
def qLp (ii k:Nat) (pb pl n:Nat) (np:Bool) (ap:Option Addr) (lp cp:Nat) (kz:Nat) (nz:Bool) (az:Option Addr) (lz cz:Nat) (PV:World->Value->Prop) (i:Nat) (W:World) (x:Value):Prop:=
 match i with
 | 0=>x=.slice (some ⟨pb,0,none⟩) n n
 | 1=>x=.int .i64 ii
 | 2=>x=.int .i64 k
 | 3=>x=.int .i64 pl
 | 4=>x=.slice (some ⟨pb,0,none⟩) n n
 | 5=>x=.int .i64 ii
 | 6=>x=.int .i64 k
 | 7=>x=.int .i64 pl
 | 8=>x=.pointer (some ⟨pb,pl*2,none⟩)
 | 9=>x=.agg #[.bool np,.slice ap lp cp]
 | 10=>x=.agg #[.bool nz,.slice az lz cz]
 | 11=>PV W x
 | 12=>x=.pointer (some ⟨pb,pl*2,none⟩)
 | _=>True
theorem Qxp (ii k:Nat) (pb pl n:Nat) (np:Bool) (ap:Option Addr) (lp cp:Nat) (kz:Nat) (nz:Bool) (az:Option Addr) (lz cz:Nat) (PV:World->Value->Prop) (hM_PV:∀W W' v,PV W v->Old W W'->PV W' v) (i:Nat) (W W':World) (x:Value) (h:qLp ii k pb pl n np ap lp cp kz nz az lz cz PV i W x) (qo:Old W W'):qLp ii k pb pl n np ap lp cp kz nz az lz cz PV i W' x:=by
 unfold qLp at h ⊢;split at h
 case h_12=>exact hM_PV _ _ _ h qo
 all_goals first | exact h | trivial
theorem Qzb (w0:World) (ii k:Nat) (pb pl n:Nat) (np:Bool) (ap:Option Addr) (lp cp:Nat) (kz:Nat) (nz:Bool) (az:Option Addr) (lz cz:Nat) (PV:World→Value→Prop) (hM_PV:∀W W' v,PV W v→Old W W'→PV W' v) (hA_PV:∀W x,PV W x→∃cs,x=.agg cs∧cs.size=2∧cs.all (·.oneCell')=true) (b_kz:w0.heap[kz]? = some (.cells #[.bool nz,.slice az lz cz] 53 (0,0)))
  (hi:(pl:Int)<(n:Int)) (hld:∀W,Old w0 W->W.cell? ⟨pb,pl*2,none⟩=some (.bool np)/\W.cell? ⟨pb,pl*2+1,none⟩=some (.slice ap lp cp)) (hs:(ii:Int)+(k:Int)=(pl:Int)) (hb:(n:Int)<=16) (hcell:∀W,Old w0 W->(∃z,W.cell? ⟨pb,pl*2,none⟩=some z)/\(∃z,W.cell? ⟨pb,pl*2+1,none⟩=some z)/\W.frozen? ⟨pb,pl*2,none⟩=false/\W.frozen? ⟨pb,pl*2+1,none⟩=false) (hB2:∀W v,PV W v->∃b u l c,v=.agg #[.bool b,.slice u l c])
  (KA:∀W,Old w0 W->Calls Tryz.prog 22 #[.agg #[.bool np,.slice ap lp cp],.agg #[.bool nz,.slice az lz cz]] W fun e w'=>∃v,e=.returned v/\Old W w'/\PV w' v)
  (Q:Exit->Act->World->Prop) (b0:Act) (hsz:b0.tmps.size=71) (ha7:b0.eval (.tmp 7)=.slice (some ⟨pb,0,none⟩) n n) (ha8:b0.eval (.tmp 8)=.int .i64 ii) (ha10:b0.eval (.tmp 10)=.int .i64 k) (ha12:b0.eval (.tmp 12)=.pointer (some ⟨kz,0,none⟩))
  (HK:Hid (∀(us:Nat->Value) (W:World) (b_ : Bool) (u_ : Option Addr) (l_ c_ : Nat),Old w0 W->PV W (.agg #[.bool b_,.slice u_ l_ c_])->Q .normal (Qal b0 ((List.range 13).map fun i=>(Qd6 i,us i))) ((W.setCell ⟨pb,pl*2,none⟩ (.bool b_)).setCell ⟨pb,pl*2+1,none⟩ (.slice u_ l_ c_)))) :
  Code.wp Tryz.prog ((Tryz.f21.body.bind (Qa2 10)).getD .skip) Q b0 w0:=by
 conv=>arg 2;whnf
 have px_kz:∀W,Old w0 W->W.heap[kz]? = some (.cells #[.bool nz,.slice az lz cz] 53 (0,0)):=fun W g=>(g.block kz (lt_of_some b_kz)).trans b_kz
 refine Qcl 13 (by decide) (by kernel_rfl) (by kernel_rfl) (by kernel_rfl) (by kernel_rfl) (by kernel_rfl) Qd6 (fun i hi=>by rw [hsz];exact Qr7 i hi) (fun i j hi hj=>Qi6 i hi j hj) (qLp ii k pb pl n np ap lp cp kz nz az lz cz PV) (Qxp ii k pb pl n np ap lp cp kz nz az lz cz PV hM_PV) [] (fun i W v hi hq=>by cases hi) ?_ ?_
 ·refine ⟨?_,?_,?_,?_,?_,?_,?_,?_,?_,?_,?_,?_,?_,trivial⟩
  ·intro a W g hF hd;refine ⟨fun _=>?_,fun h=>by rw [Qab rfl] at h;cases h⟩;have e7:=(hF.same 7 Qi7).trans ha7;refine Qa0 ?_
   exact ⟨_,rfl,Old.refl _,e7,(fun h=>absurd h (by decide))⟩
  ·intro a W g hF hd;refine ⟨fun _=>?_,fun h=>by rw [Qab rfl] at h;cases h⟩;have e8:=(hF.same 8 Qi8).trans ha8;refine Qa0 ?_
   exact ⟨_,rfl,Old.refl _,e8,(fun h=>absurd h (by decide))⟩
  ·intro a W g hF hd;refine ⟨fun _=>?_,fun h=>by rw [Qab rfl] at h;cases h⟩;have e10:=(hF.same 10 Qho).trans ha10;refine Qa0 ?_
   exact ⟨_,rfl,Old.refl _,e10,(fun h=>absurd h (by decide))⟩
  ·intro a W g hF hd;refine ⟨fun _=>?_,fun h=>by rw [Qab rfl] at h;cases h⟩;have h1:a.eval (.tmp 38)=.int .i64 ii:=hd ⟨1,.data⟩ (by simp) rfl;have h2:a.eval (.tmp 39)=.int .i64 k:=hd ⟨2,.data⟩ (by simp) rfl;obtain ⟨ρ,hρ⟩:∃ρ,a.eval=ρ:=⟨_,rfl⟩
   rw [hρ] at h1 h2;refine Qbe ρ hρ (.int .i64 pl) ?_ ⟨_,rfl,Old.refl _,rfl,(fun h=>absurd h (by decide))⟩
   clear g hF hd hρ HK KA ha7 ha8 ha10 ha12 px_kz b_kz
   go_simp
   all_goals (first | (rw [IntKind.wrap_i64];omega) | (rw [IntKind.wrap_u64];omega) | omega)
  ·intro a W g hF hd;refine ⟨fun _=>?_,fun h=>by rw [Qab rfl] at h;cases h⟩;have e7:=(hF.same 7 Qi7).trans ha7;refine Qa0 ?_
   exact ⟨_,rfl,Old.refl _,e7,(fun h=>absurd h (by decide))⟩
  ·intro a W g hF hd;refine ⟨fun _=>?_,fun h=>by rw [Qab rfl] at h;cases h⟩;have e8:=(hF.same 8 Qi8).trans ha8;refine Qa0 ?_
   exact ⟨_,rfl,Old.refl _,e8,(fun h=>absurd h (by decide))⟩
  ·intro a W g hF hd;refine ⟨fun _=>?_,fun h=>by rw [Qab rfl] at h;cases h⟩;have e10:=(hF.same 10 Qho).trans ha10;refine Qa0 ?_
   exact ⟨_,rfl,Old.refl _,e10,(fun h=>absurd h (by decide))⟩
  ·intro a W g hF hd;refine ⟨fun _=>?_,fun h=>by rw [Qab rfl] at h;cases h⟩;have h5:a.eval (.tmp 42)=.int .i64 ii:=hd ⟨5,.data⟩ (by simp) rfl;have h6:a.eval (.tmp 43)=.int .i64 k:=hd ⟨6,.data⟩ (by simp) rfl;obtain ⟨ρ,hρ⟩:∃ρ,a.eval=ρ:=⟨_,rfl⟩
   rw [hρ] at h5 h6;refine Qbe ρ hρ (.int .i64 pl) ?_ ⟨_,rfl,Old.refl _,rfl,(fun h=>absurd h (by decide))⟩
   clear g hF hd hρ HK KA ha7 ha8 ha10 ha12 px_kz b_kz
   go_simp
   all_goals (first | (rw [IntKind.wrap_i64];omega) | (rw [IntKind.wrap_u64];omega) | omega)
  ·intro a W g hF hd;refine ⟨fun _=>?_,fun h=>by rw [Qab rfl] at h;cases h⟩;have h4:a.eval (.tmp 41)=.slice (some ⟨pb,0,none⟩) n n:=hd ⟨4,.data⟩ (by simp) rfl;have h7:a.eval (.tmp 44)=.int .i64 pl:=hd ⟨7,.data⟩ (by simp) rfl;obtain ⟨ρ,hρ⟩:∃ρ,a.eval=ρ:=⟨_,rfl⟩
   rw [hρ] at h4 h7;refine Qbe ρ hρ (.pointer (some ⟨pb,pl*2,none⟩)) ?_ ⟨_,rfl,Old.refl _,rfl,(fun h=>absurd h (by decide))⟩
   clear g hF hd hρ HK KA ha7 ha8 ha10 ha12 px_kz b_kz
   go_simp
   all_goals (first | (rw [IntKind.wrap_i64];omega) | (rw [IntKind.wrap_u64];omega) | omega)
  ·intro a W g hF hd;refine ⟨fun _=>?_,fun h=>by rw [Qab rfl] at h;cases h⟩;have h8:a.eval (.tmp 45)=.pointer (some ⟨pb,pl*2,none⟩):=hd ⟨8,.data⟩ (by simp) rfl;obtain ⟨kk0,kk1⟩:=hld W g;obtain ⟨ρ,hρ⟩:∃ρ,a.eval=ρ:=⟨_,rfl⟩
   rw [hρ] at h8;refine Qbe ρ hρ (.agg #[.bool np,.slice ap lp cp]) ?_ ⟨_,rfl,Old.refl _,rfl,(fun h=>absurd h (by decide))⟩
   clear g hF hd hρ HK KA ha7 ha8 ha10 ha12 px_kz b_kz
   go_simp
   all_goals (first | (rw [IntKind.wrap_i64];omega) | (rw [IntKind.wrap_u64];omega) | omega)
  ·intro a W g hF hd;refine ⟨fun _=>?_,fun h=>by rw [Qab rfl] at h;cases h⟩;have e12:=(hF.same 12 Qm9).trans ha12;refine Qca (k:=kz) e12 (px_kz W g) Tryz.underlying53 rfl (by kernel_rfl) ?_
   exact ⟨_,rfl,Old.refl _,rfl,(fun h=>absurd h (by decide))⟩
  ·intro a W g hF hd;refine ⟨fun _=>?_,fun h=>by rw [Qab rfl] at h;cases h⟩;have h9:a.eval (.tmp 46)=.agg #[.bool np,.slice ap lp cp]:=hd ⟨9,.data⟩ (by simp) rfl;have h10:a.eval (.tmp 47)=.agg #[.bool nz,.slice az lz cz]:=hd ⟨10,.data⟩ (by simp) rfl;refine Qao (R:=fun v w'=>Old W w'∧PV w' v) Tryz.call22 (vs:=#[.agg #[.bool np,.slice ap lp cp],.agg #[.bool nz,.slice az lz cz]]) (by simp [h9,h10]) (KA W g) ?_
   rintro x w' ⟨g',hp⟩;exact ⟨_,rfl,g',hp,(fun h=>absurd h (by decide))⟩
  ·intro a W g hF hd;refine ⟨fun _=>?_,fun h=>by rw [Qab rfl] at h;cases h⟩;have h0:a.eval (.tmp 37)=.slice (some ⟨pb,0,none⟩) n n:=hd ⟨0,.data⟩ (by simp) rfl;have h3:a.eval (.tmp 40)=.int .i64 pl:=hd ⟨3,.data⟩ (by simp) rfl;obtain ⟨ρ,hρ⟩:∃ρ,a.eval=ρ:=⟨_,rfl⟩
   rw [hρ] at h0 h3;refine Qbe ρ hρ (.pointer (some ⟨pb,pl*2,none⟩)) ?_ ⟨_,rfl,Old.refl _,rfl,(fun h=>absurd h (by decide))⟩
   clear g hF hd hρ HK KA ha7 ha8 ha10 ha12 px_kz b_kz
   go_simp
   all_goals (first | (rw [IntKind.wrap_i64];omega) | (rw [IntKind.wrap_u64];omega) | omega)
 ·intro a W g hF hq hne;have hput:=Qcy (show Fram 13 Qd6 b0 a from hF) (fun i j hi hj=>Qi6 i hi j hj);obtain ⟨⟨z0_,hz0_⟩,⟨z1_,hz1_⟩,hf0_,hf1_⟩:=hcell W g;have pv_ : PV W (a.eval (.tmp 48)):=hq 11 (by decide);obtain ⟨b_,u_,l_,c_,ex_⟩:=hB2 W _ pv_;rw [ex_] at pv_;have hk:=HK.out (fun i=>a.eval (.tmp (Qd6 i))) W b_ u_ l_ c_ g pv_;rw [← hput] at hk;refine Qf3 (show a.eval (.tmp 49)=.pointer (some ⟨pb,pl*2,none⟩) from hq 12 (by decide)) ex_ hz0_ hz1_ hf0_ hf1_ ?_
  show Qg0 _ _ _ _ _
  exact hk
def Qdp (i:Nat):Nat:=[50,51,52,53,54,55,56,57,58,59,60,61,62,63,64,65,66,67].getD i 0
theorem Qr8:∀i,i<18->Qdp i<71:=by decide
theorem Qi9:∀i,i<18->∀j,j<18->Qdp i=Qdp j->i=j:=by decide
theorem Qja:∀i,i<18->Qdp i≠0:=by decide
theorem Qjb:∀i,i<18->Qdp i≠7:=by decide
theorem Qjc:∀i,i<18->Qdp i≠8:=by decide
theorem Qhp:∀i,i<18->Qdp i≠10:=by decide
theorem Qna:∀i,i<18->Qdp i≠12:=by decide
def qLn (ii k sm:Nat) (pb pl n:Nat) (np:Bool) (ap:Option Addr) (lp cp:Nat) (kz:Nat) (nz:Bool) (az:Option Addr) (lz cz:Nat) (PN:World->Value->Prop) (PV:World->Value->Prop) (i:Nat) (W:World) (x:Value):Prop:=
 match i with
 | 0=>x=.slice (some ⟨pb,0,none⟩) n n
 | 1=>x=.int .i64 ii
 | 2=>x=.int .i64 k
 | 3=>x=.int .i64 sm
 | 4=>x=.int .i64 n
 | 5=>x=.int .i64 pl
 | 6=>x=.slice (some ⟨pb,0,none⟩) n n
 | 7=>x=.int .i64 ii
 | 8=>x=.int .i64 k
 | 9=>x=.int .i64 sm
 | 10=>x=.int .i64 n
 | 11=>x=.int .i64 pl
 | 12=>x=.pointer (some ⟨pb,pl*2,none⟩)
 | 13=>x=.agg #[.bool np,.slice ap lp cp]
 | 14=>x=.agg #[.bool nz,.slice az lz cz]
 | 15=>PN W x
 | 16=>PV W x
 | 17=>x=.pointer (some ⟨pb,pl*2,none⟩)
 | _=>True
theorem Qxq (ii k sm:Nat) (pb pl n:Nat) (np:Bool) (ap:Option Addr) (lp cp:Nat) (kz:Nat) (nz:Bool) (az:Option Addr) (lz cz:Nat) (PN:World->Value->Prop) (PV:World->Value->Prop) (hM_PN:∀W W' v,PN W v->Old W W'->PN W' v) (hM_PV:∀W W' v,PV W v->Old W W'->PV W' v) (i:Nat) (W W':World) (x:Value) (h:qLn ii k sm pb pl n np ap lp cp kz nz az lz cz PN PV i W x) (qo:Old W W'):qLn ii k sm pb pl n np ap lp cp kz nz az lz cz PN PV i W' x:=by
 unfold qLn at h ⊢;split at h
 case h_16=>exact hM_PN _ _ _ h qo
 case h_17=>exact hM_PV _ _ _ h qo
 all_goals first | exact h | trivial
theorem Qzc (w0:World) (ii k sm:Nat) (pb pl n:Nat) (np:Bool) (ap:Option Addr) (lp cp:Nat) (kz:Nat) (nz:Bool) (az:Option Addr) (lz cz:Nat) (PN:World→Value→Prop) (PV:World→Value→Prop) (hM_PN:∀W W' v,PN W v→Old W W'→PN W' v) (hM_PV:∀W W' v,PV W v→Old W W'→PV W' v) (hA_PV:∀W x,PV W x→∃cs,x=.agg cs∧cs.size=2∧cs.all (·.oneCell')=true) (b_kz:w0.heap[kz]? = some (.cells #[.bool nz,.slice az lz cz] 53 (0,0)))
  (hi:(pl:Int)<(n:Int)) (hld:∀W,Old w0 W->W.cell? ⟨pb,pl*2,none⟩=some (.bool np)/\W.cell? ⟨pb,pl*2+1,none⟩=some (.slice ap lp cp)) (hs:(ii:Int)+(k:Int)=(sm:Int)) (hd:(sm:Int) - (n:Int)=(pl:Int)) (hb:(n:Int)<=16) (hcell:∀W,Old w0 W->(∃z,W.cell? ⟨pb,pl*2,none⟩=some z)/\(∃z,W.cell? ⟨pb,pl*2+1,none⟩=some z)/\W.frozen? ⟨pb,pl*2,none⟩=false/\W.frozen? ⟨pb,pl*2+1,none⟩=false) (hB2:∀W v,PV W v->∃b u l c,v=.agg #[.bool b,.slice u l c])
  (KN:∀W,Old w0 W->Calls Tryz.prog 44 #[.agg #[.bool nz,.slice az lz cz]] W fun e w'=>∃v,e=.returned v/\Old W w'/\PN w' v)
  (KA:∀W,Old w0 W->∀(u15:Value),PN W u15->Calls Tryz.prog 22 #[.agg #[.bool np,.slice ap lp cp],u15] W fun e w'=>∃v,e=.returned v/\Old W w'/\PV w' v)
  (Q:Exit->Act->World->Prop) (b0:Act) (hsz:b0.tmps.size=71) (ha0:b0.eval (.tmp 0)=.int .i64 n) (ha7:b0.eval (.tmp 7)=.slice (some ⟨pb,0,none⟩) n n) (ha8:b0.eval (.tmp 8)=.int .i64 ii) (ha10:b0.eval (.tmp 10)=.int .i64 k) (ha12:b0.eval (.tmp 12)=.pointer (some ⟨kz,0,none⟩))
  (HK:Hid (∀(us:Nat->Value) (W:World) (b_ : Bool) (u_ : Option Addr) (l_ c_ : Nat),Old w0 W->PV W (.agg #[.bool b_,.slice u_ l_ c_])->Q .normal (Qal b0 ((List.range 18).map fun i=>(Qdp i,us i))) ((W.setCell ⟨pb,pl*2,none⟩ (.bool b_)).setCell ⟨pb,pl*2+1,none⟩ (.slice u_ l_ c_)))) :
  Code.wp Tryz.prog ((Tryz.f21.body.bind (Qa2 11)).getD .skip) Q b0 w0:=by
 conv=>arg 2;whnf
 have px_kz:∀W,Old w0 W->W.heap[kz]? = some (.cells #[.bool nz,.slice az lz cz] 53 (0,0)):=fun W g=>(g.block kz (lt_of_some b_kz)).trans b_kz
 refine Qcl 18 (by decide) (by kernel_rfl) (by kernel_rfl) (by kernel_rfl) (by kernel_rfl) (by kernel_rfl) Qdp (fun i hi=>by rw [hsz];exact Qr8 i hi) (fun i j hi hj=>Qi9 i hi j hj) (qLn ii k sm pb pl n np ap lp cp kz nz az lz cz PN PV) (Qxq ii k sm pb pl n np ap lp cp kz nz az lz cz PN PV hM_PN hM_PV) [] (fun i W v hi hq=>by cases hi) ?_ ?_
 ·refine ⟨?_,?_,?_,?_,?_,?_,?_,?_,?_,?_,?_,?_,?_,?_,?_,?_,?_,?_,trivial⟩
  ·intro a W g hF hd;refine ⟨fun _=>?_,fun h=>by rw [Qab rfl] at h;cases h⟩;have e7:=(hF.same 7 Qjb).trans ha7;refine Qa0 ?_
   exact ⟨_,rfl,Old.refl _,e7,(fun h=>absurd h (by decide))⟩
  ·intro a W g hF hd;refine ⟨fun _=>?_,fun h=>by rw [Qab rfl] at h;cases h⟩;have e8:=(hF.same 8 Qjc).trans ha8;refine Qa0 ?_
   exact ⟨_,rfl,Old.refl _,e8,(fun h=>absurd h (by decide))⟩
  ·intro a W g hF hd;refine ⟨fun _=>?_,fun h=>by rw [Qab rfl] at h;cases h⟩;have e10:=(hF.same 10 Qhp).trans ha10;refine Qa0 ?_
   exact ⟨_,rfl,Old.refl _,e10,(fun h=>absurd h (by decide))⟩
  ·intro a W g hF hd;refine ⟨fun _=>?_,fun h=>by rw [Qab rfl] at h;cases h⟩;have h1:a.eval (.tmp 51)=.int .i64 ii:=hd ⟨1,.data⟩ (by simp) rfl;have h2:a.eval (.tmp 52)=.int .i64 k:=hd ⟨2,.data⟩ (by simp) rfl;obtain ⟨ρ,hρ⟩:∃ρ,a.eval=ρ:=⟨_,rfl⟩
   rw [hρ] at h1 h2;refine Qbe ρ hρ (.int .i64 sm) ?_ ⟨_,rfl,Old.refl _,rfl,(fun h=>absurd h (by decide))⟩
   clear g hF hd hρ HK KN KA ha0 ha7 ha8 ha10 ha12 px_kz b_kz
   go_simp
   all_goals (first | (rw [IntKind.wrap_i64];omega) | (rw [IntKind.wrap_u64];omega) | omega)
  ·intro a W g hF hd;refine ⟨fun _=>?_,fun h=>by rw [Qab rfl] at h;cases h⟩;have e0:=(hF.same 0 Qja).trans ha0;refine Qa0 ?_
   exact ⟨_,rfl,Old.refl _,e0,(fun h=>absurd h (by decide))⟩
  ·intro a W g hF hd;refine ⟨fun _=>?_,fun h=>by rw [Qab rfl] at h;cases h⟩;have h3:a.eval (.tmp 53)=.int .i64 sm:=hd ⟨3,.data⟩ (by simp) rfl;have h4:a.eval (.tmp 54)=.int .i64 n:=hd ⟨4,.data⟩ (by simp) rfl;obtain ⟨ρ,hρ⟩:∃ρ,a.eval=ρ:=⟨_,rfl⟩
   rw [hρ] at h3 h4;refine Qbe ρ hρ (.int .i64 pl) ?_ ⟨_,rfl,Old.refl _,rfl,(fun h=>absurd h (by decide))⟩
   clear g hF hd hρ HK KN KA ha0 ha7 ha8 ha10 ha12 px_kz b_kz
   go_simp
   all_goals (first | (rw [IntKind.wrap_i64];omega) | (rw [IntKind.wrap_u64];omega) | omega)
  ·intro a W g hF hd;refine ⟨fun _=>?_,fun h=>by rw [Qab rfl] at h;cases h⟩;have e7:=(hF.same 7 Qjb).trans ha7;refine Qa0 ?_
   exact ⟨_,rfl,Old.refl _,e7,(fun h=>absurd h (by decide))⟩
  ·intro a W g hF hd;refine ⟨fun _=>?_,fun h=>by rw [Qab rfl] at h;cases h⟩;have e8:=(hF.same 8 Qjc).trans ha8;refine Qa0 ?_
   exact ⟨_,rfl,Old.refl _,e8,(fun h=>absurd h (by decide))⟩
  ·intro a W g hF hd;refine ⟨fun _=>?_,fun h=>by rw [Qab rfl] at h;cases h⟩;have e10:=(hF.same 10 Qhp).trans ha10;refine Qa0 ?_
   exact ⟨_,rfl,Old.refl _,e10,(fun h=>absurd h (by decide))⟩
  ·intro a W g hF hd;refine ⟨fun _=>?_,fun h=>by rw [Qab rfl] at h;cases h⟩;have h7:a.eval (.tmp 57)=.int .i64 ii:=hd ⟨7,.data⟩ (by simp) rfl;have h8:a.eval (.tmp 58)=.int .i64 k:=hd ⟨8,.data⟩ (by simp) rfl;obtain ⟨ρ,hρ⟩:∃ρ,a.eval=ρ:=⟨_,rfl⟩
   rw [hρ] at h7 h8;refine Qbe ρ hρ (.int .i64 sm) ?_ ⟨_,rfl,Old.refl _,rfl,(fun h=>absurd h (by decide))⟩
   clear g hF hd hρ HK KN KA ha0 ha7 ha8 ha10 ha12 px_kz b_kz
   go_simp
   all_goals (first | (rw [IntKind.wrap_i64];omega) | (rw [IntKind.wrap_u64];omega) | omega)
  ·intro a W g hF hd;refine ⟨fun _=>?_,fun h=>by rw [Qab rfl] at h;cases h⟩;have e0:=(hF.same 0 Qja).trans ha0;refine Qa0 ?_
   exact ⟨_,rfl,Old.refl _,e0,(fun h=>absurd h (by decide))⟩
  ·intro a W g hF hd;refine ⟨fun _=>?_,fun h=>by rw [Qab rfl] at h;cases h⟩;have h9:a.eval (.tmp 59)=.int .i64 sm:=hd ⟨9,.data⟩ (by simp) rfl;have h10:a.eval (.tmp 60)=.int .i64 n:=hd ⟨10,.data⟩ (by simp) rfl;obtain ⟨ρ,hρ⟩:∃ρ,a.eval=ρ:=⟨_,rfl⟩
   rw [hρ] at h9 h10;refine Qbe ρ hρ (.int .i64 pl) ?_ ⟨_,rfl,Old.refl _,rfl,(fun h=>absurd h (by decide))⟩
   clear g hF hd hρ HK KN KA ha0 ha7 ha8 ha10 ha12 px_kz b_kz
   go_simp
   all_goals (first | (rw [IntKind.wrap_i64];omega) | (rw [IntKind.wrap_u64];omega) | omega)
  ·intro a W g hF hd;refine ⟨fun _=>?_,fun h=>by rw [Qab rfl] at h;cases h⟩;have h6:a.eval (.tmp 56)=.slice (some ⟨pb,0,none⟩) n n:=hd ⟨6,.data⟩ (by simp) rfl;have h11:a.eval (.tmp 61)=.int .i64 pl:=hd ⟨11,.data⟩ (by simp) rfl;obtain ⟨ρ,hρ⟩:∃ρ,a.eval=ρ:=⟨_,rfl⟩
   rw [hρ] at h6 h11;refine Qbe ρ hρ (.pointer (some ⟨pb,pl*2,none⟩)) ?_ ⟨_,rfl,Old.refl _,rfl,(fun h=>absurd h (by decide))⟩
   clear g hF hd hρ HK KN KA ha0 ha7 ha8 ha10 ha12 px_kz b_kz
   go_simp
   all_goals (first | (rw [IntKind.wrap_i64];omega) | (rw [IntKind.wrap_u64];omega) | omega)
  ·intro a W g hF hd;refine ⟨fun _=>?_,fun h=>by rw [Qab rfl] at h;cases h⟩;have h12:a.eval (.tmp 62)=.pointer (some ⟨pb,pl*2,none⟩):=hd ⟨12,.data⟩ (by simp) rfl;obtain ⟨kk0,kk1⟩:=hld W g;obtain ⟨ρ,hρ⟩:∃ρ,a.eval=ρ:=⟨_,rfl⟩
   rw [hρ] at h12;refine Qbe ρ hρ (.agg #[.bool np,.slice ap lp cp]) ?_ ⟨_,rfl,Old.refl _,rfl,(fun h=>absurd h (by decide))⟩
   clear g hF hd hρ HK KN KA ha0 ha7 ha8 ha10 ha12 px_kz b_kz
   go_simp
   all_goals (first | (rw [IntKind.wrap_i64];omega) | (rw [IntKind.wrap_u64];omega) | omega)
  ·intro a W g hF hd;refine ⟨fun _=>?_,fun h=>by rw [Qab rfl] at h;cases h⟩;have e12:=(hF.same 12 Qna).trans ha12;refine Qca (k:=kz) e12 (px_kz W g) Tryz.underlying53 rfl (by kernel_rfl) ?_
   exact ⟨_,rfl,Old.refl _,rfl,(fun h=>absurd h (by decide))⟩
  ·intro a W g hF hd;refine ⟨fun _=>?_,fun h=>by rw [Qab rfl] at h;cases h⟩;have h14:a.eval (.tmp 64)=.agg #[.bool nz,.slice az lz cz]:=hd ⟨14,.data⟩ (by simp) rfl;refine Qao (R:=fun v w'=>Old W w'∧PN w' v) Tryz.call44 (vs:=#[.agg #[.bool nz,.slice az lz cz]]) (by simp [h14]) (KN W g) ?_
   rintro x w' ⟨g',hp⟩;exact ⟨_,rfl,g',hp,(fun h=>absurd h (by decide))⟩
  ·intro a W g hF hd;refine ⟨fun _=>?_,fun h=>by rw [Qab rfl] at h;cases h⟩;have h13:a.eval (.tmp 63)=.agg #[.bool np,.slice ap lp cp]:=hd ⟨13,.data⟩ (by simp) rfl;have p15:PN W (a.eval (.tmp 65)):=hd ⟨15,.data⟩ (by simp) rfl;refine Qao (R:=fun v w'=>Old W w'∧PV w' v) Tryz.call22 (vs:=#[.agg #[.bool np,.slice ap lp cp],a.eval (.tmp 65)]) (by simp [h13]) (KA W g _ p15) ?_
   rintro x w' ⟨g',hp⟩;exact ⟨_,rfl,g',hp,(fun h=>absurd h (by decide))⟩
  ·intro a W g hF hd;refine ⟨fun _=>?_,fun h=>by rw [Qab rfl] at h;cases h⟩;have h0:a.eval (.tmp 50)=.slice (some ⟨pb,0,none⟩) n n:=hd ⟨0,.data⟩ (by simp) rfl;have h5:a.eval (.tmp 55)=.int .i64 pl:=hd ⟨5,.data⟩ (by simp) rfl;obtain ⟨ρ,hρ⟩:∃ρ,a.eval=ρ:=⟨_,rfl⟩
   rw [hρ] at h0 h5;refine Qbe ρ hρ (.pointer (some ⟨pb,pl*2,none⟩)) ?_ ⟨_,rfl,Old.refl _,rfl,(fun h=>absurd h (by decide))⟩
   clear g hF hd hρ HK KN KA ha0 ha7 ha8 ha10 ha12 px_kz b_kz
   go_simp
   all_goals (first | (rw [IntKind.wrap_i64];omega) | (rw [IntKind.wrap_u64];omega) | omega)
 ·intro a W g hF hq hne;have hput:=Qcy (show Fram 18 Qdp b0 a from hF) (fun i j hi hj=>Qi9 i hi j hj);obtain ⟨⟨z0_,hz0_⟩,⟨z1_,hz1_⟩,hf0_,hf1_⟩:=hcell W g;have pv_ : PV W (a.eval (.tmp 66)):=hq 16 (by decide);obtain ⟨b_,u_,l_,c_,ex_⟩:=hB2 W _ pv_;rw [ex_] at pv_;have hk:=HK.out (fun i=>a.eval (.tmp (Qdp i))) W b_ u_ l_ c_ g pv_;rw [← hput] at hk;refine Qf3 (show a.eval (.tmp 67)=.pointer (some ⟨pb,pl*2,none⟩) from hq 17 (by decide)) ex_ hz0_ hz1_ hf0_ hf1_ ?_
  show Qg0 _ _ _ _ _
  exact hk
def Qeh (i:Nat):Nat:=[81,82,83,84,85,86,87,88,89].getD i 0
theorem Qr9:∀i,i<9->Qeh i<110:=by decide
theorem Qjd:∀i,i<9->∀j,j<9->Qeh i=Qeh j->i=j:=by decide
theorem Qhq:∀i,i<9->Qeh i≠13:=by decide
theorem Qhr:∀i,i<9->Qeh i≠14:=by decide
theorem Qnb:∀i,i<9->Qeh i≠15:=by decide
def qLm (pb pl n:Nat) (np:Bool) (ap:Option Addr) (lp cp:Nat) (kz:Nat) (nz:Bool) (az:Option Addr) (lz cz:Nat) (PV:World->Value->Prop) (i:Nat) (W:World) (x:Value):Prop:=
 match i with
 | 0=>x=.slice (some ⟨pb,0,none⟩) n n
 | 1=>x=.int .i64 pl
 | 2=>x=.slice (some ⟨pb,0,none⟩) n n
 | 3=>x=.int .i64 pl
 | 4=>x=.pointer (some ⟨pb,pl*2,none⟩)
 | 5=>x=.agg #[.bool np,.slice ap lp cp]
 | 6=>x=.agg #[.bool nz,.slice az lz cz]
 | 7=>PV W x
 | 8=>x=.pointer (some ⟨pb,pl*2,none⟩)
 | _=>True
theorem Qxr (pb pl n:Nat) (np:Bool) (ap:Option Addr) (lp cp:Nat) (kz:Nat) (nz:Bool) (az:Option Addr) (lz cz:Nat) (PV:World->Value->Prop) (hM_PV:∀W W' v,PV W v->Old W W'->PV W' v) (i:Nat) (W W':World) (x:Value) (h:qLm pb pl n np ap lp cp kz nz az lz cz PV i W x) (qo:Old W W'):qLm pb pl n np ap lp cp kz nz az lz cz PV i W' x:=by
 unfold qLm at h ⊢;split at h
 case h_8=>exact hM_PV _ _ _ h qo
 all_goals first | exact h | trivial
theorem Qzd (w0:World) (pb pl n:Nat) (np:Bool) (ap:Option Addr) (lp cp:Nat) (kz:Nat) (nz:Bool) (az:Option Addr) (lz cz:Nat) (PV:World→Value→Prop) (hM_PV:∀W W' v,PV W v→Old W W'→PV W' v) (hA_PV:∀W x,PV W x→∃cs,x=.agg cs∧cs.size=2∧cs.all (·.oneCell')=true) (b_kz:w0.heap[kz]? = some (.cells #[.bool nz,.slice az lz cz] 53 (0,0)))
  (hi:(pl:Int)<(n:Int)) (hld:∀W,Old w0 W->W.cell? ⟨pb,pl*2,none⟩=some (.bool np)/\W.cell? ⟨pb,pl*2+1,none⟩=some (.slice ap lp cp)) (hcell:∀W,Old w0 W->(∃z,W.cell? ⟨pb,pl*2,none⟩=some z)/\(∃z,W.cell? ⟨pb,pl*2+1,none⟩=some z)/\W.frozen? ⟨pb,pl*2,none⟩=false/\W.frozen? ⟨pb,pl*2+1,none⟩=false) (hB2:∀W v,PV W v->∃b u l c,v=.agg #[.bool b,.slice u l c])
  (KA:∀W,Old w0 W->Calls Tryz.prog 22 #[.agg #[.bool np,.slice ap lp cp],.agg #[.bool nz,.slice az lz cz]] W fun e w'=>∃v,e=.returned v/\Old W w'/\PV w' v)
  (Q:Exit->Act->World->Prop) (b0:Act) (hsz:b0.tmps.size=110) (ha13:b0.eval (.tmp 13)=.slice (some ⟨pb,0,none⟩) n n) (ha14:b0.eval (.tmp 14)=.int .i64 pl) (ha15:b0.eval (.tmp 15)=.pointer (some ⟨kz,0,none⟩))
  (HK:Hid (∀(us:Nat->Value) (W:World) (b_ : Bool) (u_ : Option Addr) (l_ c_ : Nat),Old w0 W->PV W (.agg #[.bool b_,.slice u_ l_ c_])->Q .normal (Qal b0 ((List.range 9).map fun i=>(Qeh i,us i))) ((W.setCell ⟨pb,pl*2,none⟩ (.bool b_)).setCell ⟨pb,pl*2+1,none⟩ (.slice u_ l_ c_)))) :
  Code.wp Tryz.prog ((Tryz.f6.body.bind (Qa2 12)).getD .skip) Q b0 w0:=by
 conv=>arg 2;whnf
 have px_kz:∀W,Old w0 W->W.heap[kz]? = some (.cells #[.bool nz,.slice az lz cz] 53 (0,0)):=fun W g=>(g.block kz (lt_of_some b_kz)).trans b_kz
 refine Qcl 9 (by decide) (by kernel_rfl) (by kernel_rfl) (by kernel_rfl) (by kernel_rfl) (by kernel_rfl) Qeh (fun i hi=>by rw [hsz];exact Qr9 i hi) (fun i j hi hj=>Qjd i hi j hj) (qLm pb pl n np ap lp cp kz nz az lz cz PV) (Qxr pb pl n np ap lp cp kz nz az lz cz PV hM_PV) [] (fun i W v hi hq=>by cases hi) ?_ ?_
 ·refine ⟨?_,?_,?_,?_,?_,?_,?_,?_,?_,trivial⟩
  ·intro a W g hF hd;refine ⟨fun _=>?_,fun h=>by rw [Qab rfl] at h;cases h⟩;have e13:=(hF.same 13 Qhq).trans ha13;refine Qa0 ?_
   exact ⟨_,rfl,Old.refl _,e13,(fun h=>absurd h (by decide))⟩
  ·intro a W g hF hd;refine ⟨fun _=>?_,fun h=>by rw [Qab rfl] at h;cases h⟩;have e14:=(hF.same 14 Qhr).trans ha14;refine Qa0 ?_
   exact ⟨_,rfl,Old.refl _,e14,(fun h=>absurd h (by decide))⟩
  ·intro a W g hF hd;refine ⟨fun _=>?_,fun h=>by rw [Qab rfl] at h;cases h⟩;have e13:=(hF.same 13 Qhq).trans ha13;refine Qa0 ?_
   exact ⟨_,rfl,Old.refl _,e13,(fun h=>absurd h (by decide))⟩
  ·intro a W g hF hd;refine ⟨fun _=>?_,fun h=>by rw [Qab rfl] at h;cases h⟩;have e14:=(hF.same 14 Qhr).trans ha14;refine Qa0 ?_
   exact ⟨_,rfl,Old.refl _,e14,(fun h=>absurd h (by decide))⟩
  ·intro a W g hF hd;refine ⟨fun _=>?_,fun h=>by rw [Qab rfl] at h;cases h⟩;have h2:a.eval (.tmp 83)=.slice (some ⟨pb,0,none⟩) n n:=hd ⟨2,.data⟩ (by simp) rfl;have h3:a.eval (.tmp 84)=.int .i64 pl:=hd ⟨3,.data⟩ (by simp) rfl;obtain ⟨ρ,hρ⟩:∃ρ,a.eval=ρ:=⟨_,rfl⟩
   rw [hρ] at h2 h3;refine Qbe ρ hρ (.pointer (some ⟨pb,pl*2,none⟩)) ?_ ⟨_,rfl,Old.refl _,rfl,(fun h=>absurd h (by decide))⟩
   clear g hF hd hρ HK KA ha13 ha14 ha15 px_kz b_kz
   go_simp
   all_goals (first | (rw [IntKind.wrap_i64];omega) | (rw [IntKind.wrap_u64];omega) | omega)
  ·intro a W g hF hd;refine ⟨fun _=>?_,fun h=>by rw [Qab rfl] at h;cases h⟩;have h4:a.eval (.tmp 85)=.pointer (some ⟨pb,pl*2,none⟩):=hd ⟨4,.data⟩ (by simp) rfl;obtain ⟨kk0,kk1⟩:=hld W g;obtain ⟨ρ,hρ⟩:∃ρ,a.eval=ρ:=⟨_,rfl⟩
   rw [hρ] at h4;refine Qbe ρ hρ (.agg #[.bool np,.slice ap lp cp]) ?_ ⟨_,rfl,Old.refl _,rfl,(fun h=>absurd h (by decide))⟩
   clear g hF hd hρ HK KA ha13 ha14 ha15 px_kz b_kz
   go_simp
   all_goals (first | (rw [IntKind.wrap_i64];omega) | (rw [IntKind.wrap_u64];omega) | omega)
  ·intro a W g hF hd;refine ⟨fun _=>?_,fun h=>by rw [Qab rfl] at h;cases h⟩;have e15:=(hF.same 15 Qnb).trans ha15;refine Qca (k:=kz) e15 (px_kz W g) Tryz.underlying53 rfl (by kernel_rfl) ?_
   exact ⟨_,rfl,Old.refl _,rfl,(fun h=>absurd h (by decide))⟩
  ·intro a W g hF hd;refine ⟨fun _=>?_,fun h=>by rw [Qab rfl] at h;cases h⟩;have h5:a.eval (.tmp 86)=.agg #[.bool np,.slice ap lp cp]:=hd ⟨5,.data⟩ (by simp) rfl;have h6:a.eval (.tmp 87)=.agg #[.bool nz,.slice az lz cz]:=hd ⟨6,.data⟩ (by simp) rfl;refine Qao (R:=fun v w'=>Old W w'∧PV w' v) Tryz.call22 (vs:=#[.agg #[.bool np,.slice ap lp cp],.agg #[.bool nz,.slice az lz cz]]) (by simp [h5,h6]) (KA W g) ?_
   rintro x w' ⟨g',hp⟩;exact ⟨_,rfl,g',hp,(fun h=>absurd h (by decide))⟩
  ·intro a W g hF hd;refine ⟨fun _=>?_,fun h=>by rw [Qab rfl] at h;cases h⟩;have h0:a.eval (.tmp 81)=.slice (some ⟨pb,0,none⟩) n n:=hd ⟨0,.data⟩ (by simp) rfl;have h1:a.eval (.tmp 82)=.int .i64 pl:=hd ⟨1,.data⟩ (by simp) rfl;obtain ⟨ρ,hρ⟩:∃ρ,a.eval=ρ:=⟨_,rfl⟩
   rw [hρ] at h0 h1;refine Qbe ρ hρ (.pointer (some ⟨pb,pl*2,none⟩)) ?_ ⟨_,rfl,Old.refl _,rfl,(fun h=>absurd h (by decide))⟩
   clear g hF hd hρ HK KA ha13 ha14 ha15 px_kz b_kz
   go_simp
   all_goals (first | (rw [IntKind.wrap_i64];omega) | (rw [IntKind.wrap_u64];omega) | omega)
 ·intro a W g hF hq hne;have hput:=Qcy (show Fram 9 Qeh b0 a from hF) (fun i j hi hj=>Qjd i hi j hj);obtain ⟨⟨z0_,hz0_⟩,⟨z1_,hz1_⟩,hf0_,hf1_⟩:=hcell W g;have pv_ : PV W (a.eval (.tmp 88)):=hq 7 (by decide);obtain ⟨b_,u_,l_,c_,ex_⟩:=hB2 W _ pv_;rw [ex_] at pv_;have hk:=HK.out (fun i=>a.eval (.tmp (Qeh i))) W b_ u_ l_ c_ g pv_;rw [← hput] at hk;refine Qf3 (show a.eval (.tmp 89)=.pointer (some ⟨pb,pl*2,none⟩) from hq 8 (by decide)) ex_ hz0_ hz1_ hf0_ hf1_ ?_
  show Qg0 _ _ _ _ _
  exact hk
def Qei (i:Nat):Nat:=[17,18,19,20,21,22,23,24,25,26,6].getD i 0
theorem Qsa:∀i,i<11->Qei i<32:=by decide
theorem Qje:∀i,i<11->∀j,j<11->Qei i=Qei j->i=j:=by decide
theorem Qpr:∀i,i<10->Qei i≠2:=by decide
theorem Qps:∀i,i<10->Qei i≠5:=by decide
theorem Qpt:∀i,i<10->Qei i≠6:=by decide
theorem Qpu:∀i,i<10->Qei i≠8:=by decide
def qLq (N T E:Int) (a3:Option Addr) (l3 c3:Nat) (pb:Nat) (kx:Nat) (nx:Bool) (ax:Option Addr) (lx cx:Nat) (qa:Option Addr) (ql qc:Nat) (ra:Option Addr) (j rc:Nat) (PA:World->Value->Prop) (PB:World->Value->Prop) (PC:World->Value->Prop) (i:Nat) (W:World) (x:Value):Prop:=
 match i with
 | 0=>x=.slice ra j rc
 | 1=>x=.agg #[.bool nx,.slice ax lx cx]
 | 2=>x=.pointer (some ⟨pb,1,none⟩)
 | 3=>x=.int .i64 T
 | 4=>PA W x
 | 5=>PB W x
 | 6=>x=.slice qa ql qc
 | 7=>PC W x
 | 8=>∃(g:Nat) (b_ : Bool) (u_ : Option Addr) (l_ c_ : Nat),x=.slice (some ⟨g,0,none⟩) 1 1/\W.cell? ⟨g,0,none⟩=some (.bool b_)/\W.cell? ⟨g,1,none⟩=some (.slice u_ l_ c_)/\g<W.heap.size/\PC W (.agg #[.bool b_,.slice u_ l_ c_])
 | _=>True
theorem Qxs (N T E:Int) (a3:Option Addr) (l3 c3:Nat) (pb:Nat) (kx:Nat) (nx:Bool) (ax:Option Addr) (lx cx:Nat) (qa:Option Addr) (ql qc:Nat) (ra:Option Addr) (j rc:Nat) (PA:World->Value->Prop) (PB:World->Value->Prop) (PC:World->Value->Prop) (hM_PA:∀W W' v,PA W v->Old W W'->PA W' v) (hM_PB:∀W W' v,PB W v->Old W W'->PB W' v) (hM_PC:∀W W' v,PC W v->Old W W'->PC W' v) (i:Nat) (W W':World) (x:Value) (h:qLq N T E a3 l3 c3 pb kx nx ax lx cx qa ql qc ra j rc PA PB PC i W x) (qo:Old W W'):qLq N T E a3 l3 c3 pb kx nx ax lx cx qa ql qc ra j rc PA PB PC i W' x:=by
 unfold qLq at h ⊢;split at h
 case h_5=>exact hM_PA _ _ _ h qo
 case h_6=>exact hM_PB _ _ _ h qo
 case h_8=>exact hM_PC _ _ _ h qo
 case h_9=>
  obtain ⟨g,b_,u_,l_,c_,e,h0,h1,hlt,hp⟩:=h;exact ⟨g,b_,u_,l_,c_,e,(qo.cell (p:=⟨g,0,none⟩) hlt).trans h0,(qo.cell (p:=⟨g,1,none⟩) hlt).trans h1,Nat.lt_of_lt_of_le hlt qo.size,hM_PC _ _ _ hp qo⟩
 all_goals first | exact h | trivial
theorem Qze (w0:World) (N T E:Int) (a3:Option Addr) (l3 c3:Nat) (pb:Nat) (kx:Nat) (nx:Bool) (ax:Option Addr) (lx cx:Nat) (qa:Option Addr) (ql qc:Nat) (ra:Option Addr) (j rc:Nat) (PA:World→Value→Prop) (PB:World→Value→Prop) (PC:World→Value→Prop) (hM_PA:∀W W' v,PA W v→Old W W'→PA W' v) (hM_PB:∀W W' v,PB W v→Old W W'→PB W' v) (hM_PC:∀W W' v,PC W v→Old W W'→PC W' v) (b_kx:w0.heap[kx]? = some (.cells #[.bool nx,.slice ax lx cx] 53 (0,0))) (b_pb:w0.heap[pb]? = some (.cells #[.int .i64 N,.int .i64 T,.int .i64 E,.slice a3 l3 c3] 33 (0,0)))
  (hj:j<=100)
  (base:Nat) (hbase:base<=w0.heap.size) (FIN:World->Value->Prop) (hB2:∀W v,PC W v->∃b u l c,v=.agg #[.bool b,.slice u l c]) (HEM:∀(W:World) b_ u_ l_ c_,Old w0 W->PC W (.agg #[.bool b_,.slice u_ l_ c_])->∃vs,W.ownsRow base 53 2 (.slice ra j rc) j vs/\(∀v' w',w'.ownsRow base 53 2 v' (j+1) (vs++[.bool b_,.slice u_ l_ c_])->W.grownBy w' (Value.slice ra j rc).ownBlock->(v'.ownBlock=(Value.slice ra j rc).ownBlock∨v'.ownBlock=some W.heap.size)->FIN w' v'))
  (KA:∀W,Old w0 W->Calls Tryz.prog 50 #[.int .i64 T] W fun e w'=>∃v,e=.returned v/\Old W w'/\PA w' v)
  (KB:∀W,Old w0 W->∀(u4:Value),PA W u4->Calls Tryz.prog 43 #[.agg #[.bool nx,.slice ax lx cx],u4] W fun e w'=>∃v,e=.returned v/\Old W w'/\PB w' v)
  (KC:∀W,Old w0 W->∀(u5:Value),PB W u5->Calls Tryz.prog 49 #[u5,.slice qa ql qc] W fun e w'=>∃v,e=.returned v/\Old W w'/\PC w' v)
  (Q:Exit->Act->World->Prop) (b0:Act) (hsz:b0.tmps.size=32) (ha2:b0.eval (.tmp 2)=.pointer (some ⟨pb,0,none⟩)) (ha5:b0.eval (.tmp 5)=.slice qa ql qc) (ha6:b0.eval (.tmp 6)=.slice ra j rc) (ha8:b0.eval (.tmp 8)=.pointer (some ⟨kx,0,none⟩))
  (HK:Hid (∀(us:Nat->Value) W,FIN W (us 10)->Q .normal (Qal b0 ((List.range 11).map fun i=>(Qei i,us i))) W)) :
  Code.wp Tryz.prog ((Tryz.f23.body.bind (Qa2 6)).getD .skip) Q b0 w0:=by
 conv=>arg 2;whnf
 obtain ⟨i0,ii,iz0,iz1,iz2⟩:=info_parts Tryz.infoL2W;have px_kx:∀W,Old w0 W->W.heap[kx]? = some (.cells #[.bool nx,.slice ax lx cx] 53 (0,0)):=fun W g=>(g.block kx (lt_of_some b_kx)).trans b_kx
 have px_pb:∀W,Old w0 W->W.heap[pb]? = some (.cells #[.int .i64 N,.int .i64 T,.int .i64 E,.slice a3 l3 c3] 33 (0,0)):=fun W g=>(g.block pb (lt_of_some b_pb)).trans b_pb
 have pc_pb_1:∀W,Old w0 W->W.cell? ⟨pb,1,none⟩=some (.int .i64 T):=fun W g=>cell_of_row W pb 1 _ _ (0,0) (px_pb W g)
 refine Qh3 9 rfl rfl rfl (by kernel_rfl) (by kernel_rfl) (by kernel_rfl) (by kernel_rfl) (by kernel_rfl) Qei (fun i hi=>by rw [hsz];exact Qsa i hi) (fun i j hi hj=>Qje i hi j hj) (qLq N T E a3 l3 c3 pb kx nx ax lx cx qa ql qc ra j rc PA PB PC) (Qxs N T E a3 l3 c3 pb kx nx ax lx cx qa ql qc ra j rc PA PB PC hM_PA hM_PB hM_PC) FIN ?_ ?_ ?_ ?_
 ·refine ⟨?_,?_,?_,?_,?_,?_,?_,?_,?_,trivial⟩
  ·intro a W g hF hd;have e6:=(hF.same 6 Qpt).trans ha6;refine Qa0 ?_
   exact ⟨_,rfl,Old.refl _,e6⟩
  ·intro a W g hF hd;have e8:=(hF.same 8 Qpu).trans ha8;refine Qca (k:=kx) e8 (px_kx W g) Tryz.underlying53 rfl (by kernel_rfl) ?_
   exact ⟨_,rfl,Old.refl _,rfl⟩
  ·intro a W g hF hd;have e2:=(hF.same 2 Qpr).trans ha2;obtain ⟨ρ,hρ⟩:∃ρ,a.eval=ρ:=⟨_,rfl⟩
   rw [hρ] at e2;refine Qbe ρ hρ (.pointer (some ⟨pb,1,none⟩)) ?_ ⟨_,rfl,Old.refl _,rfl⟩
   clear g hF hd hρ HK HEM hbase KA KB KC ha2 ha5 ha6 ha8 px_kx b_kx px_pb b_pb pc_pb_1
   go_simp
   all_goals (first | (rw [IntKind.wrap_i64];omega) | (rw [IntKind.wrap_u64];omega) | omega)
  ·intro a W g hF hd;have h2:a.eval (.tmp 19)=.pointer (some ⟨pb,1,none⟩):=hd ⟨2,.data⟩ (by simp) rfl;have kk0:=pc_pb_1 W g;obtain ⟨ρ,hρ⟩:∃ρ,a.eval=ρ:=⟨_,rfl⟩
   rw [hρ] at h2;refine Qbe ρ hρ (.int .i64 T) ?_ ⟨_,rfl,Old.refl _,rfl⟩
   clear g hF hd hρ HK HEM hbase KA KB KC ha2 ha5 ha6 ha8 px_kx b_kx px_pb b_pb pc_pb_1
   go_simp
   all_goals (first | (rw [IntKind.wrap_i64];omega) | (rw [IntKind.wrap_u64];omega) | omega)
  ·intro a W g hF hd;have h3:a.eval (.tmp 20)=.int .i64 T:=hd ⟨3,.data⟩ (by simp) rfl;refine Qao (R:=fun v w'=>Old W w'∧PA w' v) Tryz.call50 (vs:=#[.int .i64 T]) (by simp [h3]) (KA W g) ?_
   rintro x w' ⟨g',hp⟩;exact ⟨_,rfl,g',hp⟩
  ·intro a W g hF hd;have h1:a.eval (.tmp 18)=.agg #[.bool nx,.slice ax lx cx]:=hd ⟨1,.data⟩ (by simp) rfl;have p4:PA W (a.eval (.tmp 21)):=hd ⟨4,.data⟩ (by simp) rfl;refine Qao (R:=fun v w'=>Old W w'∧PB w' v) Tryz.call43 (vs:=#[.agg #[.bool nx,.slice ax lx cx],a.eval (.tmp 21)]) (by simp [h1]) (KB W g _ p4) ?_
   rintro x w' ⟨g',hp⟩;exact ⟨_,rfl,g',hp⟩
  ·intro a W g hF hd;have e5:=(hF.same 5 Qps).trans ha5;refine Qa0 ?_
   exact ⟨_,rfl,Old.refl _,e5⟩
  ·intro a W g hF hd;have h6:a.eval (.tmp 23)=.slice qa ql qc:=hd ⟨6,.data⟩ (by simp) rfl;have p5:PB W (a.eval (.tmp 22)):=hd ⟨5,.data⟩ (by simp) rfl;refine Qao (R:=fun v w'=>Old W w'∧PC w' v) Tryz.call49 (vs:=#[a.eval (.tmp 22),.slice qa ql qc]) (by simp [h6]) (KC W g _ p5) ?_
   rintro x w' ⟨g',hp⟩;exact ⟨_,rfl,g',hp⟩
  ·intro a W g hF hd;have pv_ : PC W (a.eval (.tmp 24)):=hd ⟨7,.data⟩ (by simp) rfl;obtain ⟨b_,u_,l_,c_,ex_⟩:=hB2 W _ pv_;rw [ex_] at pv_;obtain ⟨ρ,hρ⟩:∃ρ,a.eval=ρ:=⟨_,rfl⟩
   rw [hρ] at ex_;refine Qxn (W':=W.alloc (.cells #[.bool b_,.slice u_ l_ c_] 53)) ρ hρ (.slice (some ⟨W.heap.size,0,none⟩) 1 1) ?_ ⟨_,rfl,(Old.refl W).alloc _,W.heap.size,b_,u_,l_,c_,rfl,Qaj _ _ _ _ _ rfl,Qaj _ _ _ _ _ rfl,by simp,hM_PC _ _ _ pv_ ((Old.refl W).alloc _)⟩
   clear pv_;clear g hF hd hρ HK HEM hbase KA KB KC ha2 ha5 ha6 ha8 px_kx b_kx px_pb b_pb pc_pb_1
   go_simp
 ·intro a W g hF hq;have h0:a.eval (.tmp 17)=.slice ra j rc:=hq 0 (by decide);obtain ⟨gg,b_,u_,l_,c_,h8,hc0,hc1,hlt,hp⟩:∃(gg:Nat) (b_ : Bool) (u_ : Option Addr) (l_ c_ : Nat),a.eval (.tmp 25)=.slice (some ⟨gg,0,none⟩) 1 1∧W.cell? ⟨gg,0,none⟩=some (.bool b_)∧W.cell? ⟨gg,1,none⟩=some (.slice u_ l_ c_)∧gg<W.heap.size∧PC W (.agg #[.bool b_,.slice u_ l_ c_]):=hq 8 (by decide)
  obtain ⟨vs,ov,hem⟩:=HEM W b_ u_ l_ c_ g hp;refine Qlm _ _ 47 rfl base 53 i0 (.agg #[.bool false,.slice none 0 0]) 2 32 Tryz.underlying47 ii iz0 iz1 iz2 rfl (by decide) _ j vs h0 ov ⟨gg,0,none⟩ 1 1 [.bool b_,.slice u_ l_ c_] h8 rfl ?_ (by simp [Value.oneCell']) (by unfold maxLen;omega) (by omega) (Nat.le_trans hbase g.size) ?_
  ·intro j u hj
   match j,hj with
   | 0,hj=>
     have:Value.bool b_ = u:=by simpa using hj
     subst this;exact hc0
   | 1,hj=>
     have:Value.slice u_ l_ c_ = u:=by simpa using hj
     subst this;exact hc1
   | j+2,hj=>simp at hj
  ·intro v' w' o5 g5 x5 l5;exact ⟨v',rfl,hem v' w' o5 g5 l5⟩
 ·intro a W v hv;exact Qea (by rw [show a.eval (.tmp 26)=v from hv];exact ⟨rfl,rfl⟩)
 ·intro a W hF hq;have hp:=Qcy hF (fun i j hi hj=>Qje i hi j hj);have hk:=HK.out (fun i=>a.eval (.tmp (Qei i))) W hq;rw [<- hp] at hk;exact hk
end Go.Proofs.YtjjohooeehjjcaaGreatDoor
