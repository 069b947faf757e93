/- Proved: what its theorems say. -/
import Derived.Conc.LoneCalls
import Derived.Test.YtejhpljichmmpaaGreatDoorLawNoiseOf
import Derived.Test.YtejhpljichmmpaaGreatDoorNo41
set_option linter.unusedVariables false
set_option linter.unusedSimpArgs false
namespace Go.Proofs.YtejhpljichmmpaaGreatDoor
open Go.ChangeShapes Go.WideShapes Go.ChangeAt Go.RowKit
def sb (x:Nat):Nat->Nat
 | 0=>0
 | k+1=>sb x k+x/2^k%2
end Go.Proofs.YtejhpljichmmpaaGreatDoor
namespace Go.Proofs.YtejhpljichmmpaaGreatDoor
open Go.ChangeShapes Go.WideShapes Go.ChangeAt Go.RowKit
open M2
def Q14 (n:Bool) (len:Nat) (W:World) (lo hi:Nat) (g:Array Value):Prop:=∃a c,g=#[.bool n,.slice a len c]/\OwI (marks 1 len) W lo hi (.slice a len c)
theorem Qwo (n:Bool) (len:Nat):Far (Q14 n len):=fun W W' lo hi v h hf hs=>by
 obtain ⟨a,c,e,o⟩:=h;exact ⟨a,c,e,Qha _ W W' lo hi _ o hf hs⟩
theorem Qrp {n:Bool} {len:Nat} (W:World) (lo hi:Nat) (g:Array Value) (h:Q14 n len W lo hi g):∃a c,g=#[.bool n,.slice a len c]:=by
 obtain ⟨a,c,e,o⟩:=h;exact ⟨a,c,e⟩
theorem Qwp (n:Bool) (xs:List Int) (W:World) (lo hi:Nat) (g:Array Value) (h:XW n xs W lo hi g) (hl:xs.length<=1048576) :
 Calls Tryz.prog 22 #[.agg g,.int .i64 1] W fun e w'=>e=.returned (.int .i64 (1+xs.length))/\Chg W w' lo hi/\Q14 n xs.length w' lo hi g:=by
 obtain ⟨a,c,rfl,o⟩:=h;refine (Qjs n xs _ 1 lo W o.1 (by omega) (by omega) (by omega)).mono ?_
 rintro e w' ⟨rfl,gr,ow⟩;obtain ⟨hc,ho⟩:=o.mark gr ow;exact ⟨rfl,hc,a,c,rfl,ho⟩
theorem Qwq (n:Bool) (len:Nat) (W:World) (lo hi:Nat) (g:Array Value) (h:Q14 n len W lo hi g) (hl:len<=1048576) :
 Calls Tryz.prog 23 #[.agg g,.int .i64 1] W fun e w'=>e=.returned (.int .i64 (1+len))/\Old W w':=by
 obtain ⟨a,c,rfl,o⟩:=h;exact Qjt n len _ 1 W o.row (by omega) (by omega) (by omega)
theorem WbN.res {D:List Nat} {ok:Bool} {W:World} {e:Ending} {w':World} (h:WbN W D ok e w'):∃r0,e=.returned (.tuple #[.agg r0,.bool ok])/\Old W w'/\XW false (toI D) w' W.heap.size w'.heap.size r0:=by
 obtain ⟨v',rfl,g,o⟩:=h;obtain ⟨x,y,rfl⟩:=(Own.row o).slice;exact ⟨_,rfl,g,x,y,rfl,OwI.of o⟩
theorem Qwr (xs:List Nat):(toI xs).length=xs.length:=by simp [toI]
theorem Qoq (N T E:Int) (xs:List Int) (ss:List Int) (xsss:List (List (List Int))) (v t u:Value) (w:World) (hv:Row w v xs) (hl:xs.length<=9223372036854775807) (hx:∀x∈xs,-9223372036854775808<=x/\x<=9223372036854775807) (ht:Row w t ss) (hts:ss.length<=9223372036854775807) (hu:Qgi w u xsss) (hs:xsss.length<=9223372036854775807) (hsr:∀r∈xsss,r.length<=9223372036854775807/\∀q∈r,q.length<=9223372036854775807) (hP:Qdm w) (hT:Qa9 w) :
 Calls Tryz.prog 3 #[.agg #[.int .i64 N,.int .i64 T,.int .i64 E,v],t,.agg #[u]] w fun e w'=>e=.returned (.bool true)/\Old w w':=by
 obtain ⟨a0,c0,rfl⟩:=hv.slice;obtain ⟨a1,c1,eu⟩:=hu.slice;obtain ⟨a2,c2,et⟩:=ht.slice;subst eu et
 have bnd:∀{A:Prop},¬(1048576:Int)<(ss.length:Int)->¬Qdh 1048576 xs.length<0->¬Qch (Qdh 1048576 xs.length) xsss<0->(xs.length<=1048576->xsss.length<=1048576->(∀r∈xsss,r.length<=1048576/\∀q∈r,q.length<=1048576)->Qdc xsss xsss.length<=1048576->ss.length<=1048576->A)->A:=fun h2 h0 h1 k=>by
  obtain ⟨q1,q2,q3⟩:=Qfg h0 (by omega);obtain ⟨p1,p2,p3,p4,p5⟩:=Qst q3 h1
  exact k (by omega) (by omega) (fun r hr=>by
   have:=p5 r hr;exact ⟨by omega,fun q hq=>by have:=this.2 q hq;omega⟩) (by omega) (by omega)
 obtain ⟨Z,ok,hy,hn,hz⟩:∃(Z:List Nat) (ok:Bool),((prB N T E xs&&ciB N xs xsss&&wiB N 1 ss)=true->Z=dig (noN N.toNat T xs (Qd6 N.toNat xs xsss (smS xs ss)))/\ok=true)/\((prB N T E xs&&ciB N xs xsss&&wiB N 1 ss)=false->Z=[]/\ok=false)/\Z.length<=40:=by
  cases h:(prB N T E xs&&ciB N xs xsss&&wiB N 1 ss)
  ·exact ⟨[],false,(fun h=>by cases h),(fun _=>⟨rfl,rfl⟩),by simp⟩
  ·rw [Bool.and_eq_true,Bool.and_eq_true] at h;obtain ⟨⟨h1,h2⟩,h3⟩:=h;obtain ⟨hz4,hbb,_⟩:=Qdj (Qtp h1);obtain ⟨Nn,rfl⟩:∃Nn:Nat,N=(Nn:Int):=⟨N.toNat,by omega⟩
   refine ⟨dig (noN (Nn:Int).toNat T xs (Qd6 (Nn:Int).toNat xs xsss (smS xs ss))),true,(fun _=>⟨rfl,rfl⟩),(fun h=>by cases h),?_⟩;rw [show ((Nn:Int).toNat)=Nn by omega];have hpb:∀k,k<xs.length->2<=xs.getD k 0/\xs.getD k 0<=268435456:=fun k hk=>Qqm ((Qc7 hbb).2 k hk)
   have hg:Gr Nn xs (nzL T xs (Qd6 Nn xs xsss (smS xs ss))):=Quh hbb (by unfold nzL;rw [Qbl]) (Qt1 hpb (Qoh hpb h2));have:cnt (noN Nn T xs (Qd6 Nn xs xsss (smS xs ss)))<=7:=Qoo (fun k hk=>Qm2 hg k hk)
   show cnt _<=40
   omega
 have eD:(toI Z).length=Z.length:=Qwr Z
 refine Qlk w N T E xs.length a0 c0 ss.length a2 c2 xsss.length a1 c1 false (toI Z).length ok (Qdh 1048576 xs.length) (Qch (Qdh 1048576 xs.length) xsss)
  (fun _ W g=>Q2q N T E a0 xs.length c0 1048576 W hl (by omega) (by omega))
  (fun _ h0 W g=>by
   obtain ⟨q1,q2,q3⟩:=Qfg h0 (by omega);exact Q2v xsss _ _ W (hu.old g) hs hsr q3 (by omega))
  (XP N T E xs) (Q02 N T E xs) Qvb (fun h2 h0 h1 W g=>bnd h2 h0 h1 fun h3 _ _ _ _=>Q2r N T E xs _ W (hv.old g) h3) (fun h2 h0 h1 W lo hi g lo' hi' g' k k'=>bnd h2 h0 h1 fun h3 _ _ _ _=>Q2s N T E xs W lo hi g lo' hi' g' k k' (by omega))
  (1+xs.length) (by omega) (fun h2 h0 h1 W lo hi g k=>bnd h2 h0 h1 fun h3 _ _ _ _=>Qyv N T E xs 1 W lo hi g k h3 (by omega) (by omega))
  (XI ss) (Q03 ss) Qvc (fun h2 h0 h1 W g=>bnd h2 h0 h1 fun _ _ _ _ h5=>Q2t ss _ W (ht.old g) h5) (fun h2 h0 h1 W lo hi g lo' hi' g' k k'=>bnd h2 h0 h1 fun _ _ _ _ h5=>Q2u ss W lo hi g lo' hi' g' k k' (by omega))
  (1+xs.length+ss.length) (by omega) (fun h2 h0 h1 W lo hi g k=>bnd h2 h0 h1 fun h2 h3 h4 h5 h6=>Qyw ss (1+xs.length) W lo hi g k h6 (by omega) (by omega))
  (XC xsss) (Q06 xsss) Qvh (fun h2 h0 h1 W g=>bnd h2 h0 h1 fun _ h3 h4 _ _=>Q2w xsss _ W (hu.old g) h3 h4) (fun h2 h0 h1 W lo hi g lo' hi' g' k k'=>bnd h2 h0 h1 fun _ h3 h4 _ _=>Q2x xsss W lo hi g lo' hi' g' k k' h3 h4)
  (1+xs.length+ss.length+Qdc xsss xsss.length) (by omega) (fun h2 h0 h1 W lo hi g k=>bnd h2 h0 h1 fun h2 h3 h4 h5 h6=>(Qy4 xsss (1+xs.length+ss.length) W lo hi g k h3 h4 (by omega) (by omega)).mono (fun e w' h=>⟨h.1,h.2.1⟩))
  (XW false (toI Z)) (Qw1 _ _) Qo7 (XW false (toI Z)) (Qw1 _ _) Qo7 (Q14 false (toI Z).length) (Qwo _ _) Qrp
  (fun h2 h0 h1 W lo hi g lo1 hi1 g1 lo2 hi2 g2 k k1 k2 q=>bnd h2 h0 h1 fun _ h3 h4 _ _=>?_) (fun h2 h0 h1 W lo hi g lo1 hi1 g1 lo2 hi2 g2 k k1 k2 q=>bnd h2 h0 h1 fun _ h3 h4 _ _=>?_)
  (fun h2 h0 h1 W lo hi p lo' hi' p' k k'=>Q2d false (toI Z) W lo hi p lo' hi' p' k k' (by omega))
  (1+(toI Z).length) (by omega) (fun h2 h0 h1 W lo hi p k=>Qwp false (toI Z) W lo hi p k (by omega))
  (fun h2 h0 h1 W lo hi p k=>Qwq false (toI Z).length W lo hi p k (by omega))
 ·obtain ⟨a,c,rfl,o,f⟩:=k;obtain ⟨a'',c'',rfl,o'',f''⟩:=k1;obtain ⟨a',c',rfl,o'⟩:=k2;exact (Qm5 N T E xs xsss ss _ _ _ W lo2 hi2 o.row f o' o''.row hts hl hx h3 h4 Z ok hy hn).mono fun e w' h=>WbN.res h
 ·obtain ⟨a,c,rfl,o,f⟩:=k;obtain ⟨a'',c'',rfl,o'',f''⟩:=k1;obtain ⟨a',c',rfl,o'⟩:=k2;exact (Qm4 N T E xs xsss ss _ _ _ W lo2 hi2 (hP.old q) (hT.old q) o.row f o' o''.row hts hl h3 h4 Z ok hy hn).mono fun e w' h=>WbN.res h
end Go.Proofs.YtejhpljichmmpaaGreatDoor
