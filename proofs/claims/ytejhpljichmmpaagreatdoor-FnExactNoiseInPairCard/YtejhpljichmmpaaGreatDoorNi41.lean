/- Proved: what its theorems say. -/
import Derived.Conc.LoneCalls
import Derived.Test.YtejhpljichmmpaaGreatDoorLawNoiseInPair
import Derived.Test.YtejhpljichmmpaaGreatDoorNi39
set_option linter.unusedVariables false
set_option linter.unusedSimpArgs false
namespace Go.Proofs.YtejhpljichmmpaaGreatDoor
open Go.ChangeShapes Go.WideShapes Go.ChangeAt Go.RowKit
def sb (x:Nat):Nat->Nat
 | 0=>0
 | k+1=>sb x k+x/2^k%2
end Go.Proofs.YtejhpljichmmpaaGreatDoor
namespace Go.Proofs.YtejhpljichmmpaaGreatDoor
open Go.ChangeShapes Go.WideShapes Go.ChangeAt Go.RowKit
open M1
open M2
def Qz6 (n:Bool) (len:Nat) (W:World) (lo hi:Nat) (g:Array Value):Prop:=∃a c,g=#[.bool n,.slice a len c]/\OwI (marks 1 len) W lo hi (.slice a len c)
theorem Quz (n:Bool) (len:Nat):Far (Qz6 n len):=fun W W' lo hi v h hf hs=>by
 obtain ⟨a,c,e,o⟩:=h;exact ⟨a,c,e,Qg0 _ W W' lo hi _ o hf hs⟩
theorem Qqf {n:Bool} {len:Nat} (W:World) (lo hi:Nat) (g:Array Value) (h:Qz6 n len W lo hi g):∃a c,g=#[.bool n,.slice a len c]:=by
 obtain ⟨a,c,e,o⟩:=h;exact ⟨a,c,e⟩
theorem Qu0 (n:Bool) (xs:List Int) (W:World) (lo hi:Nat) (g:Array Value) (h:XW n xs W lo hi g) (hl:xs.length<=1048576) :
 Calls Tryz.prog 22 #[.agg g,.int .i64 1] W fun e w'=>e=.returned (.int .i64 (1+xs.length))/\Chg W w' lo hi/\Qz6 n xs.length w' lo hi g:=by
 obtain ⟨a,c,rfl,o⟩:=h;refine (Qje n xs _ 1 lo W o.1 (by omega) (by omega) (by omega)).mono ?_
 rintro e w' ⟨rfl,gr,ow⟩;obtain ⟨hc,ho⟩:=o.mark gr ow;exact ⟨rfl,hc,a,c,rfl,ho⟩
theorem Qu1 (n:Bool) (len:Nat) (W:World) (lo hi:Nat) (g:Array Value) (h:Qz6 n len W lo hi g) (hl:len<=1048576) :
 Calls Tryz.prog 23 #[.agg g,.int .i64 1] W fun e w'=>e=.returned (.int .i64 (1+len))/\Old W w':=by
 obtain ⟨a,c,rfl,o⟩:=h;exact Qjf n len _ 1 W o.row (by omega) (by omega) (by omega)
theorem WbN.res {D:List Nat} {ok:Bool} {W:World} {e:Ending} {w':World} (h:WbN W D ok e w'):∃r0,e=.returned (.tuple #[.agg r0,.bool ok])/\Old W w'/\XW false (toI D) w' W.heap.size w'.heap.size r0:=by
 obtain ⟨v',rfl,g,o⟩:=h;obtain ⟨x,y,rfl⟩:=(Own.row o).slice;exact ⟨_,rfl,g,x,y,rfl,OwI.of o⟩
theorem Qu2 (xs:List Nat):(toI xs).length=xs.length:=by simp [toI]
theorem Qh2 (N T E:Int) (xs ss ws:List Int) (xss yss:List (List Int)) (v t u u' z:Value) (w:World) (hv:Row w v xs) (hl:xs.length<=9223372036854775807) (hx:∀x∈xs,-9223372036854775808<=x/\x<=9223372036854775807) (ht:Row w t ss) (hts:ss.length<=9223372036854775807) (hu:Qbx w u xss) (hu':Qbx w u' yss) (hsx:xss.length<=9223372036854775807) (hsr:∀r∈xss,r.length<=9223372036854775807) (hsy:yss.length<=9223372036854775807) (hsr':∀r∈yss,r.length<=9223372036854775807) (hz:Row w z ws) (hzs:ws.length<=9223372036854775807) (hP:Qdk w) (hT:Qbe w) :
 Calls Tryz.prog 6 #[.agg #[.int .i64 N,.int .i64 T,.int .i64 E,v],t,.agg #[u,u'],z] w fun e w'=>e=.returned (.bool true)/\Old w w':=by
 obtain ⟨a0,c0,rfl⟩:=hv.slice;obtain ⟨a1,c1,eu⟩:=hu.slice;obtain ⟨a3,c3,eu'⟩:=hu'.slice;obtain ⟨a2,c2,et⟩:=ht.slice;obtain ⟨a4,c4,ez⟩:=hz.slice;subst eu eu' et ez
 have bnd:∀{A:Prop},¬(1048576:Int)<(ss.length:Int)->¬(1048576:Int)<(ws.length:Int)->¬Qdg 1048576 xs.length<0->¬Qek (Qdg 1048576 xs.length) xss yss<0->(xs.length<=1048576->xss.length<=1048576->(∀r∈xss,r.length<=1048576)->yss.length<=1048576->(∀r∈yss,r.length<=1048576)->Qcr xss xss.length<=1048576->Qcr yss yss.length<=1048576->ss.length<=1048576->ws.length<=1048576->A)->A:=fun h2 h3 h0 h1 k=>by
  obtain ⟨q1,q2,q3⟩:=Qe0 h0 (by omega);obtain ⟨p1,p2,p3,p4⟩:=Qrj q3 h1;obtain ⟨r1,r2,r3,r4⟩:=Qhe q3 p1;obtain ⟨s1,s2,s3,s4⟩:=Qhe p2 p4;have o1:=Qhi q3 p1;have o2:=Qhi p2 p4;exact k (by omega) (by omega) (fun r hr=>by have:=r4 r hr;omega) (by omega) (fun r hr=>by have:=s4 r hr;omega) (by omega) (by omega) (by omega) (by omega)
 obtain ⟨Z,ok,hy,hn,hzl⟩:∃(Z:List Nat) (ok:Bool),((prB N T E xs&&(rwB N xs xss&&rwB N xs yss)&&wiB N 1 ss&&wmB N (-1099511627776) 1099511627776 ws)=true->Z=dig (niN N.toNat xs (Qa3 Qd7 xs (ppL N.toNat xs yss xss (smS xs ss)) (smS xs ws)))/\ok=true)/\((prB N T E xs&&(rwB N xs xss&&rwB N xs yss)&&wiB N 1 ss&&wmB N (-1099511627776) 1099511627776 ws)=false->Z=[]/\ok=false)/\Z.length<=40:=by
  cases h:(prB N T E xs&&(rwB N xs xss&&rwB N xs yss)&&wiB N 1 ss&&wmB N (-1099511627776) 1099511627776 ws)
  ·exact ⟨[],false,(fun h=>by cases h),(fun _=>⟨rfl,rfl⟩),by simp⟩
  ·rw [Bool.and_eq_true,Bool.and_eq_true,Bool.and_eq_true,Bool.and_eq_true] at h;obtain ⟨⟨⟨h1,h2,h3⟩,h4⟩,h5⟩:=h;obtain ⟨hz4,hbb,_⟩:=Qdr (Qr9 h1);obtain ⟨Nn,rfl⟩:∃Nn:Nat,N=(Nn:Int):=⟨N.toNat,by omega⟩
   refine ⟨dig (niN (Nn:Int).toNat xs (Qa3 Qd7 xs (ppL (Nn:Int).toNat xs yss xss (smS xs ss)) (smS xs ws))),true,(fun _=>⟨rfl,rfl⟩),(fun h=>by cases h),?_⟩;rw [show ((Nn:Int).toNat)=Nn by omega];have hpb:∀k,k<xs.length->2<=xs.getD k 0/\xs.getD k 0<=268435456:=fun k hk=>Qpn ((Qc0 hbb).2 k hk)
   have hg:Gr Nn xs (Qa3 Qd7 xs (ppL Nn xs yss xss (smS xs ss)) (smS xs ws)):=Qsy hbb (by rw [Qca]) (Qnt (yss:=smS xs ws) hpb (Qnh hpb (Qlv h3)));have:cnt (niN Nn xs (Qa3 Qd7 xs (ppL Nn xs yss xss (smS xs ss)) (smS xs ws)))<=7:=Qnu (fun k hk=>Ql4 hg k hk)
   show cnt _<=40
   omega
 have eD:(toI Z).length=Z.length:=Qu2 Z
 refine Qgc w N T E xs.length a0 c0 ss.length a2 c2 xss.length yss.length a1 c1 a3 c3 ws.length a4 c4 false (toI Z).length ok (Qdg 1048576 xs.length) (Qek (Qdg 1048576 xs.length) xss yss)
  (fun _ _ W g=>Q0u N T E a0 xs.length c0 1048576 W hl (by omega) (by omega))
  (fun _ _ h0 W g=>by
   obtain ⟨q1,q2,q3⟩:=Qe0 h0 (by omega);exact Qze xss yss _ _ _ W (hu.old g) (hu'.old g) hsx hsr hsy hsr' q3 (by omega))
  (XP N T E xs) (Qy9 N T E xs) Qtq (fun h2 h3 h0 h1 W g=>bnd h2 h3 h0 h1 fun h3 _ _ _ _ _ _ _ _=>Q0v N T E xs _ W (hv.old g) h3) (fun h2 h3 h0 h1 W lo hi g lo' hi' g' k k'=>bnd h2 h3 h0 h1 fun h3 _ _ _ _ _ _ _ _=>Q0w N T E xs W lo hi g lo' hi' g' k k' (by omega))
  (1+xs.length) (by omega) (fun h2 h3 h0 h1 W lo hi g k=>bnd h2 h3 h0 h1 fun h3 _ _ _ _ _ _ _ _=>Qxa N T E xs 1 W lo hi g k h3 (by omega) (by omega))
  (XI ss) (Qvl ss) Qon (fun h2 h3 h0 h1 W g=>bnd h2 h3 h0 h1 fun _ _ _ _ _ _ _ h5 _=>Qza ss _ W (ht.old g) h5) (fun h2 h3 h0 h1 W lo hi g lo' hi' g' k k'=>bnd h2 h3 h0 h1 fun _ _ _ _ _ _ _ h5 _=>Qzb ss W lo hi g lo' hi' g' k k' (by omega))
  (1+xs.length+ss.length) (by omega) (fun h2 h3 h0 h1 W lo hi g k=>bnd h2 h3 h0 h1 fun q1 _ _ _ _ _ _ h6 _=>Qrc ss (1+xs.length) W lo hi g k h6 (by omega) (by omega))
  (XPr xss yss) (Qxi xss yss) Qri (fun h2 h3 h0 h1 W g=>bnd h2 h3 h0 h1 fun _ e1 e2 e3 e4 _ _ _ _=>Qzf xss yss _ _ W (hu.old g) (hu'.old g) e1 e2 e3 e4) (fun h2 h3 h0 h1 W lo hi g lo' hi' g' k k'=>bnd h2 h3 h0 h1 fun _ e1 e2 e3 e4 _ _ _ _=>Qzg xss yss W lo hi g lo' hi' g' k k' e1 e2 e3 e4)
  (1+xs.length+ss.length+Qcr xss xss.length+Qcr yss yss.length) (by omega) (fun h2 h3 h0 h1 W lo hi g k=>bnd h2 h3 h0 h1 fun q1 e1 e2 e3 e4 e5 e6 q7 q8=>(Qtv xss yss (1+xs.length+ss.length) W lo hi g k e1 e2 e3 e4 (by omega) (by omega)).mono (fun e w' h=>⟨h.1,h.2.1⟩))
  (XI ws) (Qvl ws) Qon (fun h2 h3 h0 h1 W g=>bnd h2 h3 h0 h1 fun _ _ _ _ _ _ _ _ h5=>Qza ws _ W (hz.old g) h5) (fun h2 h3 h0 h1 W lo hi g lo' hi' g' k k'=>bnd h2 h3 h0 h1 fun _ _ _ _ _ _ _ _ h5=>Qzb ws W lo hi g lo' hi' g' k k' (by omega))
  (1+xs.length+ss.length+Qcr xss xss.length+Qcr yss yss.length+ws.length) (by omega) (fun h2 h3 h0 h1 W lo hi g k=>bnd h2 h3 h0 h1 fun q1 _ _ _ _ q6 q7 q8 h6=>Qrc ws (1+xs.length+ss.length+Qcr xss xss.length+Qcr yss yss.length) W lo hi g k h6 (by omega) (by omega))
  (XW false (toI Z)) (Qvd _ _) Qoa (XW false (toI Z)) (Qvd _ _) Qoa (Qz6 false (toI Z).length) (Quz _ _) Qqf
  (fun h2 h3 h0 h1 W lo hi g lo1 hi1 g1 lo2 hi2 g2 lo3 hi3 g3 k k1 k2 k3 q=>bnd h2 h3 h0 h1 fun _ h3 h4 h5 h6 _ _ _ _=>?_) (fun h2 h3 h0 h1 W lo hi g lo1 hi1 g1 lo2 hi2 g2 lo3 hi3 g3 k k1 k2 k3 q=>bnd h2 h3 h0 h1 fun _ h3 h4 h5 h6 _ _ _ _=>?_)
  (fun h2 h3 h0 h1 W lo hi p lo' hi' p' k k'=>Q0i false (toI Z) W lo hi p lo' hi' p' k k' (by omega))
  (1+(toI Z).length) (by omega) (fun h2 h3 h0 h1 W lo hi p k=>Qu0 false (toI Z) W lo hi p k (by omega))
  (fun h2 h3 h0 h1 W lo hi p k=>Qu1 false (toI Z).length W lo hi p k (by omega))
 ·obtain ⟨a,c,rfl,o,f⟩:=k;obtain ⟨a'',c'',rfl,o'',f''⟩:=k1;obtain ⟨a',c',d',e',rfl,o',p'⟩:=k2.rows;obtain ⟨aq,cq,rfl,oq,fq⟩:=k3;exact (Qgh N T E xs xss yss ss ws _ _ _ _ _ _ _ W o.row f o' p' h3 h4 h5 h6 o''.row hts oq.row hzs hl hx Z ok hy hn).mono fun e w' h=>WbN.res h
 ·obtain ⟨a,c,rfl,o,f⟩:=k;obtain ⟨a'',c'',rfl,o'',f''⟩:=k1;obtain ⟨aX,cX,aY,cY,BB,rfl,hb1,hb2,oX,oY⟩:=k2;obtain ⟨aq,cq,rfl,oq,fq⟩:=k3;obtain ⟨ux,cx,hX⟩:=oX.ats xs;obtain ⟨uy,cy,hY⟩:=oY.ats xs;exact (Qgg N T E xs xss yss ss ws _ _ _ _ _ _ _ ux uy cx cy W (hP.old q) (hT.old q) o.row f h3 h4 hX h5 h6 hY o''.row hts oq.row hzs hl Z ok hy hn).mono fun e w' h=>WbN.res h
end Go.Proofs.YtejhpljichmmpaaGreatDoor
