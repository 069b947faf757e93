/- Proved: what its theorems say. -/
import Derived.Conc.LoneCalls
import Derived.Test.YthcidnnkakppcaaGreatDoorLawDecrypt
import Derived.Test.YthcidnnkakppcaaGreatDoorDe40
set_option linter.unusedVariables false
set_option linter.unusedSimpArgs false
namespace Go.Proofs.YthcidnnkakppcaaGreatDoor
open Go.ChangeShapes Go.WideShapes Go.ChangeAt Go.RowKit
def sb (x:Nat):Nat->Nat
 | 0=>0
 | k+1=>sb x k+x/2^k%2
theorem Qpa (N T E:Int) (xs:List Int) (ss:List Int) (xsss:List (List (List Int))) (v t u:Value) (w:World) (hv:Row w v xs) (hl:xs.length≤9223372036854775807) (hx:∀x∈xs,-9223372036854775808≤x∧x≤9223372036854775807) (ht:Row w t ss) (hts:ss.length≤9223372036854775807) (hu:Qmd w u xsss) (hs:xsss.length≤9223372036854775807) (hsr:∀r∈xsss,r.length≤9223372036854775807∧∀q∈r,q.length≤9223372036854775807) (hP:Qe0 w) (hT:Qbb w) :
  Calls Tryz.prog 3 #[.agg #[.int .i64 N,.int .i64 T,.int .i64 E,v],t,.agg #[u]] w fun e w'=>e=.returned (.bool true)/\Old w w':=by
 obtain ⟨a0,c0,rfl⟩:=hv.slice;obtain ⟨a1,c1,eu⟩:=hu.slice;obtain ⟨a2,c2,et⟩:=ht.slice;subst eu et
 have bnd:∀{A:Prop},¬(1048576:Int)<(ss.length:Int)->¬Qdk 1048576 xs.length<0->¬Qcg (Qdk 1048576 xs.length) xsss<0->(xs.length<=1048576->xsss.length<=1048576->(∀r∈xsss,r.length<=1048576/\∀q∈r,q.length<=1048576)->Qdr xsss xsss.length<=1048576->ss.length<=1048576->A)->A:=fun h2 h0 h1 k=>by
  obtain ⟨q1,q2,q3⟩:=Qfk h0 (by omega);obtain ⟨p1,p2,p3,p4,p5⟩:=Qtf q3 h1
  exact k (by omega) (by omega) (fun r hr=>by
   have:=p5 r hr;exact ⟨by omega,fun q hq=>by have:=this.2 q hq;omega⟩) (by omega) (by omega)
 obtain ⟨Z,ok,hy,hn,hz⟩:∃(Z:List Int) (ok:Bool),((prB N T E xs&&ciB N xs xsss&&wiB N 1 ss)=true->Z=Qy7 N.toNat T xs (Qie N.toNat xs xsss (smS xs ss))/\ok=true)/\((prB N T E xs&&ciB N xs xsss&&wiB N 1 ss)=false->Z=[]/\ok=false)/\Z.length<=16:=by
  cases h:(prB N T E xs&&ciB N xs xsss&&wiB N 1 ss)
  ·exact ⟨[],false,(fun h=>by cases h),(fun _=>⟨rfl,rfl⟩),by simp⟩
  ·rw [Bool.and_eq_true,Bool.and_eq_true] at h;obtain ⟨⟨h1,h2⟩,h3⟩:=h;obtain ⟨hz4,hbb,_⟩:=Qdm (Quh h1);exact ⟨Qy7 N.toNat T xs (Qie N.toNat xs xsss (smS xs ss)),true,(fun _=>⟨rfl,rfl⟩),(fun h=>by cases h),by rw [Qlk];omega⟩
 refine Qly w N T E xs.length a0 c0 ss.length a2 c2 xsss.length a1 c1 Z.length ok (Qdk 1048576 xs.length) (Qcg (Qdk 1048576 xs.length) xsss)
  (fun _ W g=>Q37 N T E a0 xs.length c0 1048576 W hl (by omega) (by omega))
  (fun _ h0 W g=>by
   obtain ⟨q1,q2,q3⟩:=Qfk h0 (by omega);exact Q4d xsss _ _ W (hu.old g) hs hsr q3 (by omega))
  (XP N T E xs) (Q2i N T E xs) Qwe (fun h2 h0 h1 W g=>bnd h2 h0 h1 fun h3 _ _ _ _=>Q38 N T E xs _ W (hv.old g) h3) (fun h2 h0 h1 W lo hi g lo' hi' g' k k'=>bnd h2 h0 h1 fun h3 _ _ _ _=>Q39 N T E xs W lo hi g lo' hi' g' k k' (by omega))
  (1+xs.length) (by omega) (fun h2 h0 h1 W lo hi g k=>bnd h2 h0 h1 fun h3 _ _ _ _=>Qz5 N T E xs 1 W lo hi g k h3 (by omega) (by omega))
  (XI ss) (Q2j ss) Qwf (fun h2 h0 h1 W g=>bnd h2 h0 h1 fun _ _ _ _ h5=>Q4a ss _ W (ht.old g) h5) (fun h2 h0 h1 W lo hi g lo' hi' g' k k'=>bnd h2 h0 h1 fun _ _ _ _ h5=>Q4b ss W lo hi g lo' hi' g' k k' (by omega))
  (1+xs.length+ss.length) (by omega) (fun h2 h0 h1 W lo hi g k=>bnd h2 h0 h1 fun h2 h3 h4 h5 h6=>Qz6 ss (1+xs.length) W lo hi g k h6 (by omega) (by omega))
  (XC xsss) (Q2o xsss) Qwm (fun h2 h0 h1 W g=>bnd h2 h0 h1 fun _ h3 h4 _ _=>Q4e xsss _ W (hu.old g) h3 h4) (fun h2 h0 h1 W lo hi g lo' hi' g' k k'=>bnd h2 h0 h1 fun _ h3 h4 _ _=>Q4f xsss W lo hi g lo' hi' g' k k' h3 h4)
  (1+xs.length+ss.length+Qdr xsss xsss.length) (by omega) (fun h2 h0 h1 W lo hi g k=>bnd h2 h0 h1 fun h2 h3 h4 h5 h6=>(Q0g xsss (1+xs.length+ss.length) W lo hi g k h3 h4 (by omega) (by omega)).mono (fun e w' h=>⟨h.1,h.2.1⟩))
  (YI Z) (Qye _) Qp4 (YI Z) (Qye _) Qp4 (YM 1 Z.length) (Q2l _ _) Qwg
  (fun h2 h0 h1 W lo hi g lo1 hi1 g1 lo2 hi2 g2 k k1 k2 q=>bnd h2 h0 h1 fun _ h3 h4 _ _=>?_) (fun h2 h0 h1 W lo hi g lo1 hi1 g1 lo2 hi2 g2 k k1 k2 q=>bnd h2 h0 h1 fun _ h3 h4 _ _=>?_)
  (fun h2 h0 h1 W lo hi p lo' hi' p' k k'=>Q4c _ W lo hi p lo' hi' p' k k' (by omega))
  (1+Z.length) (by omega) (fun h2 h0 h1 W lo hi p k=>Qz7 _ 1 W lo hi p k (by omega) (by omega) (by omega))
  (fun h2 h0 h1 W lo hi p k=>Qz8 _ 1 W lo hi p k (by omega) (by omega) (by omega))
 ·obtain ⟨a,c,rfl,o,f⟩:=k;obtain ⟨a'',c'',rfl,o'',f''⟩:=k1;obtain ⟨a',c',rfl,o'⟩:=k2;exact (Qno N T E xs xsss ss _ _ _ W lo2 hi2 o.row f o' o''.row hts hl hx h3 h4 Z ok hy hn).mono fun e w' ⟨v',h1,h2,h3⟩=>⟨v',h1,h2,Q2k h3⟩
 ·obtain ⟨a,c,rfl,o,f⟩:=k;obtain ⟨a'',c'',rfl,o'',f''⟩:=k1;obtain ⟨a',c',rfl,o'⟩:=k2;exact (Qnn N T E xs xsss ss _ _ _ W lo2 hi2 (hP.old q) (hT.old q) o.row f o' o''.row hts hl h3 h4 Z ok hy hn).mono fun e w' ⟨v',h1,h2,h3⟩=>⟨v',h1,h2,Q2k h3⟩
end Go.Proofs.YthcidnnkakppcaaGreatDoor
