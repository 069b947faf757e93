/- Proved: several texts in one: what each proves is said ahead of it. -/
import Derived.Test.YtpoogglplaeooaaDoorTa11
import Derived.Test.YtpoogglplaeooaaDoorSam
import Derived.Test.YtpoogglplaeooaaDoorTa13
import Derived.Test.YtpoogglplaeooaaDoorTa04
import Derived.Test.YtpoogglplaeooaaDoorTa22
import Derived.Test.YtpoogglplaeooaaDoorTa25
import Derived.Test.YtpoogglplaeooaaDoorTa16
/- Proved: the walk of the statement on transforms: a polynomial comes back, and products go one by one, for drawn rings. -/
namespace Go.Proofs.YtpoogglplaeooaaDoor
open Go.ChangeShapes Go.WideShapes Go.ChangeAt Go.RowKit
set_option linter.unusedVariables false
set_option linter.unusedSimpArgs false
open M1
/-- what a function with a list and a bool leaves -/
def Lb (w : World) (zs : List Int) (ok : Bool) (e : Ending) (w' : World) : Prop := ∃ v', e = .returned (.tuple #[v', .bool ok]) ∧ Old w w' ∧ Own w' w.heap.size v' zs
/-- all that the law asks of the functions at a ring and two lists: they say no, or the transform's laws hold -/
def TrK (w : World) (p n r : Int) (xs ys : List Int) : Prop := ∃ (ok : Bool) (zs fs gs hs : List Int), zs.length ≤ 16
  ∧ (∀ W v u, Old w W → Row W v xs → Row W u ys → Calls Tryd.prog 6 #[.agg #[.int .i64 p, .int .i64 n, .int .i64 r], v, u] W (Lb W zs ok))
  ∧ (∀ W v u, Old w W → Row W v xs → Row W u ys → Calls Tryd.prog 7 #[.agg #[.int .i64 p, .int .i64 n, .int .i64 r], v, u] W (Lb W zs ok))
  ∧ (ok = true →
    (∀ W v, Old w W → Row W v xs → Calls Tryd.prog 9 #[.agg #[.int .i64 p, .int .i64 n, .int .i64 r], v] W (Lb W fs true))
    ∧ (∀ W v, Old w W → Row W v ys → Calls Tryd.prog 9 #[.agg #[.int .i64 p, .int .i64 n, .int .i64 r], v] W (Lb W gs true))
    ∧ (∀ W v u, Old w W → Row W v fs → Row W u gs → Calls Tryd.prog 10 #[.agg #[.int .i64 p, .int .i64 n, .int .i64 r], v, u] W (Lb W hs true))
    ∧ (∀ W v, Old w W → Row W v hs → Calls Tryd.prog 11 #[.agg #[.int .i64 p, .int .i64 n, .int .i64 r], v] W (Lb W zs true))
    ∧ (∀ W v, Old w W → Row W v fs → Calls Tryd.prog 11 #[.agg #[.int .i64 p, .int .i64 n, .int .i64 r], v] W (Lb W xs true)))
theorem trK_any (w : World) (p n r : Int) (xs ys : List Int) (hlv : xs.length ≤ 17) (hlu : ys.length ≤ 17) (hp : 2 ≤ p ∧ p ≤ 268435456) (hP : PrsW w) (hT : TabW w) : TrK w p n r xs ys := by
  obtain ⟨g, hg, ci, cs⟩ := ring_any p n r (by omega)
  have hgp : g = true → (2 ≤ p ∧ p ≤ 268435456) ∧ (2 ≤ n ∧ n ≤ 16) := fun e => by
    obtain ⟨P, N, R, h⟩ := hg e
    exact h.bounds
  cases hok : (g && polyB p n xs && polyB p n ys)
  · exact ⟨false, [], [], [], [], by simp,
      (fun W v u q h1 h2 => impl_MulRing_of p n r xs ys g false [] hgp (by omega) (by omega) hok (fun _ => rfl) ci (fun e => by cases e) v u W (hP.old q) (hT.old q) h1 h2),
      (fun W v u q h1 h2 => spec_MulRing_of p n r xs ys g false [] hgp (by omega) (by omega) hok (fun _ => rfl) cs (fun e => by cases e) v u W h1 h2), (fun e => by cases e)⟩
  · have hk : g = true ∧ polyB p n xs = true ∧ polyB p n ys = true := by simpa [and_assoc] using hok
    obtain ⟨P, N, R, h⟩ := hg hk.1
    have hb := h.bounds
    have hok2 := h.ok
    have hrt := h.rt (ring_pr hok2)
    obtain ⟨rfl, rfl, rfl, hr, hlt, _⟩ := h
    obtain ⟨as1, rfl, la, ha⟩ := polyB_yes hk.2.1
    obtain ⟨bs1, rfl, lb, hbb⟩ := polyB_yes hk.2.2
    have hN : 2 ≤ N ∧ N ≤ 16 := by omega
    have hPp : 2 ≤ P ∧ P ≤ 268435456 := by omega
    have hS : Sz4 N := by
      have := hok2.sz
      omega
    have hodd : P % 2 = 1 := by
      have h1 := hok2.dv
      have h2 := hok2.sz
      rcases h2 with e | e | e | e <;> rw [e] at h1 <;> omega
    obtain ⟨r1, r2⟩ := hrt.cg hPp.1
    have hgt : g = true := hk.1
    subst hgt
    have pol : ∀ zs : List Nat, zs.length = N → (∀ z ∈ zs, z < P) → polyB P N (toZ zs) = true := fun zs h1 h2 => by
      unfold polyB
      rw [Bool.and_eq_true]
      refine ⟨decide_eq_true (by rw [toZ_len, h1]), List.all_eq_true.2 fun x hx => ?_⟩
      rw [toZ, List.mem_map] at hx
      obtain ⟨y, hy, rfl⟩ := hx
      have := h2 y hy
      unfold resB
      exact decide_eq_true (by omega)
    have fl : ∀ zs : List Nat, (fwdS P N R zs).length = N := fun zs => fwdS_len P N R zs
    have fb : ∀ zs : List Nat, ∀ z ∈ fwdS P N R zs, z < P := fun zs => fwdS_lt P N R zs (by omega)
    have KF : ∀ as1 : List Nat, as1.length = N → (∀ z ∈ as1, z < P) → ∀ W v, Old w W → Row W v (toZ as1) → Calls Tryd.prog 9 #[.agg #[.int .i64 P, .int .i64 N, .int .i64 R], v] W (Lb W (toZ (fwdS P N R as1)) true) := fun as1 la ha W v q h1 =>
      impl_Forward_of _ _ _ _ true true _ hgp (by rw [toZ_len]; omega) (by rw [pol as1 la ha]; rfl) (fun e => by cases e) ci (fun _ v W hT' h1 => by
        have := impl_forward P N R as1 v W hT' h1 hPp hS hlt la ha
        rw [fwd_same P N R as1 hS la (by omega) ha r1 r2] at this
        exact this) v W (hP.old q) (hT.old q) h1
    have KI : ∀ as1 : List Nat, as1.length = N → (∀ z ∈ as1, z < P) → ∀ W v, Old w W → Row W v (toZ as1) → Calls Tryd.prog 11 #[.agg #[.int .i64 P, .int .i64 N, .int .i64 R], v] W (Lb W (toZ (invL P N R as1)) true) := fun as1 la ha W v q h1 =>
      impl_Inverse_of _ _ _ _ true true _ hgp (by rw [toZ_len]; omega) (by rw [pol as1 la ha]; rfl) (fun e => by cases e) ci (fun _ v W hT' h1 => by
        have := impl_inverse0 P N R as1 v W hT' h1 hPp hS hlt la ha
        rw [inv_same P N R as1 hS la hPp.1 ha r1 r2] at this
        exact this) v W (hP.old q) (hT.old q) h1
    refine ⟨true, toZ (muO P N as1 bs1 N), toZ (fwdS P N R as1), toZ (fwdS P N R bs1), toZ (eachN P N (fwdS P N R as1) (fwdS P N R bs1)), by rw [toZ_len, muO_len]; omega,
      (fun W v u q h1 h2 => impl_MulRing_of _ _ _ _ _ true true _ hgp (by rw [toZ_len]; omega) (by rw [toZ_len]; omega) hok (fun e => by cases e) ci (fun _ v u W hT' h1 h2 => impl_product P N R as1 bs1 v u W hT' h1 h2 hPp hodd hS hlt la lb ha hbb r1 r2) v u W (hP.old q) (hT.old q) h1 h2),
      (fun W v u q h1 h2 => spec_MulRing_of _ _ _ _ _ true true _ hgp (by rw [toZ_len]; omega) (by rw [toZ_len]; omega) hok (fun e => by cases e) cs (fun _ v u W h1 h2 => spec_l3Mul P N R as1 bs1 v u W h1 h2 hPp hN la lb ha hbb) v u W h1 h2),
      fun _ => ⟨KF as1 la ha, KF bs1 lb hbb, fun W v u q h1 h2 => ?_, fun W v q h1 => ?_, fun W v q h1 => ?_⟩⟩
    · exact impl_MulEach_of _ _ _ _ _ true true _ hgp (by rw [toZ_len, fl]; omega) (by rw [toZ_len, fl]; omega) (by rw [pol _ (fl as1) (fb as1), pol _ (fl bs1) (fb bs1)]; rfl) (fun e => by cases e) ci (fun _ v u W _ h1 h2 => impl_products P N R _ _ v u W h1 h2 hPp hN (fl as1) (fl bs1) (fb as1) (fb bs1)) v u W (hP.old q) (hT.old q) h1 h2
    · have := KI _ (eachN_len P N (fwdS P N R as1) (fwdS P N R bs1)) (eachN_lt P N _ _ (by omega)) W v q h1
      rw [mul_same P N R as1 bs1 hS hPp.1 hodd r1 r2] at this
      exact this
    · have := KI _ (fl as1) (fb as1) W v q h1
      rw [inv_fwd P N R as1 hS la hPp.1 hodd ha r1 r2] at this
      exact this
end Go.Proofs.YtpoogglplaeooaaDoor
/- Proved: the walk of the statement on transforms, in a world in which the tables are laid. -/
namespace Go.Proofs.YtpoogglplaeooaaDoor
open Go.ChangeShapes Go.WideShapes Go.ChangeAt Go.RowKit
set_option linter.unusedVariables false
set_option linter.unusedSimpArgs false
theorem Hid.mk' {p : Prop} (h : p) : Hid p := h
set_option maxRecDepth 100000 in
set_option maxHeartbeats 8000000 in
theorem law_Transforms (w : World) (code : Value) (len : Nat) (h : BysW w code len) (hl : len ≤ 9223372036854775807) (hP : PrsW w) (hT : TabW w) :
    Calls Tryd.prog 3 #[code] w fun e w' => e = .returned (.bool true) ∧ Old w w' := by
  have KD : Hid (Calls Tryd.prog 5 #[code] w (Dm w)) := drawMulRing_c w code len h hl
  obtain ⟨ca, ccap, hcode⟩ : ∃ ca ccap, code = .slice ca len ccap := by
    rcases h with ⟨a, cap, e, e2⟩ | ⟨b, o, cap, e, _⟩
    · exact ⟨a, cap, by rw [e, e2]⟩
    · exact ⟨_, cap, e⟩
  subst hcode
  have HTK : Hid (∀ (p n r : Int) (xs ys : List Int), xs.length ≤ 17 → ys.length ≤ 17 → (2 ≤ p ∧ p ≤ 268435456) → TrK w p n r xs ys) := fun p n r xs ys h1 h2 h3 => trK_any w p n r xs ys h1 h2 h3 hP hT
  clear h hP hT
  by_cases hbig : (1048576 : Int) < (len : Int)
  · have dL : decide ((1048576 : Int) < (len : Int)) = true := decide_eq_true hbig
    go_enter Tryd.func3, Tryd.ntmps3
    go_wp2_with fail
    go_ret
    exact ⟨rfl, Old.refl _⟩
  have dL : decide ((1048576 : Int) < (len : Int)) = false := decide_eq_false hbig
  go_enter Tryd.func3, Tryd.ntmps3
  go_wp2_with fail
  refine KD.out.mono ?_
  rintro e w1 ⟨p, n, r, ax, cx, xs, ay, cy, ys, rfl, hp, lx, ly, g1, r1, r2⟩
  obtain ⟨ok, zs, fs, gs, hs, lz, km, ks, kall⟩ := HTK.out p n r xs ys lx ly hp
  have HG1 : Hid (Old w (w1.alloc (.cells #[.int .i64 p, .int .i64 n, .int .i64 r] 24))) := g1.alloc _
  have HR1 : Hid (Bk (w1.alloc (.cells #[.int .i64 p, .int .i64 n, .int .i64 r] 24)) w1.heap.size #[.int .i64 p, .int .i64 n, .int .i64 r] 24) := Bk.new' w1 _ _ rfl
  have RX1 : Hid (Row (w1.alloc (.cells #[.int .i64 p, .int .i64 n, .int .i64 r] 24)) (.slice ax xs.length cx) xs) := r1.old ((Old.refl w1).alloc _)
  have RY1 : Hid (Row (w1.alloc (.cells #[.int .i64 p, .int .i64 n, .int .i64 r] 24)) (.slice ay ys.length cy) ys) := r2.old ((Old.refl w1).alloc _)
  have KM := km _ _ _ HG1.out RX1.out RY1.out
  have KS : Hid (∀ W v u, Old w W → Row W v xs → Row W u ys → Calls Tryd.prog 7 #[.agg #[.int .i64 p, .int .i64 n, .int .i64 r], v, u] W (Lb W zs ok)) := ks
  have KA : Hid (ok = true → _) := kall
  clear g1 r1 r2 km ks kall hp KD HTK
  have x0_1 := HR1.out.c (i := 0) rfl
  have x1_1 := HR1.out.c (i := 1) rfl
  have x2_1 := HR1.out.c (i := 2) rfl
  go_wp2_with fail
  refine KM.mono ?_
  rintro e w2 ⟨v2, rfl, g2, o2⟩
  obtain ⟨a2, c2, rfl⟩ := (Own.row o2).slice
  have HG2 : Hid (Old w w2) := Old.trans HG1.out g2
  have HR2 : Hid (Bk w2 w1.heap.size #[.int .i64 p, .int .i64 n, .int .i64 r] 24) := HR1.out.old g2
  have RX2 := Hid.mk' (RX1.out.old g2)
  have RY2 := Hid.mk' (RY1.out.old g2)
  have RZ2 := Hid.mk' (Own.row o2)
  have x0_2 := HR2.out.c (i := 0) rfl
  have x1_2 := HR2.out.c (i := 1) rfl
  have x2_2 := HR2.out.c (i := 2) rfl
  clear g2 o2 HG1 HR1 RX1 RY1
  go_wp2_with fail
  refine (KS.out _ _ _ HG2.out RX2.out RY2.out).mono ?_
  rintro e w3 ⟨v3, rfl, g3, o3⟩
  obtain ⟨a3, c3, rfl⟩ := (Own.row o3).slice
  have HG3 : Hid (Old w w3) := Old.trans HG2.out g3
  have HR3 : Hid (Bk w3 w1.heap.size #[.int .i64 p, .int .i64 n, .int .i64 r] 24) := HR2.out.old g3
  have RX3 := Hid.mk' (RX2.out.old g3)
  have RY3 := Hid.mk' (RY2.out.old g3)
  have RZ3 := Hid.mk' (RZ2.out.old g3)
  have RS3 := Hid.mk' (Own.row o3)
  have x0_3 := HR3.out.c (i := 0) rfl
  have x1_3 := HR3.out.c (i := 1) rfl
  have x2_3 := HR3.out.c (i := 2) rfl
  clear g3 o3 HG2 HR2 RX2 RY2 RZ2
  have c4 := same_yes zs _ _ w3 RZ3.out RS3.out (by omega)
  cases ok
  · go_wp2_with fail
    refine c4.mono ?_
    rintro e w4 ⟨rfl, g4⟩
    have HG4 : Hid (Old w w4) := Old.trans HG3.out g4
    clear g4 c4
    go_wp2_with fail
    go_ret
    exact ⟨rfl, HG4.out⟩
  · obtain ⟨kf, kg, ke, ki, kj⟩ := KA.out rfl
    have KF : Hid (∀ W v, Old w W → Row W v xs → Calls Tryd.prog 9 #[.agg #[.int .i64 p, .int .i64 n, .int .i64 r], v] W (Lb W fs true)) := kf
    have KG : Hid (∀ W v, Old w W → Row W v ys → Calls Tryd.prog 9 #[.agg #[.int .i64 p, .int .i64 n, .int .i64 r], v] W (Lb W gs true)) := kg
    have KE : Hid (∀ W v u, Old w W → Row W v fs → Row W u gs → Calls Tryd.prog 10 #[.agg #[.int .i64 p, .int .i64 n, .int .i64 r], v, u] W (Lb W hs true)) := ke
    have KI : Hid (∀ W v, Old w W → Row W v hs → Calls Tryd.prog 11 #[.agg #[.int .i64 p, .int .i64 n, .int .i64 r], v] W (Lb W zs true)) := ki
    have KJ : Hid (∀ W v, Old w W → Row W v fs → Calls Tryd.prog 11 #[.agg #[.int .i64 p, .int .i64 n, .int .i64 r], v] W (Lb W xs true)) := kj
    clear kf kg ke ki kj KA
    go_wp2_with fail
    refine c4.mono ?_
    rintro e w4 ⟨rfl, g4⟩
    have HG4 : Hid (Old w w4) := Old.trans HG3.out g4
    have HR4 : Hid (Bk w4 w1.heap.size #[.int .i64 p, .int .i64 n, .int .i64 r] 24) := HR3.out.old g4
    have RX4 := Hid.mk' (RX3.out.old g4)
    have RY4 := Hid.mk' (RY3.out.old g4)
    have RZ4 := Hid.mk' (RZ3.out.old g4)
    have x0_4 := HR4.out.c (i := 0) rfl
    have x1_4 := HR4.out.c (i := 1) rfl
    have x2_4 := HR4.out.c (i := 2) rfl
    clear g4 c4 HG3 HR3 RX3 RY3 RZ3 RS3
    go_wp2_with fail
    refine (KF.out _ _ HG4.out RX4.out).mono ?_
    rintro e w5 ⟨v5, rfl, g5, o5⟩
    obtain ⟨a5, c5, rfl⟩ := (Own.row o5).slice
    have HG5 : Hid (Old w w5) := Old.trans HG4.out g5
    have HR5 : Hid (Bk w5 w1.heap.size #[.int .i64 p, .int .i64 n, .int .i64 r] 24) := HR4.out.old g5
    have RX5 := Hid.mk' (RX4.out.old g5)
    have RY5 := Hid.mk' (RY4.out.old g5)
    have RZ5 := Hid.mk' (RZ4.out.old g5)
    have RF5 := Hid.mk' (Own.row o5)
    have x0_5 := HR5.out.c (i := 0) rfl
    have x1_5 := HR5.out.c (i := 1) rfl
    have x2_5 := HR5.out.c (i := 2) rfl
    clear g5 o5 HG4 HR4 RX4 RY4 RZ4
    go_wp2_with fail
    refine (KG.out _ _ HG5.out RY5.out).mono ?_
    rintro e w6 ⟨v6, rfl, g6, o6⟩
    obtain ⟨a6, c6, rfl⟩ := (Own.row o6).slice
    have HG6 : Hid (Old w w6) := Old.trans HG5.out g6
    have HR6 : Hid (Bk w6 w1.heap.size #[.int .i64 p, .int .i64 n, .int .i64 r] 24) := HR5.out.old g6
    have RX6 := Hid.mk' (RX5.out.old g6)
    have RY6 := Hid.mk' (RY5.out.old g6)
    have RZ6 := Hid.mk' (RZ5.out.old g6)
    have RF6 := Hid.mk' (RF5.out.old g6)
    have RGg6 := Hid.mk' (Own.row o6)
    have x0_6 := HR6.out.c (i := 0) rfl
    have x1_6 := HR6.out.c (i := 1) rfl
    have x2_6 := HR6.out.c (i := 2) rfl
    clear g6 o6 HG5 HR5 RX5 RY5 RZ5 RF5
    go_wp2_with fail
    refine (KE.out _ _ _ HG6.out RF6.out RGg6.out).mono ?_
    rintro e w7 ⟨v7, rfl, g7, o7⟩
    obtain ⟨a7, c7, rfl⟩ := (Own.row o7).slice
    have HG7 : Hid (Old w w7) := Old.trans HG6.out g7
    have HR7 : Hid (Bk w7 w1.heap.size #[.int .i64 p, .int .i64 n, .int .i64 r] 24) := HR6.out.old g7
    have RX7 := Hid.mk' (RX6.out.old g7)
    have RY7 := Hid.mk' (RY6.out.old g7)
    have RZ7 := Hid.mk' (RZ6.out.old g7)
    have RF7 := Hid.mk' (RF6.out.old g7)
    have RGg7 := Hid.mk' (RGg6.out.old g7)
    have RH7 := Hid.mk' (Own.row o7)
    have x0_7 := HR7.out.c (i := 0) rfl
    have x1_7 := HR7.out.c (i := 1) rfl
    have x2_7 := HR7.out.c (i := 2) rfl
    clear g7 o7 HG6 HR6 RX6 RY6 RZ6 RF6 RGg6
    go_wp2_with fail
    refine (KI.out _ _ HG7.out RH7.out).mono ?_
    rintro e w8 ⟨v8, rfl, g8, o8⟩
    obtain ⟨a8, c8, rfl⟩ := (Own.row o8).slice
    have HG8 : Hid (Old w w8) := Old.trans HG7.out g8
    have HR8 : Hid (Bk w8 w1.heap.size #[.int .i64 p, .int .i64 n, .int .i64 r] 24) := HR7.out.old g8
    have RX8 := Hid.mk' (RX7.out.old g8)
    have RY8 := Hid.mk' (RY7.out.old g8)
    have RZ8 := Hid.mk' (RZ7.out.old g8)
    have RF8 := Hid.mk' (RF7.out.old g8)
    have RGg8 := Hid.mk' (RGg7.out.old g8)
    have RH8 := Hid.mk' (RH7.out.old g8)
    have RD8 := Hid.mk' (Own.row o8)
    have x0_8 := HR8.out.c (i := 0) rfl
    have x1_8 := HR8.out.c (i := 1) rfl
    have x2_8 := HR8.out.c (i := 2) rfl
    clear g8 o8 HG7 HR7 RX7 RY7 RZ7 RF7 RGg7 RH7
    go_wp2_with fail
    refine (KJ.out _ _ HG8.out RF8.out).mono ?_
    rintro e w9 ⟨v9, rfl, g9, o9⟩
    obtain ⟨a9, c9, rfl⟩ := (Own.row o9).slice
    have HG9 : Hid (Old w w9) := Old.trans HG8.out g9
    have HR9 : Hid (Bk w9 w1.heap.size #[.int .i64 p, .int .i64 n, .int .i64 r] 24) := HR8.out.old g9
    have RX9 := Hid.mk' (RX8.out.old g9)
    have RY9 := Hid.mk' (RY8.out.old g9)
    have RZ9 := Hid.mk' (RZ8.out.old g9)
    have RF9 := Hid.mk' (RF8.out.old g9)
    have RGg9 := Hid.mk' (RGg8.out.old g9)
    have RH9 := Hid.mk' (RH8.out.old g9)
    have RD9 := Hid.mk' (RD8.out.old g9)
    have RB9 := Hid.mk' (Own.row o9)
    have x0_9 := HR9.out.c (i := 0) rfl
    have x1_9 := HR9.out.c (i := 1) rfl
    have x2_9 := HR9.out.c (i := 2) rfl
    clear g9 o9 HG8 HR8 RX8 RY8 RZ8 RF8 RGg8 RH8 RD8
    have c10 := same_yes zs _ _ w9 RD9.out RZ9.out (by omega)
    go_wp2_with fail
    refine c10.mono ?_
    rintro e w10 ⟨rfl, g10⟩
    have HG10 : Hid (Old w w10) := Old.trans HG9.out g10
    have c11 := same_yes xs _ _ w10 (RB9.out.old g10) (RX9.out.old g10) (by omega)
    clear g10 c10
    go_wp2_with fail
    refine c11.mono ?_
    rintro e w11 ⟨rfl, g11⟩
    have HG11 : Hid (Old w w11) := Old.trans HG10.out g11
    clear g11 c11
    go_wp2_with fail
    go_ret
    exact ⟨rfl, HG11.out⟩
end Go.Proofs.YtpoogglplaeooaaDoor
