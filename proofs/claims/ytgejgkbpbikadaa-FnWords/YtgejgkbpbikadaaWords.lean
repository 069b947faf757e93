/- Proved: the walk of the statement on words: products by the three ways and inverses, out of the contracts of chapter 1, for whatever is drawn. -/
import Derived.Test.YtgejgkbpbikadaaRows
import Derived.WalkKit
import Derived.ProofKit
import Derived.OpenShut
import Derived.Handy
import Derived.Deep.QuietTactic
import Derived.BigQuiet
import Derived.Test.YtgejgkbpbikadaaDraw
namespace Go.Proofs.Ytgejgkbpbikadaa
open Go.ChangeShapes Go.WideShapes Go.ChangeAt Go.RowKit
open M1
set_option linter.unusedVariables false
theorem ret_bool {a b : Bool} (h : a = b) : Ending.returned (.bool a) = .returned (.bool b) := by rw [h]
theorem invM_yes (a m : Nat) (h : invM a m ≠ 0) : a * invM a m % m = 1 := by
  unfold invM at h ⊢
  cases hf : (List.range m).find? (fun i => a * i % m == 1) with
  | none => rw [hf] at h; exact absurd rfl h
  | some j =>
    have h1 := List.find?_some hf
    simpa using h1
theorem last_test (r i M : Nat) (hM : 2 ≤ M) (hM' : M ≤ 268435456) (hr : r < M) (hi : i < M) (h : r * i % M = 1) : ((wrap64 ((r : Int) * (i : Int))).tmod (M : Int) == (1 : Int).tmod (M : Int)) = true := by
  have e : (r : Int) * (i : Int) = ((r * i : Nat) : Int) := by simp
  have b : r * i ≤ 268435456 * 268435456 := Nat.mul_le_mul (by omega) (by omega)
  rw [e, wrap64_small _ b, Int.tmod_eq_emod_of_nonneg (Int.natCast_nonneg _), Int.tmod_eq_emod_of_nonneg (by omega), ← Int.natCast_emod, h, Int.emod_eq_of_lt (by omega) (by omega)]
  rfl
/-- by Montgomery there and back -/
theorem there_back (z q b t : Nat) (hq : 2 ≤ q) (hb : 4294967296 % q * b % q = 1) (ht : t = 4294967296 % q * (4294967296 % q) % q) : (z % q * b % q) * t % q * b % q = z % q := by
  generalize 4294967296 % q = R at *
  rw [ht, mrr, ml, ml, Nat.mul_assoc]
  rw [ml, show z * b * (R * R * b) = z * ((R * b) * (R * b)) by grind, ← mrr, ← mm (R * b) (R * b) q, hb, Nat.one_mul, Nat.mod_eq_of_lt (show 1 < q by omega), Nat.mul_one]
theorem shoup_fact (x y q : Nat) (hq : 2 ≤ q) (hq' : q < 268435456) (hx : x < q) (hy : y < q) :
    ∃ sw : Nat, (x : Int) * (y : Int) - (x : Int) * 4294967296 / (q : Int) * (y : Int) / 4294967296 * (q : Int) = (sw : Int) ∧ sw < 2 * q ∧ sw % q = x * y % q := by
  obtain ⟨⟨b1, b2⟩, ⟨b3, b4⟩, ⟨b5, b6⟩, ⟨b7, b8⟩, b9⟩ := shoup_int x q y (by omega) (by omega) (by omega) (by omega) (by omega) (by omega)
  have e0 : (x : Int) * 4294967296 / (q : Int) * (y : Int) / 4294967296 * (q : Int) = ((x * 4294967296 / q * y / 4294967296 * q : Nat) : Int) := by simp
  have e1 : (x : Int) * (y : Int) = ((x * y : Nat) : Int) := by simp
  rw [e0, e1] at b8 b9
  rw [e0, e1]
  generalize x * 4294967296 / q * y / 4294967296 = k at *
  refine ⟨x * y - k * q, by omega, by omega, ?_⟩
  have hk : k * q ≤ x * y := by omega
  conv => rhs; rw [show x * y = (x * y - k * q) + k * q by omega, Nat.add_mul_mod_self_right]
theorem impl_Mont (q x y : Nat) (w : World) (h1 : oddB q = true) (hx : x < q) (hy : y < q) :
    Calls Try.prog 16 #[.agg (monV q (monI q) (monT q)), .int .i64 x, .int .i64 y] w fun e w' => e = .returned (.tuple #[.int .i64 ((x * y % q * invM (4294967296 % q) q % q : Nat) : Int), .bool true]) ∧ Grown w w' := by
  obtain ⟨_, hq2, hq3, ho⟩ := oddB_yes h1
  have b1 : x * y ≤ 268435456 * 268435456 := Nat.mul_le_mul (by omega) (by omega)
  have b2 : x * y < 4294967296 * q := by
    have h := Nat.mul_lt_mul'' hx hy
    have h3 : q * q ≤ 4294967296 * q := Nat.mul_le_mul (by omega) (Nat.le_refl _)
    omega
  have m0 : x * y % q * invM (4294967296 % q) q % q < q := Nat.mod_lt _ (by omega)
  exact impl_MontMul_yes q _ _ x y _ w hq2 hq3 hx hy (by omega) (fun W => impl_MontOf_yes q W h1) (fun W => mont_product q _ x y _ W rfl (by omega) (by omega) (by omega) (by omega) b2)
theorem back_fact (q : Nat) (h1 : oddB q = true) : 4294967296 % q * invM (4294967296 % q) q % q = 1 := by
  obtain ⟨_, hq2, hq3, ho⟩ := oddB_yes h1
  obtain ⟨k, hk, _⟩ := monI_spec q (by omega)
  rw [back_of q k (by omega) hk, ← Nat.mul_mod, Nat.mul_comm, ← hk, Nat.add_comm, Nat.add_mul_mod_self_right, Nat.mod_eq_of_lt (by omega)]
set_option maxRecDepth 100000 in
set_option maxHeartbeats 4000000 in
theorem words_any (code more : Value) (len1 len2 : Nat) (w : World) (h1 : InW w code len1) (h2 : InW w more len2) (hl1 : len1 ≤ 9223372036854775807) (hl2 : len2 ≤ 9223372036854775807) :
    Calls Try.prog 3 #[code, more] w fun e w' => e = .returned (.bool true) ∧ Grown w w' := by
  obtain ⟨a1, cap1, rfl⟩ := h1.slice
  obtain ⟨a2, cap2, more_def⟩ := h2.slice
  obtain ⟨S, hS⟩ : ∃ S, wrap64 ((len1 : Int) + (len2 : Int)) = S := ⟨_, rfl⟩
  by_cases hbig : 1048576 < S
  · subst more_def
    have dbig : decide ((1048576 : Int) < S) = true := by simp; omega
    clear h1 h2 hbig
    go_enter Try.func3, Try.ntmps3
    go_wp2_with fail
    go_ret
    exact ⟨rfl, Grown.refl _⟩
  · have dbig : decide ((1048576 : Int) < S) = false := by simp; omega
    have cd := drawBar_any _ len1 w h1 (by omega)
    have HM : Hid (InW w more len2) := h2
    clear h1 h2 hbig
    subst more_def
    go_enter Try.func3, Try.ntmps3
    go_wp2_with fail
    refine cd.mono ?_
    rintro e w1 ⟨⟨p, s, m0, x, y, hx, hy, rfl⟩, gw1⟩
    have HG1 : Hid (Grown w w1) := gw1
    clear gw1 cd
    by_cases hok : BarOk p s m0 x y
    · obtain ⟨Q, rfl⟩ := Int.eq_ofNat_of_zero_le (show 0 ≤ p by have := (oddB_yes hok.odd).2.1; omega)
      obtain ⟨X, rfl⟩ := Int.eq_ofNat_of_zero_le hok.x0
      obtain ⟨Y, rfl⟩ := Int.eq_ofNat_of_zero_le hok.y0
      have hxq : X < Q := by have := hok.xp; omega
      have hyq : Y < Q := by have := hok.yp; omega
      obtain ⟨z_, hq2, hq3, hodd⟩ := oddB_yes hok.odd
      have hs := hok.hs
      have hm := hok.hm
      rw [Int.toNat_natCast] at hs hm
      subst hs
      subst hm
      have c13 := fun W => impl_BarrettMul_yes Q _ X Y W hok.odd rfl hxq hyq
      have c14 := fun W => spec_BarrettMul_yes Q _ X Y W hok.odd rfl hxq hyq
      have c15 := fun W => impl_MontOf_yes Q W hok.odd
      have hT : monT Q < Q := Nat.mod_lt _ (by omega)
      have hU : X * Y % Q * invM (4294967296 % Q) Q % Q < Q := Nat.mod_lt _ (by omega)
      have c16 := fun W => impl_Mont Q X Y W hok.odd hxq hyq
      have c16b := fun W => impl_Mont Q _ (monT Q) W hok.odd hU hT
      have hback := back_fact Q hok.odd
      have htb := there_back (X * Y) Q (invM (4294967296 % Q) Q) (monT Q) (by omega) hback rfl
      rw [htb] at c16b
      have hsh : shoB (X : Int) (Q : Int) = true := by simp [shoB]; omega
      have c17 := fun W => impl_ShoupOf_yes X Q W hsh
      have c18 := fun W => impl_ShoupMul_yes X _ Q Y W hsh (by simp : ((X : Int) * 4294967296 / (Q : Int) != (X : Int) * 4294967296 / (Q : Int)) = false) (by omega) (by omega)
      obtain ⟨sw, hsw, hsw2, hsw3⟩ := shoup_fact X Y Q (by omega) (by omega) hxq hyq
      rw [hsw] at c18
      have hxy : X * Y ≤ 268435456 * 268435456 := Nat.mul_le_mul (by omega) (by omega)
      have zf : (wrap64 ((X : Int) * (Y : Int))).tmod (Q : Int) = ((X * Y % Q : Nat) : Int) := by
        rw [← Int.natCast_mul, wrap64_small _ hxy, Int.tmod_eq_emod_of_nonneg (Int.natCast_nonneg _), ← Int.natCast_emod]
      have wf : (sw : Int).tmod (Q : Int) = ((X * Y % Q : Nat) : Int) := by
        rw [Int.tmod_eq_emod_of_nonneg (Int.natCast_nonneg _), ← Int.natCast_emod, hsw3]
      unfold barV at c13 c14
      unfold monV at c15 c16 c16b
      clear hok hsw hsw3 hsh htb hback hx hy
      generalize X * Y % Q * invM (4294967296 % Q) Q % Q = U at *
      generalize X * Y % Q = Z at *
      generalize (X : Int) * 4294967296 / (Q : Int) = pre at *
      generalize monT Q = T at *
      generalize monI Q = I at *
      generalize Lib.bitLen Q = L at *
      generalize (2 : Int) ^ (2 * L) / (Q : Int) = Mu at *
      have dzz : ((Z : Int) != (Z : Int)) = false := by simp
      have dsn : decide ((sw : Int) < 0) = false := by simp
      have dsg : decide (2 * (Q : Int) ≤ (sw : Int)) = false := by simp; omega
      have hQn : ¬ Q = 0 := by omega
      clear hxy hU hT hxq hyq hodd z_
      go_wp2_with fail
      refine (c13 _).mono ?_
      rintro e w2 ⟨rfl, g2⟩
      have q0 := gcell g2 0 (b := w1.heap.size) (by simp)
      have q1 := gcell g2 1 (b := w1.heap.size) (by simp)
      have q2 := gcell g2 2 (b := w1.heap.size) (by simp)
      simp at q0 q1 q2
      have hsz : w1.heap.size < w2.heap.size := by have := g2.2.2; simp at this; omega
      have HG2 : Hid (Grown w w2) := grown_trans (Grown.alloc HG1.out _ _) g2
      clear g2 HG1
      go_wp2_with fail
      refine (c14 _).mono ?_
      rintro e w3 ⟨rfl, g3⟩
      have r0 := (gcell g3 0 (b := w1.heap.size) (by omega)).trans q0
      have r1 := (gcell g3 1 (b := w1.heap.size) (by omega)).trans q1
      have r2 := (gcell g3 2 (b := w1.heap.size) (by omega)).trans q2
      have hsz3 : w1.heap.size < w3.heap.size := by have := g3.2.2; omega
      have HG3 : Hid (Grown w w3) := grown_trans HG2.out g3
      clear g3 HG2 q0 q1 q2
      go_wp2_with fail
      refine (c15 _).mono ?_
      rintro e w4 ⟨rfl, g4⟩
      have s0 := (gcell g4 0 (b := w1.heap.size) (by have := hsz; simp; omega)).trans r0
      go_wp2_with fail
      refine (c16 _).mono ?_
      rintro e w5 ⟨rfl, g5⟩
      have m0 := gcell g5 0 (b := w4.heap.size) (by simp)
      have m1 := gcell g5 1 (b := w4.heap.size) (by simp)
      have m2 := gcell g5 2 (b := w4.heap.size) (by simp)
      simp at m0 m1 m2
      have hsz4 : w1.heap.size < w4.heap.size := by have := g4.2.2; omega
      have s5 := (gcell (grown_trans (Grown.alloc (Grown.refl w4) _ _) g5) 0 (b := w1.heap.size) hsz4).trans s0
      have hsz5 : w1.heap.size < w5.heap.size := by have := g5.2.2; simp at this; omega
      have hsz5' : w4.heap.size < w5.heap.size := by have := g5.2.2; simp at this; omega
      have HG5 : Hid (Grown w w5) := grown_trans (Grown.alloc (grown_trans HG3.out g4) _ _) g5
      clear g5 g4 s0 HG3 r0 r1 r2
      go_wp2_with fail
      refine (c16b _).mono ?_
      rintro e w6 ⟨rfl, g6⟩
      have s6 := (gcell g6 0 (b := w1.heap.size) (by omega)).trans s5
      have hsz6 : w1.heap.size < w6.heap.size := by have := g6.2.2; omega
      have HG6 : Hid (Grown w w6) := grown_trans HG5.out g6
      clear g6 HG5 m0 m1 m2 s5
      go_wp2_with fail
      refine (c17 _).mono ?_
      rintro e w' ⟨rfl, rfl⟩
      go_wp2_with fail
      refine (c18 _).mono ?_
      rintro e w7 ⟨rfl, g7⟩
      have s7 := (gcell g7 0 (b := w1.heap.size) (by omega)).trans s6
      have HGc : Hid (Grown w w7) := grown_trans HG6.out g7
      clear g7 HG6 s6
      go_wp2_with fail
      clear s7 zf wf dzz dsn dsg hQn hsw2 c13 c14 c15 c16 c16b c17 c18 hsz hsz3 hsz4 hsz5 hsz5' hsz6 hq2 hq3
      refine (drawInv_any _ len2 _ (HM.out.grown HGc.out) hl2).mono ?_
      rintro e wd ⟨⟨a, m, ha, hm, rfl⟩, gd⟩
      have HGd : Hid (Grown w wd) := grown_trans HGc.out gd
      clear gd HGc
      cases hmod : modB m
      · have ci := fun W => impl_InvMod_no a m W hmod
        have cs := fun W => spec_InvMod_no a m W hmod
        clear hmod
        go_wp2_with fail
        refine (ci _).mono ?_
        rintro e w' ⟨rfl, rfl⟩
        go_wp2_with fail
        refine (cs _).mono ?_
        rintro e w' ⟨rfl, rfl⟩
        go_wp2_with fail
        go_ret
        exact ⟨rfl, HGd.out⟩
      · obtain ⟨m1, m2⟩ := modB_yes hmod
        have ci := fun W => impl_InvMod_yes a m W ha hmod
        have cs := fun W => spec_InvMod_yes a m W ha hmod
        have hiy := invM_yes (a % m).toNat m.toNat
        have hil := invM_lt (a % m).toNat m.toNat (by omega)
        obtain ⟨ha0, ha1⟩ := ha
        clear hmod hm
        obtain ⟨M, rfl⟩ := Int.eq_ofNat_of_zero_le (show 0 ≤ m by omega)
        rw [Int.toNat_natCast] at ci cs hiy hil
        have r0 := Int.emod_nonneg a (show (M : Int) ≠ 0 by omega)
        have r1 := Int.emod_lt_of_pos a (show (0 : Int) < (M : Int) by omega)
        have er : a % (M : Int) = (((a % (M : Int)).toNat : Nat) : Int) := by omega
        have hrM : (a % (M : Int)).toNat < M := by omega
        generalize hR : (a % (M : Int)).toNat = r at *
        clear hR r0 r1
        generalize invM r M = i at *
        have hMn : ¬ M = 0 := by omega
        have dii : ((i : Int) != (i : Int)) = false := by simp
        by_cases hi0 : i = 0
        · have d0 : ((i : Int) == 0) = true := by simp; omega
          clear hi0 hiy er
          go_wp2_with fail
          refine (ci _).mono ?_
          rintro e w' ⟨rfl, rfl⟩
          go_wp2_with fail
          refine (cs _).mono ?_
          rintro e w' ⟨rfl, rfl⟩
          go_wp2_with fail
          go_ret
          exact ⟨rfl, HGd.out⟩
        · have d0 : ((i : Int) == 0) = false := by simp; omega
          have FQ : Hid (((wrap64 ((r : Int) * (i : Int))).tmod (M : Int) == (1 : Int).tmod (M : Int)) = true) := last_test r i M (by omega) (by omega) hrM hil (hiy hi0)
          clear hi0 hiy
          by_cases hneg : 0 ≤ a
          · have dneg : decide ((r : Int) < 0) = false := by simp
            go_wp2_with fail
            refine (ci _).mono ?_
            rintro e w' ⟨rfl, rfl⟩
            go_wp2_with fail
            refine (cs _).mono ?_
            rintro e w' ⟨rfl, rfl⟩
            go_wp2_with fail
            go_quiet (fail)
            go_wp2_with fail
            go_ret
            exact ⟨ret_bool FQ.out, HGd.out⟩
          · obtain ⟨t1, t2, t3, t4⟩ := tmod_neg a (M : Int) (by omega) (by omega)
            by_cases hs : a.tmod (M : Int) < 0
            · have dneg : decide (a.tmod (M : Int) < 0) = true := by simp; omega
              have e3 : a.tmod (M : Int) + (M : Int) = (r : Int) := by rw [t3 hs]; exact er
              clear t3 t4 er
              go_wp2_with fail
              refine (ci _).mono ?_
              rintro e w' ⟨rfl, rfl⟩
              go_wp2_with fail
              refine (cs _).mono ?_
              rintro e w' ⟨rfl, rfl⟩
              go_wp2_with fail
              go_quiet (fail)
              go_wp2_with fail
              go_ret
              exact ⟨ret_bool FQ.out, HGd.out⟩
            · have e4 : a.tmod (M : Int) = (r : Int) := by rw [t4 (by omega)]; exact er
              have dneg : decide ((r : Int) < 0) = false := by simp
              clear t1 t2 t3 t4 er hs
              go_wp2_with fail
              refine (ci _).mono ?_
              rintro e w' ⟨rfl, rfl⟩
              go_wp2_with fail
              refine (cs _).mono ?_
              rintro e w' ⟨rfl, rfl⟩
              go_wp2_with fail
              go_quiet (fail)
              go_wp2_with fail
              go_ret
              exact ⟨ret_bool FQ.out, HGd.out⟩
    · have c13 := fun W => impl_BarrettMul_no p s m0 x y W hok
      have c14 := fun W => spec_BarrettMul_no p s m0 x y W hok
      clear hok
      go_wp2_with fail
      refine (c13 _).mono ?_
      rintro e w2 ⟨rfl, g2⟩
      have q0 := gcell g2 0 (b := w1.heap.size) (by simp)
      have q1 := gcell g2 1 (b := w1.heap.size) (by simp)
      have q2 := gcell g2 2 (b := w1.heap.size) (by simp)
      simp at q0 q1 q2
      have HG2 : Hid (Grown w w2) := grown_trans (Grown.alloc HG1.out _ _) g2
      clear g2 HG1
      go_wp2_with fail
      refine (c14 _).mono ?_
      rintro e w3 ⟨rfl, g3⟩
      have HGc : Hid (Grown w w3) := grown_trans HG2.out g3
      clear g3 HG2 q0 q1 q2
      go_wp2_with fail
      refine (drawInv_any _ len2 _ (HM.out.grown HGc.out) hl2).mono ?_
      rintro e wd ⟨⟨a, m, ha, hm, rfl⟩, gd⟩
      have HGd : Hid (Grown w wd) := grown_trans HGc.out gd
      clear gd HGc
      cases hmod : modB m
      · have ci := fun W => impl_InvMod_no a m W hmod
        have cs := fun W => spec_InvMod_no a m W hmod
        clear hmod
        go_wp2_with fail
        refine (ci _).mono ?_
        rintro e w' ⟨rfl, rfl⟩
        go_wp2_with fail
        refine (cs _).mono ?_
        rintro e w' ⟨rfl, rfl⟩
        go_wp2_with fail
        go_ret
        exact ⟨rfl, HGd.out⟩
      · obtain ⟨m1, m2⟩ := modB_yes hmod
        have ci := fun W => impl_InvMod_yes a m W ha hmod
        have cs := fun W => spec_InvMod_yes a m W ha hmod
        have hiy := invM_yes (a % m).toNat m.toNat
        have hil := invM_lt (a % m).toNat m.toNat (by omega)
        obtain ⟨ha0, ha1⟩ := ha
        clear hmod hm
        obtain ⟨M, rfl⟩ := Int.eq_ofNat_of_zero_le (show 0 ≤ m by omega)
        rw [Int.toNat_natCast] at ci cs hiy hil
        have r0 := Int.emod_nonneg a (show (M : Int) ≠ 0 by omega)
        have r1 := Int.emod_lt_of_pos a (show (0 : Int) < (M : Int) by omega)
        have er : a % (M : Int) = (((a % (M : Int)).toNat : Nat) : Int) := by omega
        have hrM : (a % (M : Int)).toNat < M := by omega
        generalize hR : (a % (M : Int)).toNat = r at *
        clear hR r0 r1
        generalize invM r M = i at *
        have hMn : ¬ M = 0 := by omega
        have dii : ((i : Int) != (i : Int)) = false := by simp
        by_cases hi0 : i = 0
        · have d0 : ((i : Int) == 0) = true := by simp; omega
          clear hi0 hiy er
          go_wp2_with fail
          refine (ci _).mono ?_
          rintro e w' ⟨rfl, rfl⟩
          go_wp2_with fail
          refine (cs _).mono ?_
          rintro e w' ⟨rfl, rfl⟩
          go_wp2_with fail
          go_ret
          exact ⟨rfl, HGd.out⟩
        · have d0 : ((i : Int) == 0) = false := by simp; omega
          have FQ : Hid (((wrap64 ((r : Int) * (i : Int))).tmod (M : Int) == (1 : Int).tmod (M : Int)) = true) := last_test r i M (by omega) (by omega) hrM hil (hiy hi0)
          clear hi0 hiy
          by_cases hneg : 0 ≤ a
          · have dneg : decide ((r : Int) < 0) = false := by simp
            go_wp2_with fail
            refine (ci _).mono ?_
            rintro e w' ⟨rfl, rfl⟩
            go_wp2_with fail
            refine (cs _).mono ?_
            rintro e w' ⟨rfl, rfl⟩
            go_wp2_with fail
            go_quiet (fail)
            go_wp2_with fail
            go_ret
            exact ⟨ret_bool FQ.out, HGd.out⟩
          · obtain ⟨t1, t2, t3, t4⟩ := tmod_neg a (M : Int) (by omega) (by omega)
            by_cases hs : a.tmod (M : Int) < 0
            · have dneg : decide (a.tmod (M : Int) < 0) = true := by simp; omega
              have e3 : a.tmod (M : Int) + (M : Int) = (r : Int) := by rw [t3 hs]; exact er
              clear t3 t4 er
              go_wp2_with fail
              refine (ci _).mono ?_
              rintro e w' ⟨rfl, rfl⟩
              go_wp2_with fail
              refine (cs _).mono ?_
              rintro e w' ⟨rfl, rfl⟩
              go_wp2_with fail
              go_quiet (fail)
              go_wp2_with fail
              go_ret
              exact ⟨ret_bool FQ.out, HGd.out⟩
            · have e4 : a.tmod (M : Int) = (r : Int) := by rw [t4 (by omega)]; exact er
              have dneg : decide ((r : Int) < 0) = false := by simp
              clear t1 t2 t3 t4 er hs
              go_wp2_with fail
              refine (ci _).mono ?_
              rintro e w' ⟨rfl, rfl⟩
              go_wp2_with fail
              refine (cs _).mono ?_
              rintro e w' ⟨rfl, rfl⟩
              go_wp2_with fail
              go_quiet (fail)
              go_wp2_with fail
              go_ret
              exact ⟨ret_bool FQ.out, HGd.out⟩
end Go.Proofs.Ytgejgkbpbikadaa
