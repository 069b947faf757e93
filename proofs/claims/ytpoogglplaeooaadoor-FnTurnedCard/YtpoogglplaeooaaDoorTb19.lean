/- Proved: several texts in one: what each proves is said ahead of it. -/
import Derived.Test.YtpoogglplaeooaaDoorTb17
import Derived.Test.YtpoogglplaeooaaDoorCopy
import Derived.Test.YtpoogglplaeooaaDoorTb15
import Derived.Test.YtpoogglplaeooaaDoorTb16
import Derived.Test.YtpoogglplaeooaaDoorInv
import Derived.Test.YtpoogglplaeooaaDoorSpInv
/- Proved: the contract of the program's forward. -/
namespace Go.Proofs.YtpoogglplaeooaaDoor
open Go.ChangeShapes Go.WideShapes Go.ChangeAt Go.RowKit
set_option linter.unusedVariables false
set_option linter.unusedSimpArgs false
theorem two_lt {s L : Nat} (h : s < L) : 2 ^ s * 2 ≤ 2 ^ L := by
  rw [← Nat.pow_succ]
  exact Nat.pow_le_pow_right (by omega) h
set_option maxRecDepth 100000 in
set_option maxHeartbeats 8000000 in
theorem impl_forward (P N R : Nat) (xs : List Nat) (v : Value) (w : World) (hT : TabW w) (hv : Row w v (toZ xs)) (hP : 2 ≤ P ∧ P ≤ 268435456) (h : Sz4 N) (hR : R < P) (la : xs.length = N) (ha : ∀ x ∈ xs, x < P) :
    Calls Tryd.prog 24 #[.agg #[.int .i64 P, .int .i64 N, .int .i64 R], v] w fun e w' => ∃ v', e = .returned v' ∧ Old w w' ∧ Own w' w.heap.size v' (toZ (fsS P N R xs (lg N))) := by
  obtain ⟨i0, hi, hz0, hz1, hz2⟩ := info_parts Tryd.infoInt
  have hs := sz_bd h
  obtain ⟨b0, o0, cap0, rfl, hb0, hc0⟩ := hv.atZ (by omega)
  rw [la] at hc0 ⊢
  have HC0 : Hid (∀ j, j < N → w.cell? ⟨b0, o0 + j, none⟩ = some (.int .i64 ((toZ xs).getD j 0))) := fun j hj => by rw [hc0 j hj, toZ_get]
  have hlx : (toZ xs).length = N := by rw [toZ_len, la]
  have HT : Hid (TabW w) := hT
  have cpw := fun W => impl_powers P N R W hP hs hR
  have cno := fun W (hT : TabW W) => impl_noughts N W h hT
  have RC0 : Hid (Rc (w.alloc (.cells #[.int .i64 P, .int .i64 N, .int .i64 R] 24)) w.heap.size P N R) := Rc.new w _ _ _
  clear hc0 hv hT
  go_enter Tryd.func24, Tryd.ntmps24
  go_wp2_with (first
    | (at_make; refine wpList_make_full _ rfl _ _ 25 rfl (w.heap.size + 1) 3 i0 (.int .i64 0) 1 Tryd.underlying25 hi hz0 hz1 .i64 .i64 _ _ N rfl rfl rfl rfl (by rw [hz2]; omega) (by unfold maxLen; omega) (by simp) ?_; intro w1 hown hgrow; have HO1 : Hid (OwnI w1 (w.heap.size + 1) (w.heap.size + 1) N (List.replicate N 0)) := (by have e : (w.alloc (.cells #[.int .i64 P, .int .i64 N, .int .i64 R] 24)).heap.size = w.heap.size + 1 := (by simp); rw [made_ints, e] at hown; exact hown); have HG1 : Hid (Old (w.alloc (.cells #[.int .i64 P, .int .i64 N, .int .i64 R] 24)) w1) := Old.by_ (Old.refl _) hgrow (fun b hb => by cases hb); clear hown hgrow)
    | ((with_reducible refine copy_row (w.heap.size + 1) (w.heap.size + 1) N b0 o0 cap0 (List.replicate N 0) (toZ xs) ?_ ?_ HO1.out ?_ hlx ?_ ?_); exact rfl; exact rfl; (simp); (intro j hj; exact ((Old.trans ((Old.refl w).alloc _) HG1.out).cell (p := ⟨b0, o0 + j, none⟩) hb0).trans (HC0.out j hj)); intro w2 ho2 hbe2; have HO2 : Hid (OwnI w2 (w.heap.size + 1) (w.heap.size + 1) N (toZ xs)) := ho2; have HG2 : Hid (Old (w.alloc (.cells #[.int .i64 P, .int .i64 N, .int .i64 R] 24)) w2) := Below.trans HG1.out (hbe2.mono (by simp)); clear ho2 hbe2))
  have hlg := lg_pow h
  obtain ⟨FS, HFZ', HFSS', hFN', hFL', hEnd⟩ : ∃ FS : Nat → List Nat, FS 0 = xs ∧ (∀ s, FS (s + 1) = fpS P N R s (FS s) (2 ^ s)) ∧ (∀ s, (FS s).length = N) ∧ (∀ s, ∀ x ∈ FS s, x < P) ∧ fsS P N R xs (lg N) = FS (lg N) :=
    ⟨fsS P N R xs, rfl, fun _ => rfl, fun s => by rw [fsS_len, la], fun s => fsS_lt P N R xs (by omega) ha s, rfl⟩
  have HFZ : Hid (toZ (FS 0) = toZ xs) := by show _ = _; rw [HFZ']
  have HFSS : Hid (∀ s, FS (s + 1) = fpS P N R s (FS s) (2 ^ s)) := HFSS'
  have hFN : Hid (∀ s, (FS s).length = N) := hFN'
  have hFL : Hid (∀ s, ∀ x ∈ FS s, x < P) := hFL'
  have HEnd : Hid (fsS P N R xs (lg N) = FS (lg N)) := hEnd
  clear HFZ' HFSS' hFN' hFL' hEnd
  have HLS : Hid ((pwS P R (2 * N)).length = 32) := pwS_len P R (2 * N)
  have RC2 : Hid (Rc w2 w.heap.size P N R) := RC0.out.old HG2.out
  have HGw2 : Hid (Old w w2) := Old.trans ((Old.refl w).alloc _) HG2.out
  refine reg_f3 P N R (lg N) (pwS P R (2 * N)) w.heap.size w2 RC2 HLS cpw (fun W g => cno W (HT.out.old (Old.trans HGw2.out g))) _ _ _ _ _ _ _ _ _ _ _ _ _ _ _ _ _ _ _ _ _ _ _ _ _ _ _ _ _ _ _ _ _ _ _ _ _ _ _ _ _ _ _ _ _ _ _ _ _ _ ?_
  intro kp W u17 u18 u19 u20 u21 gW hPw hkp0
  have HPW : Hid (Pw W kp (pwS P R (2 * N))) := hPw
  have HOW : Hid (OwnI W (w.heap.size + 1) (w.heap.size + 1) N (toZ xs)) := HO2.out.old gW
  have HRW : Hid (Rc W w.heap.size P N R) := RC2.out.old gW
  have HGW : Hid (Old w W) := Old.trans HGw2.out gW
  have hkp : w.heap.size + 1 < kp := by
    have h1 := (World.ownsRow.lt HO2.out (w.heap.size + 1) rfl).2
    omega
  clear gW hPw hkp0 RC2 HGw2 HO2 HG2
  go_wp2_with fail
  go_loopw [23] (fun i V => ∃ s : Nat, s ≤ lg N ∧ i = .int .i64 s ∧ Hid (OwnI V (w.heap.size + 1) (w.heap.size + 1) N (toZ (FS s))) ∧ Hid (Pw V kp (pwS P R (2 * N))) ∧ Hid (Rc V w.heap.size P N R) ∧ Hid (Old w V)) (fun i _ => lg N - (intOf i).toNat)
  case atStart => exact ⟨0, by omega, rfl, (by show OwnI _ _ _ _ _; rw [HFZ.out]; exact HOW.out), HPW, HRW, HGW⟩
  case round =>
    obtain ⟨s, hsl, rfl, HO5, HP5, HR5, HG5⟩ := hrel
    clear HOW HPW HRW HGW
    by_cases hlt : s < lg N
    · have d1 : decide ((s : Int) < ((lg N : Nat) : Int)) = true := by simp; omega
      obtain ⟨hh, e1, e2, e3, e4⟩ := halves h s hlt
      have hwp := wrap_pow s (by omega)
      have h2s := two_lt hlt
      rw [hlg.1] at h2s
      obtain ⟨FP, HF0', HFS', HFE', HFP', HFQ'⟩ : ∃ FP : Nat → List Nat, FP 0 = FS s ∧ (∀ J, FP (J + 1) = spS P (R ^ (backN (lg N) (2 ^ s + J) 0) % P) (J * (2 * hh)) hh (FP J) hh) ∧ FP (2 ^ s) = FS (s + 1) ∧ (∀ J, (FP J).length = N) ∧ (∀ J, ∀ x ∈ FP J, x < P) :=
        ⟨fpS P N R s (FS s), rfl, fun J => by rw [fpS, e1, show 2 * hh / 2 = hh by omega], (HFSS.out s).symm, fun J => by rw [fpS_len]; exact hFN.out s, fun J => fpS_lt P N R s _ (by omega) (hFL.out s) J⟩
      have HF0 : Hid (toZ (FP 0) = toZ (FS s)) := by show _ = _; rw [HF0']
      have HFS : Hid (∀ J, toZ (FP (J + 1)) = toZ (spS P (R ^ (backN (lg N) (2 ^ s + J) 0) % P) (J * (2 * hh)) hh (FP J) hh)) := fun J => by rw [HFS' J]
      have HFE : Hid (toZ (FP (2 ^ s)) = toZ (FS (s + 1))) := by show _ = _; rw [HFE']
      have HFP : Hid (∀ J, (FP J).length = N) := HFP'
      have HFQ : Hid (∀ J, ∀ x ∈ FP J, x < P) := HFQ'
      clear HF0' HFS' HFE' HFP' HFQ'
      obtain ⟨q, hq⟩ : ∃ q, 2 ^ s = q := ⟨_, rfl⟩
      rw [hq] at hwp h2s e2 HFE
      have HQQ : Hid (2 ^ s = q) := hq
      clear e1 e4
      go_wp2_with fail
      rw [hwp]
      clear hwp hq
      go_loopw [30] (fun j V => ∃ J : Nat, J ≤ q ∧ j = .int .i64 J ∧ Hid (OwnI V (w.heap.size + 1) (w.heap.size + 1) N (toZ (FP J))) ∧ Hid (Pw V kp (pwS P R (2 * N))) ∧ Hid (Rc V w.heap.size P N R) ∧ Hid (Old w V)) (fun j _ => q - (intOf j).toNat)
      case atStart => exact ⟨0, by omega, rfl, (by show OwnI _ _ _ _ _; rw [HF0.out]; exact HO5.out), HP5, HR5, HG5⟩
      case round =>
        obtain ⟨J, hJ, rfl, HO6, HP6, HR6, HG6⟩ := hrel
        clear HO5 HP5 HR5 HG5
        by_cases hjl : J < q
        · have d2 : decide ((J : Int) < (q : Int)) = true := by simp; omega
          have hNX := HFS.out J
          rw [HQQ.out] at hNX
          have hbl := back_lt0 h (q + J)
          have hw0 : (pwS P R (2 * N)).getD (backN (lg N) (q + J) 0) 0 = R ^ (backN (lg N) (q + J) 0) % P := pwS_get P R (2 * N) _ (by omega) (by omega)
          have hwl : R ^ (backN (lg N) (q + J) 0) % P < P := Nat.mod_lt _ (by omega)
          have hof : J * (2 * hh) + 2 * hh ≤ N := by
            have h1 : (J + 1) * (2 * hh) ≤ q * (2 * hh) := Nat.mul_le_mul_right _ hjl
            rw [Nat.add_mul, Nat.one_mul, e2] at h1
            exact h1
          have cpa := fun W => impl_partOf (w.heap.size + 1) N J q (2 * hh) W hs e2.symm (by omega) (by omega) hjl
          have cbb := fun W => impl_backN N (q + J) W h (by omega)
          have hgl : w.heap.size + 1 < wr.heap.size := (World.ownsRow.lt HO6.out (w.heap.size + 1) rfl).2
          have csp := impl_split P N R (R ^ (backN (lg N) (q + J) 0) % P) (J * (2 * hh)) hh (N - J * (2 * hh)) (w.heap.size + 1) (w.heap.size + 1) (FP J) wr.drew hP hwl (by omega) hof (HO6.out.old (Below.drew (Old.refl wr))) hgl (HFP.out J) (HFQ.out J)
          rw [← hNX] at csp
          clear hNX
          generalize R ^ (backN (lg N) (q + J) 0) % P = w0 at *
          generalize backN (lg N) (q + J) 0 = bb at *
          go_wp2_with fail
          refine reg_f11 P N R (lg N) q J bb w0 (pwS P R (2 * N)) (some ⟨w.heap.size + 1, 0, none⟩) (some ⟨w.heap.size + 1, J * (2 * hh), none⟩) (2 * hh) (N - J * (2 * hh)) w.heap.size kp wr HR6 HP6 (by omega) hw0 (by omega) cpa cbb (fun w' => wr.drew.grownBy w' (some (w.heap.size + 1)) ∧ OwnI w' (w.heap.size + 1) (w.heap.size + 1) N (toZ (FP (J + 1)))) csp _ _ _ _ _ _ _ _ _ _ _ _ _ _ _ _ _ _ _ _ _ _ _ _ _ _ _ _ _ _ _ _ _ _ _ _ _ _ _ _ _ _ _ _ _ ?_
          intro V u33 u34 u35 u36 u37 u38 u39 u40 u41 u42 u43 u44 u45 hPS
          have HO7 : Hid (OwnI V (w.heap.size + 1) (w.heap.size + 1) N (toZ (FP (J + 1)))) := hPS.2
          have HP7 : Hid (Pw V kp (pwS P R (2 * N))) := (HP6.out.old (Below.drew (Old.refl wr))).by_ hPS.1 (fun k hk => by cases hk; omega)
          have HR7 : Hid (Rc V w.heap.size P N R) := (HR6.out.old (Below.drew (Old.refl wr))).by_ hPS.1 (fun k hk => by cases hk; omega)
          have HG7 : Hid (Old w V) := Old.by_ (Below.drew HG6.out) hPS.1 (fun k hk => by cases hk; omega)
          clear hPS HO6 HP6 HR6 HG6
          go_wp2_with fail
          exact ⟨⟨J + 1, by omega, by go_num, HO7, HP7, HR7, HG7⟩, by simp [intOf]; omega⟩
        · have d2 : decide ((J : Int) < (q : Int)) = false := by simp; omega
          obtain rfl : J = q := by omega
          have HO8 : Hid (OwnI wr (w.heap.size + 1) (w.heap.size + 1) N (toZ (FS (s + 1)))) := by
            have := HO6.out
            rw [HFE.out] at this
            exact this
          go_wp2_with fail
          exact ⟨⟨s + 1, by omega, by go_num, HO8, HP6, HR6, HG6⟩, by simp [intOf]; omega⟩
    · have d1 : decide ((s : Int) < ((lg N : Nat) : Int)) = false := by simp; omega
      obtain rfl : s = lg N := by omega
      have HF : Hid (Own wr (w.heap.size + 1) (.slice (some ⟨w.heap.size + 1, 0, none⟩) N N) (toZ (fsS P N R xs (lg N)))) := by rw [HEnd.out]; exact HO5.out.own (by rw [toZ_len]; exact hFN.out _)
      go_wp2_with fail
      go_ret
      exact ⟨_, rfl, HG5.out, HF.out.low (by omega)⟩
end Go.Proofs.YtpoogglplaeooaaDoor
/- Proved: joining again and again gives the sums over the points. -/
namespace Go.Proofs.YtpoogglplaeooaaDoor
set_option linter.unusedVariables false
set_option linter.unusedSimpArgs false
/-- a sum over n places from a on -/
def sumK (f : Nat → Int) (a : Nat) : Nat → Int
  | 0 => 0
  | n + 1 => sumK f a n + f (a + n)
theorem sumK_add (f : Nat → Int) (a n : Nat) : ∀ m, sumK f a (n + m) = sumK f a n + sumK f (a + n) m
  | 0 => by simp [sumK]
  | m + 1 => by rw [← Nat.add_assoc, sumK, sumK_add f a n m, sumK, Nat.add_assoc a n m]; omega
theorem sumK_cg {P : Int} {f g : Nat → Int} (a : Nat) : ∀ n, (∀ j, j < n → Cg P (f (a + j)) (g (a + j))) → Cg P (sumK f a n) (sumK g a n)
  | 0, _ => Cg.refl _ _
  | n + 1, h => (sumK_cg a n (fun j hj => h j (by omega))).add (h n (by omega))
theorem sumK_mul (f : Nat → Int) (c : Int) (a : Nat) : ∀ n, sumK (fun k => f k * c) a n = sumK f a n * c
  | 0 => by simp [sumK]
  | n + 1 => by rw [sumK, sumK_mul f c a n, sumK, Int.add_mul]
end Go.Proofs.YtpoogglplaeooaaDoor
/- Proved: the lists that the program's inverse and the model's make are the same. -/
namespace Go.Proofs.YtpoogglplaeooaaDoor
open M1
set_option linter.unusedVariables false
set_option linter.unusedSimpArgs false
theorem inv_pw {P N R : Nat} {B : Nat} (r1 : Cg P ((R : Int) ^ (2 * N)) 1) (r2 : Cg P ((R : Int) ^ N) (-1)) (hB : Cg P ((R : Int) * (B : Int)) 1) :
    Cg P ((B : Int) ^ (2 * N)) 1 ∧ Cg P ((B : Int) ^ N) (-1) ∧ ∀ z, z ≤ 2 * N → Cg P ((B : Int) ^ z) ((R : Int) ^ (2 * N - z)) := by
  have hz : ∀ z, Cg P ((R : Int) ^ z * (B : Int) ^ z) 1 := fun z => by
    have := hB.pow z
    rw [Int.one_pow, Int.mul_pow] at this
    exact this
  refine ⟨?_, ?_, fun z hz' => ?_⟩
  · have h := (r1.mul (Cg.refl (P : Int) ((B : Int) ^ (2 * N)))).symm.trans (hz (2 * N))
    rw [Int.one_mul] at h
    exact h
  · have h := ((r2.mul (Cg.refl (P : Int) ((B : Int) ^ N))).symm.trans (hz N)).neg
    rw [Int.neg_mul, Int.one_mul, Int.neg_neg] at h
    exact h
  · have h1 := (Cg.refl (P : Int) ((R : Int) ^ (2 * N - z))).mul (hz z)
    rw [Int.mul_one, ← Int.mul_assoc, ← Int.pow_add, show 2 * N - z + z = 2 * N by omega] at h1
    have h2 := (r1.mul (Cg.refl (P : Int) ((B : Int) ^ z))).symm.trans h1
    rw [Int.one_mul] at h2
    exact h2
theorem invS_sum (P B : Nat) (ps xs : List Nat) (i : Nat) : ∀ c, Cg P ((invS P B ps xs i c : Nat) : Int) (sumK (fun k => ((xs.getD k 0 : Nat) : Int) * (B : Int) ^ (ps.getD k 0 * i)) 0 c)
  | 0 => Cg.refl _ _
  | c + 1 => by
    rw [invS, sumK, Nat.zero_add]
    refine (Cg.mod P _).trans ?_
    rw [Int.natCast_add, Int.natCast_mul]
    refine (invS_sum P B ps xs i c).add ((Cg.refl _ _).mul ?_)
    have := Cg.mod P (B ^ (ps.getD c 0 * i))
    push_cast at this ⊢
    exact this
theorem inv_root {P N R : Nat} (hP : 2 ≤ P) (hN : 0 < N) (r1 : Cg P ((R : Int) ^ (2 * N)) 1) : Cg P ((R : Int) * ((invM R P : Nat) : Int)) 1 := by
  have e : Cg P ((R * (R ^ (2 * N - 1) % P) : Nat) : Int) 1 := by
    have h1 := (Cg.refl (P : Int) (R : Int)).mul (Cg.mod P (R ^ (2 * N - 1)))
    rw [Int.natCast_mul]
    refine h1.trans ?_
    rw [← Int.natCast_mul, Nat.mul_comm, ← Nat.pow_succ, show (2 * N - 1).succ = 2 * N by omega]
    push_cast
    exact r1
  have h2 : R * (R ^ (2 * N - 1) % P) % P = 1 := Cg.eq_of_lt ((Cg.mod P _).trans e) (Nat.mod_lt _ (by omega)) (by omega)
  rw [invM_of R _ P (Nat.mod_lt _ (by omega)) h2, ← Int.natCast_mul]
  exact e
end Go.Proofs.YtpoogglplaeooaaDoor
/- Proved: the mathematics of a product in a ring: the inverse transform takes back the transform, and the transform of the model's product is the products of the transforms one by one; no function of the program. -/
namespace Go.Proofs.YtpoogglplaeooaaDoor
open M1
set_option linter.unusedVariables false
set_option linter.unusedSimpArgs false
theorem sumK_plus (f g : Nat → Int) (a : Nat) : ∀ n, sumK (fun k => f k + g k) a n = sumK f a n + sumK g a n
  | 0 => by simp [sumK]
  | n + 1 => by rw [sumK, sumK_plus f g a n, sumK, sumK]; omega
theorem sumK_const (c : Int) (a : Nat) : ∀ n : Nat, sumK (fun _ => c) a n = (n : Int) * c
  | 0 => by simp [sumK]
  | n + 1 => by rw [sumK, sumK_const c a n, Int.natCast_add, Int.add_mul]; simp
theorem sumK_shift {P : Int} (f : Nat → Int) (s h : Nat) : ∀ n, (∀ i, i < n → Cg P (f (s + h + i)) (-(f (s + i)))) → Cg P (sumK f (s + h) n) (-(sumK f s n))
  | 0, _ => by simp [sumK]; exact Cg.refl _ _
  | n + 1, H => by
    rw [sumK, sumK, Int.neg_add]
    exact (sumK_shift f s h n (fun i hi => H i (by omega))).add (H n (by omega))
/-- a sum whose terms take each other away in pairs is 0 -/
theorem sumK_pairs {P : Int} (f : Nat → Int) (h Q : Nat) (hf : ∀ J i, J < Q → i < h → Cg P (f (J * (2 * h) + h + i)) (-(f (J * (2 * h) + i)))) : ∀ J, J ≤ Q → Cg P (sumK f 0 (J * (2 * h))) 0
  | 0, _ => by rw [Nat.zero_mul]; exact Cg.refl _ _
  | J + 1, hJ => by
    rw [Nat.add_mul, Nat.one_mul, sumK_add, Nat.zero_add, show 2 * h = h + h by omega, sumK_add, ← show 2 * h = h + h by omega]
    have h1 := sumK_pairs f h Q hf J (by omega)
    have h2 := sumK_shift f (J * (2 * h)) h h (fun i hi => hf J i (by omega) hi)
    have h3 := h1.add ((Cg.refl P (sumK f (J * (2 * h)) h)).add h2)
    rw [Int.add_right_neg, Int.add_zero] at h3
    exact h3
/-- the greatest power of two in d -/
def pw2 (d : Nat) : Nat := if d % 2 = 1 then 1 else if d % 4 = 2 then 2 else if d % 8 = 4 then 4 else 8
def pairB (N d : Nat) : Bool := decide (N % (2 * pw2 d) = 0) && (List.range N).all (fun k => decide (¬ k % (2 * pw2 d) < pw2 d) || decide (((2 * backN (lg N) k 0 + 1) * d + N) % (2 * N) = ((2 * backN (lg N) (k + pw2 d) 0 + 1) * d) % (2 * N)))
theorem pair2 : ∀ d, d < 2 → 0 < d → pairB 2 d = true := by decide +kernel
theorem pair4 : ∀ d, d < 4 → 0 < d → pairB 4 d = true := by decide +kernel
theorem pair8 : ∀ d, d < 8 → 0 < d → pairB 8 d = true := by decide +kernel
theorem pair16 : ∀ d, d < 16 → 0 < d → pairB 16 d = true := by decide +kernel
theorem pairs {N : Nat} (h : Sz4 N) (d : Nat) (hd : d < N) (h0 : 0 < d) : N % (2 * pw2 d) = 0 ∧ ∀ k, k < N → k % (2 * pw2 d) < pw2 d → ((2 * backN (lg N) k 0 + 1) * d + N) % (2 * N) = ((2 * backN (lg N) (k + pw2 d) 0 + 1) * d) % (2 * N) := by
  have key : pairB N d = true := by
    rcases h with rfl | rfl | rfl | rfl
    · exact pair2 d hd h0
    · exact pair4 d hd h0
    · exact pair8 d hd h0
    · exact pair16 d hd h0
  unfold pairB at key
  rw [Bool.and_eq_true] at key
  refine ⟨of_decide_eq_true key.1, fun k hk hlt => ?_⟩
  have := List.all_eq_true.1 key.2 k (List.mem_range.2 hk)
  rw [Bool.or_eq_true] at this
  rcases this with h1 | h1
  · exact absurd hlt (of_decide_eq_true h1)
  · exact of_decide_eq_true h1
theorem pw2_pos (d : Nat) : 0 < pw2 d := by unfold pw2; split <;> (try split) <;> (try split) <;> omega
/-- powers of the points that are not powers of their N-th one sum to 0 -/
theorem orth {P N T : Nat} (hS : Sz4 N) (t1 : Cg P ((T : Int) ^ (2 * N)) 1) (t2 : Cg P ((T : Int) ^ N) (-1)) (d : Nat) (hd : d < N) (h0 : 0 < d) :
    Cg P (sumK (fun k => (T : Int) ^ ((2 * backN (lg N) k 0 + 1) * d)) 0 N) 0 := by
  obtain ⟨hm, hp⟩ := pairs hS d hd h0
  have hpos := pw2_pos d
  have e : N = N / (2 * pw2 d) * (2 * pw2 d) := by
    have := Nat.div_add_mod N (2 * pw2 d)
    rw [hm, Nat.add_zero, Nat.mul_comm] at this
    exact this.symm
  have key := sumK_pairs (P := P) (fun k => (T : Int) ^ ((2 * backN (lg N) k 0 + 1) * d)) (pw2 d) (N / (2 * pw2 d)) (fun J i hJ hi => by
    have hb : J * (2 * pw2 d) + 2 * pw2 d ≤ N := by
      have := Nat.mul_le_mul_right (2 * pw2 d) (show J + 1 ≤ N / (2 * pw2 d) by omega)
      rw [← e, Nat.add_mul, Nat.one_mul] at this
      exact this
    have hk := hp (J * (2 * pw2 d) + i) (by omega) (by rw [Nat.mul_comm, Nat.mul_add_mod, Nat.mod_eq_of_lt (by omega)]; exact hi)
    have ek : J * (2 * pw2 d) + pw2 d + i = J * (2 * pw2 d) + i + pw2 d := by omega
    show Cg P ((T : Int) ^ ((2 * backN (lg N) (J * (2 * pw2 d) + pw2 d + i) 0 + 1) * d)) (-((T : Int) ^ ((2 * backN (lg N) (J * (2 * pw2 d) + i) 0 + 1) * d)))
    rw [ek]
    have c1 := pow_per t1 _ _ hk.symm
    have c2 := (pow_per t1 ((2 * backN (lg N) (J * (2 * pw2 d) + i) 0 + 1) * d + N) _ rfl).symm
    refine (c1.trans c2).trans ?_
    rw [Int.pow_add]
    have := (Cg.refl (P : Int) ((T : Int) ^ ((2 * backN (lg N) (J * (2 * pw2 d) + i) 0 + 1) * d))).mul t2
    rw [Int.mul_neg, Int.mul_one] at this
    exact this) (N / (2 * pw2 d)) (Nat.le_refl _)
  rw [← e] at key
  exact key
theorem pow_swap (R B : Int) (P : Int) (hB : Cg P (R * B) 1) (p h i : Nat) : Cg P ((R ^ p) ^ h * B ^ (p * i)) (if i ≤ h then R ^ (p * (h - i)) else B ^ (p * (i - h))) := by
  have hz : ∀ z : Nat, Cg P (R ^ z * B ^ z) 1 := fun z => by
    have := hB.pow z
    rw [Int.one_pow, Int.mul_pow] at this
    exact this
  rw [← Int.pow_mul]
  by_cases hi : i ≤ h
  · rw [if_pos hi, show p * h = p * (h - i) + p * i by rw [← Nat.mul_add]; congr 1; omega, Int.pow_add, Int.mul_assoc]
    have := (Cg.refl P (R ^ (p * (h - i)))).mul (hz (p * i))
    rw [Int.mul_one] at this
    exact this
  · rw [if_neg hi, show p * i = p * h + p * (i - h) by rw [← Nat.mul_add]; congr 1; omega, Int.pow_add, ← Int.mul_assoc]
    have := (hz (p * h)).mul (Cg.refl P (B ^ (p * (i - h))))
    rw [Int.one_mul] at this
    exact this
/-- the sum over the points takes back one number -/
theorem back_sum {P N R B : Nat} (hS : Sz4 N) (r1 : Cg P ((R : Int) ^ (2 * N)) 1) (r2 : Cg P ((R : Int) ^ N) (-1)) (hB : Cg P ((R : Int) * (B : Int)) 1) (c : Nat → Int) (i : Nat) (hi : i < N) :
    ∀ h, h ≤ N → Cg P (sumK (fun k => evI c ((R : Int) ^ (2 * backN (lg N) k 0 + 1)) h * (B : Int) ^ ((2 * backN (lg N) k 0 + 1) * i)) 0 N) (if i < h then (N : Int) * c i else 0)
  | 0, _ => by
    rw [if_neg (by omega)]
    have : (fun k => evI c ((R : Int) ^ (2 * backN (lg N) k 0 + 1)) 0 * (B : Int) ^ ((2 * backN (lg N) k 0 + 1) * i)) = fun _ => (0 : Int) := by
      funext k
      simp [evI]
    rw [this, sumK_const, Int.mul_zero]
    exact Cg.refl _ _
  | h + 1, hh => by
    have ih := back_sum hS r1 r2 hB c i hi h (by omega)
    obtain ⟨b1, b2, _⟩ := inv_pw r1 r2 hB
    have e : (fun k => evI c ((R : Int) ^ (2 * backN (lg N) k 0 + 1)) (h + 1) * (B : Int) ^ ((2 * backN (lg N) k 0 + 1) * i)) = fun k => evI c ((R : Int) ^ (2 * backN (lg N) k 0 + 1)) h * (B : Int) ^ ((2 * backN (lg N) k 0 + 1) * i) + (((R : Int) ^ (2 * backN (lg N) k 0 + 1)) ^ h * (B : Int) ^ ((2 * backN (lg N) k 0 + 1) * i)) * c h := by
      funext k
      rw [evI]
      grind
    rw [e, sumK_plus, sumK_mul]
    have hs : Cg P (sumK (fun k => ((R : Int) ^ (2 * backN (lg N) k 0 + 1)) ^ h * (B : Int) ^ ((2 * backN (lg N) k 0 + 1) * i)) 0 N) (if i = h then (N : Int) else 0) := by
      refine (sumK_cg (g := fun k => if i ≤ h then (R : Int) ^ ((2 * backN (lg N) k 0 + 1) * (h - i)) else (B : Int) ^ ((2 * backN (lg N) k 0 + 1) * (i - h))) 0 N (fun j _ => pow_swap (R : Int) (B : Int) P hB (2 * backN (lg N) (0 + j) 0 + 1) h i)).trans ?_
      by_cases h1 : i = h
      · subst h1
        rw [if_pos rfl]
        have : (fun k => if i ≤ i then (R : Int) ^ ((2 * backN (lg N) k 0 + 1) * (i - i)) else (B : Int) ^ ((2 * backN (lg N) k 0 + 1) * (i - i))) = fun _ => (1 : Int) := by
          funext k
          rw [if_pos (Nat.le_refl _), Nat.sub_self, Nat.mul_zero, Int.pow_zero]
        rw [this, sumK_const, Int.mul_one]
        exact Cg.refl _ _
      · rw [if_neg h1]
        by_cases h2 : i ≤ h
        · have : (fun k => if i ≤ h then (R : Int) ^ ((2 * backN (lg N) k 0 + 1) * (h - i)) else (B : Int) ^ ((2 * backN (lg N) k 0 + 1) * (i - h))) = fun k => (R : Int) ^ ((2 * backN (lg N) k 0 + 1) * (h - i)) := by
            funext k
            rw [if_pos h2]
          rw [this]
          exact orth hS r1 r2 (h - i) (by omega) (by omega)
        · have : (fun k => if i ≤ h then (R : Int) ^ ((2 * backN (lg N) k 0 + 1) * (h - i)) else (B : Int) ^ ((2 * backN (lg N) k 0 + 1) * (i - h))) = fun k => (B : Int) ^ ((2 * backN (lg N) k 0 + 1) * (i - h)) := by
            funext k
            rw [if_neg h2]
          rw [this]
          exact orth hS b1 b2 (i - h) (by omega) (by omega)
    have h3 := ih.add (hs.mul (Cg.refl (P : Int) (c h)))
    refine h3.trans ?_
    by_cases h1 : i = h
    · subst h1
      rw [if_neg (by omega), if_pos rfl, if_pos (by omega), Int.zero_add]
      exact Cg.refl _ _
    · rw [if_neg h1, Int.zero_mul, Int.add_zero]
      by_cases h2 : i < h
      · rw [if_pos h2, if_pos (by omega)]
        exact Cg.refl _ _
      · rw [if_neg h2, if_neg (by omega)]
        exact Cg.refl _ _
theorem inv_size {P N : Nat} (hS : Sz4 N) (hP : 2 ≤ P) (ho : P % 2 = 1) : Cg P ((N : Int) * ((invM (N % P) P : Nat) : Int)) 1 := by
  have hN := (lg_pow hS).1
  obtain ⟨h, hh⟩ : ∃ h, 2 * h = P + 1 := ⟨(P + 1) / 2, by omega⟩
  have e1 : Cg P (((N * (h ^ lg N % P) : Nat)) : Int) 1 := by
    have h1 := (Cg.refl (P : Int) (N : Int)).mul (Cg.mod P (h ^ lg N))
    rw [Int.natCast_mul]
    refine h1.trans ?_
    rw [← Int.natCast_mul]
    have e2 : N * h ^ lg N = (P + 1) ^ lg N := by
      rw [← hh, Nat.mul_pow, hN]
    rw [e2]
    have h2 : Cg P ((P : Int) + 1) 1 := ⟨1, by omega⟩
    have h3 := h2.pow (lg N)
    rw [Int.one_pow] at h3
    push_cast
    exact h3
  have h2 : N % P * (h ^ lg N % P) % P = 1 := by
    rw [Nat.mod_mul_mod]
    exact Cg.eq_of_lt ((Cg.mod P _).trans e1) (Nat.mod_lt _ (by omega)) (by omega)
  rw [invM_of (N % P) _ P (Nat.mod_lt _ (by omega)) h2, ← Int.natCast_mul]
  exact e1
/-- a value at a point is what Horner's rule tells -/
theorem fwd_ev (P N R : Nat) (xs : List Nat) (k : Nat) (hk : k < N) : Cg P (((fwdS P N R xs).getD k 0 : Nat) : Int) (evI (fun i => ((xs.getD i 0 : Nat) : Int)) ((R : Int) ^ (2 * backN (lg N) k 0 + 1)) N) := by
  rw [fwdS_get P N R xs k hk, ptsN_get N k hk]
  have h2 := hor_ev P (R ^ (2 * backN (lg N) k 0 + 1) % P) xs N N (Nat.le_refl _)
  have e2 : (fun i => ((xs.getD (N - N + i) 0 : Nat) : Int)) = (fun i => ((xs.getD i 0 : Nat) : Int)) := by
    funext i
    rw [Nat.sub_self, Nat.zero_add]
  rw [e2] at h2
  refine h2.trans (evI_x _ ?_ N)
  have := Cg.mod P (R ^ (2 * backN (lg N) k 0 + 1))
  push_cast at this ⊢
  exact this
/-- the inverse takes back the transform -/
theorem inv_fwd (P N R : Nat) (cs : List Nat) (hS : Sz4 N) (hl : cs.length = N) (hP : 2 ≤ P) (ho : P % 2 = 1) (hlt : ∀ x ∈ cs, x < P) (r1 : Cg P ((R : Int) ^ (2 * N)) 1) (r2 : Cg P ((R : Int) ^ N) (-1)) : invL P N R (fwdS P N R cs) = cs := by
  have hs := sz_bd hS
  refine list_eq (by rw [invL_len, hl]) (fun i hi => ?_)
  rw [hl] at hi
  rw [invL_get P N R _ i hi]
  have hB := inv_root (N := N) hP (by omega) r1
  have h1 := invS_sum P (invM R P) (ptsN N) (fwdS P N R cs) i N
  have h2 : Cg P (sumK (fun k => (((fwdS P N R cs).getD k 0 : Nat) : Int) * ((invM R P : Nat) : Int) ^ ((ptsN N).getD k 0 * i)) 0 N) (sumK (fun k => evI (fun i => ((cs.getD i 0 : Nat) : Int)) ((R : Int) ^ (2 * backN (lg N) k 0 + 1)) N * ((invM R P : Nat) : Int) ^ ((2 * backN (lg N) k 0 + 1) * i)) 0 N) := by
    refine sumK_cg 0 N (fun j hj => ?_)
    rw [Nat.zero_add, ptsN_get N j hj]
    exact (fwd_ev P N R cs j hj).mul (Cg.refl _ _)
  have h3 := back_sum hS r1 r2 hB (fun i => ((cs.getD i 0 : Nat) : Int)) i hi N (Nat.le_refl _)
  rw [if_pos hi] at h3
  have h4 := ((h1.trans h2).trans h3).mul (Cg.refl (P : Int) ((invM (N % P) P : Nat) : Int))
  have h5 := (inv_size hS hP ho).mul (Cg.refl (P : Int) ((cs.getD i 0 : Nat) : Int))
  rw [Int.one_mul] at h5
  refine Cg.eq_of_lt ((Cg.mod P _).trans ?_) (Nat.mod_lt _ (by omega)) (getD_lt hlt (by omega) i)
  rw [Int.natCast_mul]
  refine h4.trans ?_
  refine Cg.trans ?_ h5
  exact ⟨0, by grind⟩
end Go.Proofs.YtpoogglplaeooaaDoor
