/- Proved: the contract of the program's inverse: its joins, step by step, and the inverse of N. -/
import Derived.Test.YtfgooclnohnkmaaGreatDoorIvr
import Derived.Test.YtfgooclnohnkmaaGreatDoorCopy
import Derived.Test.YtfgooclnohnkmaaGreatDoorPoints
import Derived.Test.YtfgooclnohnkmaaGreatDoorNL
namespace Go.Proofs.YtfgooclnohnkmaaGreatDoor
open Go.ChangeShapes Go.WideShapes Go.ChangeAt Go.RowKit
set_option linter.unusedVariables false
set_option linter.unusedSimpArgs false
/-- a step's first J parts joined -/
def ipS (P N R t : Nat) (fs : List Nat) : Nat → List Nat
  | 0 => fs
  | J + 1 => jnS P (R ^ (2 * N - backN (lg N) (N / 2 ^ (t + 1) + J) 0) % P) (J * (2 * 2 ^ t)) (2 ^ t) (ipS P N R t fs J) (2 ^ t)
/-- the first steps -/
def isS (P N R : Nat) (xs : List Nat) : Nat → List Nat
  | 0 => xs
  | t + 1 => ipS P N R t (isS P N R xs t) (N / 2 ^ (t + 1))
theorem ipS_len (P N R t : Nat) (fs : List Nat) : ∀ J, (ipS P N R t fs J).length = fs.length
  | 0 => rfl
  | J + 1 => by rw [ipS, jnS_len, ipS_len P N R t fs J]
theorem isS_len (P N R : Nat) (xs : List Nat) : ∀ t, (isS P N R xs t).length = xs.length
  | 0 => rfl
  | t + 1 => by rw [isS, ipS_len, isS_len P N R xs t]
theorem ipS_lt (P N R t : Nat) (fs : List Nat) (hP : 0 < P) (h : ∀ x ∈ fs, x < P) : ∀ J, ∀ x ∈ ipS P N R t fs J, x < P
  | 0 => h
  | J + 1 => by rw [ipS]; exact jnS_lt P _ _ _ _ hP (ipS_lt P N R t fs hP h J) _
theorem isS_lt (P N R : Nat) (xs : List Nat) (hP : 0 < P) (h : ∀ x ∈ xs, x < P) : ∀ t, ∀ x ∈ isS P N R xs t, x < P
  | 0 => h
  | t + 1 => by rw [isS]; exact ipS_lt P N R t _ hP (isS_lt P N R xs hP h t) _
theorem inv_parts {N : Nat} (h : Sz4 N) (t : Nat) (ht : t < lg N) : (N / 2 ^ (t + 1)) * (2 * 2 ^ t) = N ∧ 1 ≤ N / 2 ^ (t + 1) ∧ N / 2 ^ (t + 1) + N / 2 ^ (t + 1) ≤ N ∧ 1 ≤ 2 ^ t := by
  have key : ∀ N ∈ [2, 4, 8, 16], ∀ t, t < lg N → (N / 2 ^ (t + 1)) * (2 * 2 ^ t) = N ∧ 1 ≤ N / 2 ^ (t + 1) ∧ N / 2 ^ (t + 1) + N / 2 ^ (t + 1) ≤ N ∧ 1 ≤ 2 ^ t := by decide
  exact key N (by rcases h with rfl | rfl | rfl | rfl <;> decide) t ht
/-- the first k numbers times iv -/
def mS (iv P : Nat) (fs : List Nat) : Nat → List Nat
  | 0 => fs
  | k + 1 => (mS iv P fs k).set k (fs.getD k 0 * iv % P)
theorem mS_len (iv P : Nat) (fs : List Nat) : ∀ k, (mS iv P fs k).length = fs.length
  | 0 => rfl
  | k + 1 => by rw [mS, List.length_set, mS_len iv P fs k]
theorem mS_get (iv P : Nat) (fs : List Nat) : ∀ k j, k ≤ fs.length → (mS iv P fs k).getD j 0 = if j < k then fs.getD j 0 * iv % P else fs.getD j 0
  | 0, j, _ => by simp [mS]
  | k + 1, j, h => by
    rw [mS]
    by_cases hj : j = k
    · subst hj
      rw [if_pos (by omega)]
      simp [List.getD, mS_len, show j < fs.length by omega]
    · have e : ((mS iv P fs k).set k (fs.getD k 0 * iv % P)).getD j 0 = (mS iv P fs k).getD j 0 := by simp [List.getD, List.getElem?_set, Ne.symm hj]
      rw [e, mS_get iv P fs k j (by omega)]
      by_cases h1 : j < k
      · rw [if_pos h1, if_pos (by omega)]
      · rw [if_neg h1, if_neg (by omega)]
theorem mS_all (iv P : Nat) (fs : List Nat) : mS iv P fs fs.length = fs.map (fun x => x * iv % P) := by
  apply List.ext_getElem
  · rw [mS_len, List.length_map]
  · intro j h1 h2
    have hj : j < fs.length := by rwa [mS_len] at h1
    have := mS_get iv P fs fs.length j (Nat.le_refl _)
    rw [if_pos hj] at this
    simp only [List.getD_eq_getElem?_getD, List.getElem?_eq_getElem h1, List.getElem?_eq_getElem hj, Option.getD_some] at this
    rw [this, List.getElem_map]
theorem invM_ltI (a m : Nat) (hm : 0 < m) : M1.invM a m < m := by
  unfold M1.invM
  cases h : (List.range m).find? (fun i => a * i % m == 1) with
  | none => exact hm
  | some i =>
    have := List.mem_of_find?_eq_some h
    simpa using this
theorem back_pos {N : Nat} (h : Sz4 N) (k : Nat) (h0 : 0 < k) (hk : k < N) : 0 < backN (lg N) k 0 := by
  have key : ∀ N ∈ [2, 4, 8, 16], ∀ k, k < N → 0 < k → 0 < backN (lg N) k 0 := by decide +kernel
  exact key N (by rcases h with rfl | rfl | rfl | rfl <;> decide) k hk h0
set_option maxRecDepth 100000 in
set_option maxHeartbeats 8000000 in
theorem impl_inverse0 (P N R : Nat) (xs : List Nat) (v : Value) (w : World) (hT : TabW w) (hv : Row w v (toZ xs)) (hP : 2 ≤ P ∧ P ≤ 268435456) (h : Sz4 N) (hR : R < P) (la : xs.length = N) (ha : ∀ x ∈ xs, x < P) :
    Calls Tryz.prog 189 #[.agg #[.int .i64 P, .int .i64 N, .int .i64 R], v] w fun e w' => ∃ v', e = .returned v' ∧ Old w w' ∧ Own w' w.heap.size v' (toZ ((isS P N R xs (lg N)).map (fun x => x * M1.invM (N % P) P % P))) := by
  obtain ⟨i0, hi, hz0, hz1, hz2⟩ := info_parts Tryz.infoInt
  have hs := sz_bd h
  obtain ⟨b0, o0, cap0, rfl, hb0, hc0⟩ := hv.atZ (by omega)
  rw [la] at hc0 ⊢
  have HC0 : Hid (∀ j, j < N → w.cell? ⟨b0, o0 + j, none⟩ = some (.int .i64 ((toZ xs).getD j 0))) := fun j hj => by rw [hc0 j hj, toZ_get]
  have hlx : (toZ xs).length = N := by rw [toZ_len, la]
  have HT : Hid (TabW w) := hT
  have cpw := fun W => impl_powers P N R W hP hs hR
  have cno := fun W (hT : TabW W) => impl_noughts N W h hT
  have RC0 : Hid (Rc (w.alloc (.cells #[.int .i64 P, .int .i64 N, .int .i64 R] 151)) w.heap.size P N R) := Rc.new w _ _ _
  clear hc0 hv hT
  go_enter Tryz.func189, Tryz.ntmps189
  go_wp2_with (first
    | (at_make; refine wpList_make_full _ rfl _ _ 23 rfl (w.heap.size + 1) 3 i0 (.int .i64 0) 1 Tryz.underlying23 hi hz0 hz1 .i64 .i64 _ _ N rfl rfl rfl rfl (by rw [hz2]; omega) (by unfold maxLen; omega) (by simp) ?_; intro w1 hown hgrow; have HO1 : Hid (OwnI w1 (w.heap.size + 1) (w.heap.size + 1) N (List.replicate N 0)) := (by have e : (w.alloc (.cells #[.int .i64 P, .int .i64 N, .int .i64 R] 151)).heap.size = w.heap.size + 1 := (by simp); rw [made_ints, e] at hown; exact hown); have HG1 : Hid (Old (w.alloc (.cells #[.int .i64 P, .int .i64 N, .int .i64 R] 151)) w1) := Old.by_ (Old.refl _) hgrow (fun b hb => by cases hb); clear hown hgrow)
    | ((with_reducible refine copy_row (w.heap.size + 1) (w.heap.size + 1) N b0 o0 cap0 (List.replicate N 0) (toZ xs) ?_ ?_ HO1.out ?_ hlx ?_ ?_); exact rfl; exact rfl; (simp); (intro j hj; exact ((Old.trans ((Old.refl w).alloc _) HG1.out).cell (p := ⟨b0, o0 + j, none⟩) hb0).trans (HC0.out j hj)); intro w2 ho2 hbe2; have HO2 : Hid (OwnI w2 (w.heap.size + 1) (w.heap.size + 1) N (toZ xs)) := ho2; have HG2 : Hid (Old (w.alloc (.cells #[.int .i64 P, .int .i64 N, .int .i64 R] 151)) w2) := Below.trans HG1.out (hbe2.mono (by simp)); clear ho2 hbe2))
  have hlg := lg_pow h
  obtain ⟨FS, HFZ', HFSS', hFN', hFL', hEnd⟩ : ∃ FS : Nat → List Nat, FS 0 = xs ∧ (∀ t, FS (t + 1) = ipS P N R t (FS t) (N / 2 ^ (t + 1))) ∧ (∀ t, (FS t).length = N) ∧ (∀ t, ∀ x ∈ FS t, x < P) ∧ isS P N R xs (lg N) = FS (lg N) :=
    ⟨isS P N R xs, rfl, fun _ => rfl, fun s => by rw [isS_len, la], fun s => isS_lt P N R xs (by omega) ha s, rfl⟩
  have HFZ : Hid (toZ (FS 0) = toZ xs) := by show _ = _; rw [HFZ']
  have HFSS : Hid (∀ t, FS (t + 1) = ipS P N R t (FS t) (N / 2 ^ (t + 1))) := HFSS'
  have hFN : Hid (∀ t, (FS t).length = N) := hFN'
  have hFL : Hid (∀ t, ∀ x ∈ FS t, x < P) := hFL'
  have HEnd : Hid (isS P N R xs (lg N) = FS (lg N)) := hEnd
  clear HFZ' HFSS' hFN' hFL' hEnd
  have HLS : Hid ((pwS P R (2 * N)).length = 32) := pwS_len P R (2 * N)
  have RC2 : Hid (Rc w2 w.heap.size P N R) := RC0.out.old HG2.out
  have HGw2 : Hid (Old w w2) := Old.trans ((Old.refl w).alloc _) HG2.out
  refine reg_i3 P N R (lg N) (pwS P R (2 * N)) w.heap.size w2 RC2 HLS cpw (fun W g => cno W (HT.out.old (Old.trans HGw2.out g))) _ _ _ _ _ _ _ _ _ _ _ _ _ _ _ _ _ _ _ _ _ _ _ _ _ _ _ _ _ _ _ _ _ _ _ _ _ _ _ _ _ _ _ _ _ _ _ _ _ _ _ _ _ _ _ _ _ _ _ _ _ _ _ _ _ _ _ _ _ _ _ _ _ _ _ _ _ _ _ _ _ _ ?_
  intro kp W u19 u20 u21 u22 u23 gW hPw hkp0
  have HPW : Hid (Pw W kp (pwS P R (2 * N))) := hPw
  have HOW : Hid (OwnI W (w.heap.size + 1) (w.heap.size + 1) N (toZ xs)) := HO2.out.old gW
  have HRW : Hid (Rc W w.heap.size P N R) := RC2.out.old gW
  have HGW : Hid (Old w W) := Old.trans HGw2.out gW
  have hkp : w.heap.size + 1 < kp := by
    have h1 := (World.ownsRow.lt HO2.out (w.heap.size + 1) rfl).2
    omega
  clear gW hPw hkp0 RC2 HGw2 HO2 HG2
  go_wp2_with fail
  go_loopw [25] (fun i V => ∃ t : Nat, t ≤ lg N ∧ i = .int .i64 t ∧ Hid (OwnI V (w.heap.size + 1) (w.heap.size + 1) N (toZ (FS t))) ∧ Hid (Pw V kp (pwS P R (2 * N))) ∧ Hid (Rc V w.heap.size P N R) ∧ Hid (Old w V)) (fun i _ => lg N - (intOf i).toNat)
  case atStart => exact ⟨0, by omega, rfl, (by show OwnI _ _ _ _ _; rw [HFZ.out]; exact HOW.out), HPW, HRW, HGW⟩
  case round =>
    obtain ⟨t, htl, rfl, HO5, HP5, HR5, HG5⟩ := hrel
    clear HOW HPW HRW HGW
    have z1 := HR5.out.c1
    have z0 := HR5.out.c0
    by_cases hlt : t < lg N
    · have d1 : decide ((t : Int) < ((lg N : Nat) : Int)) = true := by simp; omega
      obtain ⟨p1, p2, p3, p4⟩ := inv_parts h t hlt
      obtain ⟨FP, HF0', HFS', HFE', HFP', HFQ'⟩ : ∃ FP : Nat → List Nat, FP 0 = FS t ∧ (∀ J, FP (J + 1) = jnS P (R ^ (2 * N - backN (lg N) (N / 2 ^ (t + 1) + J) 0) % P) (J * (2 * 2 ^ t)) (2 ^ t) (FP J) (2 ^ t)) ∧ FP (N / 2 ^ (t + 1)) = FS (t + 1) ∧ (∀ J, (FP J).length = N) ∧ (∀ J, ∀ x ∈ FP J, x < P) :=
        ⟨ipS P N R t (FS t), rfl, fun J => rfl, (HFSS.out t).symm, fun J => by rw [ipS_len]; exact hFN.out t, fun J => ipS_lt P N R t _ (by omega) (hFL.out t) J⟩
      have hqi : (N : Int) / 2 ^ (t + 1) = ((N / 2 ^ (t + 1) : Nat) : Int) := by push_cast; rfl
      obtain ⟨q, hq⟩ : ∃ q, N / 2 ^ (t + 1) = q := ⟨_, rfl⟩
      obtain ⟨hh, hhh⟩ : ∃ hh, 2 ^ t = hh := ⟨_, rfl⟩
      rw [hq] at p1 p2 p3 hqi HFE'
      rw [hhh] at p1 p4
      have HFS : Hid (∀ J, toZ (FP (J + 1)) = toZ (jnS P (R ^ (2 * N - backN (lg N) (q + J) 0) % P) (J * (2 * hh)) hh (FP J) hh)) := fun J => by rw [HFS' J, hq, hhh]
      have HF0 : Hid (toZ (FP 0) = toZ (FS t)) := by show _ = _; rw [HF0']
      have HFE : Hid (toZ (FP q) = toZ (FS (t + 1))) := by show _ = _; rw [HFE']
      have HFP : Hid (∀ J, (FP J).length = N) := HFP'
      have HFQ : Hid (∀ J, ∀ x ∈ FP J, x < P) := HFQ'
      clear HF0' HFS' HFE' HFP' HFQ' hq hhh
      go_wp2_with fail
      try rw [hqi]
      clear hqi
      go_loopw [35] (fun j V => ∃ J : Nat, J ≤ q ∧ j = .int .i64 J ∧ Hid (OwnI V (w.heap.size + 1) (w.heap.size + 1) N (toZ (FP J))) ∧ Hid (Pw V kp (pwS P R (2 * N))) ∧ Hid (Rc V w.heap.size P N R) ∧ Hid (Old w V)) (fun j _ => q - (intOf j).toNat)
      case atStart => exact ⟨0, by omega, rfl, (by show OwnI _ _ _ _ _; rw [HF0.out]; exact HO5.out), HP5, HR5, HG5⟩
      case round =>
        obtain ⟨J, hJ, rfl, HO6, HP6, HR6, HG6⟩ := hrel
        clear HO5 HP5 HR5 HG5 z0 z1
        by_cases hjl : J < q
        · have d2 : decide ((J : Int) < (q : Int)) = true := by simp; omega
          have hNX := HFS.out J
          have hbl := back_lt0 h (q + J)
          have hbp := back_pos h (q + J) (by omega) (by omega)
          have hw0 : (pwS P R (2 * N)).getD (2 * N - backN (lg N) (q + J) 0) 0 = R ^ (2 * N - backN (lg N) (q + J) 0) % P := pwS_get P R (2 * N) _ (by omega) (by omega)
          have hwl : R ^ (2 * N - backN (lg N) (q + J) 0) % P < P := Nat.mod_lt _ (by omega)
          have hof : J * (2 * hh) + 2 * hh ≤ N := by
            have h1 : (J + 1) * (2 * hh) ≤ q * (2 * hh) := Nat.mul_le_mul_right _ hjl
            rw [Nat.add_mul, Nat.one_mul, p1] at h1
            exact h1
          have cpa := fun W => impl_partOf (w.heap.size + 1) N J q (2 * hh) W hs p1.symm (by omega) (by omega) hjl
          have cbb := fun W => impl_backN N (q + J) W h (by omega)
          have hgl : w.heap.size + 1 < wr.heap.size := (World.ownsRow.lt HO6.out (w.heap.size + 1) rfl).2
          have csp := impl_join P N R (R ^ (2 * N - backN (lg N) (q + J) 0) % P) (J * (2 * hh)) hh (N - J * (2 * hh)) (w.heap.size + 1) (w.heap.size + 1) (FP J) wr.drew hP hwl (by omega) hof (HO6.out.old (Below.drew (Old.refl wr))) hgl (HFP.out J) (HFQ.out J)
          rw [← hNX] at csp
          clear hNX
          generalize R ^ (2 * N - backN (lg N) (q + J) 0) % P = w0 at *
          generalize backN (lg N) (q + J) 0 = bb at *
          go_wp2_with fail
          refine reg_i11 P N R (lg N) q J bb w0 (pwS P R (2 * N)) (some ⟨w.heap.size + 1, 0, none⟩) (some ⟨w.heap.size + 1, J * (2 * hh), none⟩) (2 * hh) (N - J * (2 * hh)) w.heap.size kp wr HR6 HP6 (by omega) (by omega) hw0 (by omega) (by omega) cpa cbb (fun w' => wr.drew.grownBy w' (some (w.heap.size + 1)) ∧ OwnI w' (w.heap.size + 1) (w.heap.size + 1) N (toZ (FP (J + 1)))) csp _ _ _ _ _ _ _ _ _ _ _ _ _ _ _ _ _ _ _ _ _ _ _ _ _ _ _ _ _ _ _ _ _ _ _ _ _ _ _ _ _ _ _ _ _ _ _ _ _ _ _ _ _ _ _ _ _ _ _ _ _ _ _ _ _ _ _ _ _ _ _ _ _ _ _ _ _ ?_
          intro V u38 u39 u40 u41 u42 u43 u44 u45 u46 u47 u48 u49 u50 u51 u52 u53 u54 hPS
          have HO7 : Hid (OwnI V (w.heap.size + 1) (w.heap.size + 1) N (toZ (FP (J + 1)))) := hPS.2
          have HP7 : Hid (Pw V kp (pwS P R (2 * N))) := (HP6.out.old (Below.drew (Old.refl wr))).by_ hPS.1 (fun k hk => by cases hk; omega)
          have HR7 : Hid (Rc V w.heap.size P N R) := (HR6.out.old (Below.drew (Old.refl wr))).by_ hPS.1 (fun k hk => by cases hk; omega)
          have HG7 : Hid (Old w V) := Old.by_ (Below.drew HG6.out) hPS.1 (fun k hk => by cases hk; omega)
          clear hPS HO6 HP6 HR6 HG6
          go_wp2_with fail
          exact ⟨⟨J + 1, by omega, by go_num, HO7, HP7, HR7, HG7⟩, by simp [intOf]; omega⟩
        · have d2 : decide ((J : Int) < (q : Int)) = false := by simp; omega
          obtain rfl : J = q := by omega
          have HO8 : Hid (OwnI wr (w.heap.size + 1) (w.heap.size + 1) N (toZ (FS (t + 1)))) := by
            have := HO6.out
            rw [HFE.out] at this
            exact this
          go_wp2_with fail
          exact ⟨⟨t + 1, by omega, by go_num, HO8, HP6, HR6, HG6⟩, by simp [intOf]; omega⟩
    · have d1 : decide ((t : Int) < ((lg N : Nat) : Int)) = false := by simp; omega
      obtain rfl : t = lg N := by omega
      have ci := fun W => impl_InvMod_yes (N : Int) (P : Int) W (by omega) (decide_eq_true ⟨by omega, by omega⟩)
      have ei : ((N : Int) % (P : Int)).toNat = N % P := by rw [← Int.natCast_emod, Int.toNat_natCast]
      rw [ei, Int.toNat_natCast] at ci
      go_wp2_with fail
      refine (ci _).mono ?_
      rintro e w3 ⟨rfl, hw3⟩
      replace hw3 := hw3.symm
      subst hw3
      have hfl := hFN.out (lg N)
      have hft := hFL.out (lg N)
      have HFT : Hid (∀ j, (FS (lg N)).getD j 0 < P) := fun j => getD_lt hft (by omega) j
      have HFN : Hid ((FS (lg N)).length = N) := hfl
      have HME : Hid (toZ (mS (M1.invM (N % P) P) P (FS (lg N)) N) = toZ ((isS P N R xs (lg N)).map (fun x => x * M1.invM (N % P) P % P))) := by
        show _ = _
        have e3 := mS_all (M1.invM (N % P) P) P (FS (lg N))
        rw [hfl] at e3
        rw [HEnd.out, e3]
      have hil := invM_ltI (N % P) P (by omega)
      have HMG : Hid (∀ k j, k ≤ N → (mS (M1.invM (N % P) P) P (FS (lg N)) k).getD j 0 = if j < k then (FS (lg N)).getD j 0 * M1.invM (N % P) P % P else (FS (lg N)).getD j 0) := fun k j hk => mS_get _ _ _ k j (by omega)
      have HML : Hid (∀ k, (toZ (mS (M1.invM (N % P) P) P (FS (lg N)) k)).length = N) := fun k => by rw [toZ_len, mS_len, hfl]
      have HMS : Hid (∀ k, toZ (mS (M1.invM (N % P) P) P (FS (lg N)) (k + 1)) = (toZ (mS (M1.invM (N % P) P) P (FS (lg N)) k)).set k (((FS (lg N)).getD k 0 * M1.invM (N % P) P % P : Nat) : Int)) := fun k => by rw [mS, toZ_set]
      have HM0 : Hid (toZ (mS (M1.invM (N % P) P) P (FS (lg N)) 0) = toZ (FS (lg N))) := rfl
      clear hfl hft
      generalize mS (M1.invM (N % P) P) P (FS (lg N)) = MS at *
      generalize FS (lg N) = fs at *
      have HZZ : Hid (∃ zz, zz = toZ ((isS P N R xs (lg N)).map (fun x => x * M1.invM (N % P) P % P))) := ⟨_, rfl⟩
      obtain ⟨zz, hzz⟩ := HZZ.out
      rw [← hzz] at HME
      have HZE : Hid (zz = toZ ((isS P N R xs (lg N)).map (fun x => x * M1.invM (N % P) P % P))) := hzz
      clear hzz HZZ
      obtain ⟨iv, hiv⟩ : ∃ iv, M1.invM (N % P) P = iv := ⟨_, rfl⟩
      rw [hiv] at hil HMG HMS ⊢
      clear hiv
      go_wp2_with fail
      go_loopw [64] (fun i V => ∃ k : Nat, k ≤ N ∧ i = .int .i64 k ∧ Hid (OwnI V (w.heap.size + 1) (w.heap.size + 1) N (toZ (MS k))) ∧ Hid (Rc V w.heap.size P N R) ∧ Hid (Old w V)) (fun i _ => N - (intOf i).toNat)
      case atStart => exact ⟨0, by omega, rfl, (by show OwnI _ _ _ _ _; rw [HM0.out]; exact HO5.out), HR5, HG5⟩
      case round =>
        obtain ⟨k, hk, rfl, HO6, HR6, HG6⟩ := hrel
        clear HO5 HP5 HR5 HG5 z0 z1
        by_cases hkl : k < N
        · have d2 : decide ((k : Int) < (N : Int)) = true := by simp; omega
          have i1 : (k : Int) < (N : Int) := by omega
          have z0 := HR6.out.c0
          have c1 := HO6.out.get (HML.out k) k hkl
          rw [toZ_get, HMG.out k k hk, if_neg (by omega)] at c1
          have c2 := HO6.out.free k
          have hx := HFT.out k
          have HS := HMS.out k
          generalize fs.getD k 0 = x at *
          have b1 : x * iv ≤ 72057594037927936 := Nat.le_trans (Nat.mul_le_mul (show x ≤ 268435456 by omega) (show iv ≤ 268435456 by omega)) (by decide)
          have e1 : IntKind.i64.wrap ((x : Int) * (iv : Int)) = ((x * iv : Nat) : Int) := by rw [← Int.natCast_mul, IntKind.wrap_i64]; omega
          have e2 : Int.tmod ((x * iv : Nat) : Int) (P : Int) = ((x * iv % P : Nat) : Int) := by rw [Int.tmod_eq_emod_of_nonneg (by omega)]; rfl
          have hp0 : ¬ P = 0 := by omega
          generalize x * iv % P = y at *
          generalize x * iv = m at *
          have HO7 : Hid (OwnI (wr.setCell ⟨w.heap.size + 1, k, none⟩ (.int .i64 (y : Int))) (w.heap.size + 1) (w.heap.size + 1) N (toZ (MS (k + 1)))) := by
            show OwnI _ _ _ _ _
            rw [HS]
            exact HO6.out.put k _
          have HR7 : Hid (Rc (wr.setCell ⟨w.heap.size + 1, k, none⟩ (.int .i64 (y : Int))) w.heap.size P N R) := HR6.out.by_ (HO6.out.gby k _) (fun b hb => by injection hb with hb; omega)
          have HG7 : Hid (Old w (wr.setCell ⟨w.heap.size + 1, k, none⟩ (.int .i64 (y : Int)))) := HG6.out.own (p := ⟨w.heap.size + 1, k, none⟩) (by show _ ≤ w.heap.size + 1; omega) _
          clear HS
          go_wp2_with fail
          go_region
          all_goals
            go_wp2_with fail
            exact ⟨⟨k + 1, by omega, by go_num, HO7.out, HR7.out.old ((Old.refl _).drewN 1), HG7.out.drewN 1⟩, by simp [intOf]; omega⟩
        · have d2 : decide ((k : Int) < (N : Int)) = false := by simp; omega
          obtain rfl : k = N := by omega
          have HF : Hid (Own wr w.heap.size (.slice (some ⟨w.heap.size + 1, 0, none⟩) k k) (toZ ((isS P k R xs (lg k)).map (fun x => x * M1.invM (k % P) P % P)))) := by
            have := HO6.out.own (HML.out k)
            rw [HME.out, HZE.out] at this
            exact this.low (by omega)
          go_wp2_with fail
          go_ret
          exact ⟨_, rfl, HG6.out, HF.out⟩
end Go.Proofs.YtfgooclnohnkmaaGreatDoor
