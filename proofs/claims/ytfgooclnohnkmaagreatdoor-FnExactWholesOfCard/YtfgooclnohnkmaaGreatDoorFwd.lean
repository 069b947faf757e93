/- Proved: the contract of the program's forward. -/
import Derived.Test.YtfgooclnohnkmaaGreatDoorFwr
import Derived.Test.YtfgooclnohnkmaaGreatDoorCopy
import Derived.Test.YtfgooclnohnkmaaGreatDoorMnttc
namespace Go.Proofs.YtfgooclnohnkmaaGreatDoor
open Go.ChangeShapes Go.WideShapes Go.ChangeAt Go.RowKit
set_option linter.unusedVariables false
set_option linter.unusedSimpArgs false
theorem two_lt {s L : Nat} (h : s < L) : 2 ^ s * 2 ≤ 2 ^ L := by
  rw [← Nat.pow_succ]
  exact Nat.pow_le_pow_right (by omega) h
set_option maxRecDepth 100000 in
set_option maxHeartbeats 8000000 in
theorem impl_forward (P N R : Nat) (xs : List Nat) (v : Value) (w : World) (hT : TabW w) (hv : Row w v (toZ xs)) (hP : 2 ≤ P ∧ P ≤ 268435456) (h : Sz4 N) (hR : R < P) (la : xs.length = N) (ha : ∀ x ∈ xs, x < P) :
    Calls Tryz.prog 197 #[.agg #[.int .i64 P, .int .i64 N, .int .i64 R], v] w fun e w' => ∃ v', e = .returned v' ∧ Old w w' ∧ Own w' w.heap.size v' (toZ (fsS P N R xs (lg N))) := by
  obtain ⟨i0, hi, hz0, hz1, hz2⟩ := info_parts Tryz.infoInt
  have hs := sz_bd h
  obtain ⟨b0, o0, cap0, rfl, hb0, hc0⟩ := hv.atZ (by omega)
  rw [la] at hc0 ⊢
  have HC0 : Hid (∀ j, j < N → w.cell? ⟨b0, o0 + j, none⟩ = some (.int .i64 ((toZ xs).getD j 0))) := fun j hj => by rw [hc0 j hj, toZ_get]
  have hlx : (toZ xs).length = N := by rw [toZ_len, la]
  have HT : Hid (TabW w) := hT
  have cpw := fun W => impl_powers P N R W hP hs hR
  have cno := fun W (hT : TabW W) => impl_noughts N W h hT
  have RC0 : Hid (Rc (w.alloc (.cells #[.int .i64 P, .int .i64 N, .int .i64 R] 151)) w.heap.size P N R) := Rc.new w _ _ _
  clear hc0 hv hT
  go_enter Tryz.func197, Tryz.ntmps197
  go_wp2_with (first
    | (at_make; refine wpList_make_full _ rfl _ _ 23 rfl (w.heap.size + 1) 3 i0 (.int .i64 0) 1 Tryz.underlying23 hi hz0 hz1 .i64 .i64 _ _ N rfl rfl rfl rfl (by rw [hz2]; omega) (by unfold maxLen; omega) (by simp) ?_; intro w1 hown hgrow; have HO1 : Hid (OwnI w1 (w.heap.size + 1) (w.heap.size + 1) N (List.replicate N 0)) := (by have e : (w.alloc (.cells #[.int .i64 P, .int .i64 N, .int .i64 R] 151)).heap.size = w.heap.size + 1 := (by simp); rw [made_ints, e] at hown; exact hown); have HG1 : Hid (Old (w.alloc (.cells #[.int .i64 P, .int .i64 N, .int .i64 R] 151)) w1) := Old.by_ (Old.refl _) hgrow (fun b hb => by cases hb); clear hown hgrow)
    | ((with_reducible refine copy_row (w.heap.size + 1) (w.heap.size + 1) N b0 o0 cap0 (List.replicate N 0) (toZ xs) ?_ ?_ HO1.out ?_ hlx ?_ ?_); exact rfl; exact rfl; (simp); (intro j hj; exact ((Old.trans ((Old.refl w).alloc _) HG1.out).cell (p := ⟨b0, o0 + j, none⟩) hb0).trans (HC0.out j hj)); intro w2 ho2 hbe2; have HO2 : Hid (OwnI w2 (w.heap.size + 1) (w.heap.size + 1) N (toZ xs)) := ho2; have HG2 : Hid (Old (w.alloc (.cells #[.int .i64 P, .int .i64 N, .int .i64 R] 151)) w2) := Below.trans HG1.out (hbe2.mono (by simp)); clear ho2 hbe2))
  have hlg := lg_pow h
  obtain ⟨FS, HFZ', HFSS', hFN', hFL', hEnd⟩ : ∃ FS : Nat → List Nat, FS 0 = xs ∧ (∀ s, FS (s + 1) = fpS P N R s (FS s) (2 ^ s)) ∧ (∀ s, (FS s).length = N) ∧ (∀ s, ∀ x ∈ FS s, x < P) ∧ fsS P N R xs (lg N) = FS (lg N) :=
    ⟨fsS P N R xs, rfl, fun _ => rfl, fun s => by rw [fsS_len, la], fun s => fsS_lt P N R xs (by omega) ha s, rfl⟩
  have HFZ : Hid (toZ (FS 0) = toZ xs) := by show _ = _; rw [HFZ']
  have HFSS : Hid (∀ s, FS (s + 1) = fpS P N R s (FS s) (2 ^ s)) := HFSS'
  have hFN : Hid (∀ s, (FS s).length = N) := hFN'
  have hFL : Hid (∀ s, ∀ x ∈ FS s, x < P) := hFL'
  have HEnd : Hid (fsS P N R xs (lg N) = FS (lg N)) := hEnd
  clear HFZ' HFSS' hFN' hFL' hEnd
  have HLS : Hid ((pwS P R (2 * N)).length = 32) := pwS_len P R (2 * N)
  have RC2 : Hid (Rc w2 w.heap.size P N R) := RC0.out.old HG2.out
  have HGw2 : Hid (Old w w2) := Old.trans ((Old.refl w).alloc _) HG2.out
  refine reg_f3 P N R (lg N) (pwS P R (2 * N)) w.heap.size w2 RC2 HLS cpw (fun W g => cno W (HT.out.old (Old.trans HGw2.out g))) _ _ _ _ _ _ _ _ _ _ _ _ _ _ _ _ _ _ _ _ _ _ _ _ _ _ _ _ _ _ _ _ _ _ _ _ _ _ _ _ _ _ _ _ _ _ _ _ _ _ ?_
  intro kp W u17 u18 u19 u20 u21 gW hPw hkp0
  have HPW : Hid (Pw W kp (pwS P R (2 * N))) := hPw
  have HOW : Hid (OwnI W (w.heap.size + 1) (w.heap.size + 1) N (toZ xs)) := HO2.out.old gW
  have HRW : Hid (Rc W w.heap.size P N R) := RC2.out.old gW
  have HGW : Hid (Old w W) := Old.trans HGw2.out gW
  have hkp : w.heap.size + 1 < kp := by
    have h1 := (World.ownsRow.lt HO2.out (w.heap.size + 1) rfl).2
    omega
  clear gW hPw hkp0 RC2 HGw2 HO2 HG2
  go_wp2_with fail
  go_loopw [23] (fun i V => ∃ s : Nat, s ≤ lg N ∧ i = .int .i64 s ∧ Hid (OwnI V (w.heap.size + 1) (w.heap.size + 1) N (toZ (FS s))) ∧ Hid (Pw V kp (pwS P R (2 * N))) ∧ Hid (Rc V w.heap.size P N R) ∧ Hid (Old w V)) (fun i _ => lg N - (intOf i).toNat)
  case atStart => exact ⟨0, by omega, rfl, (by show OwnI _ _ _ _ _; rw [HFZ.out]; exact HOW.out), HPW, HRW, HGW⟩
  case round =>
    obtain ⟨s, hsl, rfl, HO5, HP5, HR5, HG5⟩ := hrel
    clear HOW HPW HRW HGW
    by_cases hlt : s < lg N
    · have d1 : decide ((s : Int) < ((lg N : Nat) : Int)) = true := by simp; omega
      obtain ⟨hh, e1, e2, e3, e4⟩ := halves h s hlt
      have hwp := wrap_pow s (by omega)
      have h2s := two_lt hlt
      rw [hlg.1] at h2s
      obtain ⟨FP, HF0', HFS', HFE', HFP', HFQ'⟩ : ∃ FP : Nat → List Nat, FP 0 = FS s ∧ (∀ J, FP (J + 1) = spS P (R ^ (backN (lg N) (2 ^ s + J) 0) % P) (J * (2 * hh)) hh (FP J) hh) ∧ FP (2 ^ s) = FS (s + 1) ∧ (∀ J, (FP J).length = N) ∧ (∀ J, ∀ x ∈ FP J, x < P) :=
        ⟨fpS P N R s (FS s), rfl, fun J => by rw [fpS, e1, show 2 * hh / 2 = hh by omega], (HFSS.out s).symm, fun J => by rw [fpS_len]; exact hFN.out s, fun J => fpS_lt P N R s _ (by omega) (hFL.out s) J⟩
      have HF0 : Hid (toZ (FP 0) = toZ (FS s)) := by show _ = _; rw [HF0']
      have HFS : Hid (∀ J, toZ (FP (J + 1)) = toZ (spS P (R ^ (backN (lg N) (2 ^ s + J) 0) % P) (J * (2 * hh)) hh (FP J) hh)) := fun J => by rw [HFS' J]
      have HFE : Hid (toZ (FP (2 ^ s)) = toZ (FS (s + 1))) := by show _ = _; rw [HFE']
      have HFP : Hid (∀ J, (FP J).length = N) := HFP'
      have HFQ : Hid (∀ J, ∀ x ∈ FP J, x < P) := HFQ'
      clear HF0' HFS' HFE' HFP' HFQ'
      obtain ⟨q, hq⟩ : ∃ q, 2 ^ s = q := ⟨_, rfl⟩
      rw [hq] at hwp h2s e2 HFE
      have HQQ : Hid (2 ^ s = q) := hq
      clear e1 e4
      go_wp2_with fail
      rw [hwp]
      clear hwp hq
      go_loopw [30] (fun j V => ∃ J : Nat, J ≤ q ∧ j = .int .i64 J ∧ Hid (OwnI V (w.heap.size + 1) (w.heap.size + 1) N (toZ (FP J))) ∧ Hid (Pw V kp (pwS P R (2 * N))) ∧ Hid (Rc V w.heap.size P N R) ∧ Hid (Old w V)) (fun j _ => q - (intOf j).toNat)
      case atStart => exact ⟨0, by omega, rfl, (by show OwnI _ _ _ _ _; rw [HF0.out]; exact HO5.out), HP5, HR5, HG5⟩
      case round =>
        obtain ⟨J, hJ, rfl, HO6, HP6, HR6, HG6⟩ := hrel
        clear HO5 HP5 HR5 HG5
        by_cases hjl : J < q
        · have d2 : decide ((J : Int) < (q : Int)) = true := by simp; omega
          have hNX := HFS.out J
          rw [HQQ.out] at hNX
          have hbl := back_lt0 h (q + J)
          have hw0 : (pwS P R (2 * N)).getD (backN (lg N) (q + J) 0) 0 = R ^ (backN (lg N) (q + J) 0) % P := pwS_get P R (2 * N) _ (by omega) (by omega)
          have hwl : R ^ (backN (lg N) (q + J) 0) % P < P := Nat.mod_lt _ (by omega)
          have hof : J * (2 * hh) + 2 * hh ≤ N := by
            have h1 : (J + 1) * (2 * hh) ≤ q * (2 * hh) := Nat.mul_le_mul_right _ hjl
            rw [Nat.add_mul, Nat.one_mul, e2] at h1
            exact h1
          have cpa := fun W => impl_partOf (w.heap.size + 1) N J q (2 * hh) W hs e2.symm (by omega) (by omega) hjl
          have cbb := fun W => impl_backN N (q + J) W h (by omega)
          have hgl : w.heap.size + 1 < wr.heap.size := (World.ownsRow.lt HO6.out (w.heap.size + 1) rfl).2
          have csp := impl_split P N R (R ^ (backN (lg N) (q + J) 0) % P) (J * (2 * hh)) hh (N - J * (2 * hh)) (w.heap.size + 1) (w.heap.size + 1) (FP J) wr.drew hP hwl (by omega) hof (HO6.out.old (Below.drew (Old.refl wr))) hgl (HFP.out J) (HFQ.out J)
          rw [← hNX] at csp
          clear hNX
          generalize R ^ (backN (lg N) (q + J) 0) % P = w0 at *
          generalize backN (lg N) (q + J) 0 = bb at *
          go_wp2_with fail
          refine reg_f11 P N R (lg N) q J bb w0 (pwS P R (2 * N)) (some ⟨w.heap.size + 1, 0, none⟩) (some ⟨w.heap.size + 1, J * (2 * hh), none⟩) (2 * hh) (N - J * (2 * hh)) w.heap.size kp wr HR6 HP6 (by omega) hw0 (by omega) cpa cbb (fun w' => wr.drew.grownBy w' (some (w.heap.size + 1)) ∧ OwnI w' (w.heap.size + 1) (w.heap.size + 1) N (toZ (FP (J + 1)))) csp _ _ _ _ _ _ _ _ _ _ _ _ _ _ _ _ _ _ _ _ _ _ _ _ _ _ _ _ _ _ _ _ _ _ _ _ _ _ _ _ _ _ _ _ _ ?_
          intro V u33 u34 u35 u36 u37 u38 u39 u40 u41 u42 u43 u44 u45 hPS
          have HO7 : Hid (OwnI V (w.heap.size + 1) (w.heap.size + 1) N (toZ (FP (J + 1)))) := hPS.2
          have HP7 : Hid (Pw V kp (pwS P R (2 * N))) := (HP6.out.old (Below.drew (Old.refl wr))).by_ hPS.1 (fun k hk => by cases hk; omega)
          have HR7 : Hid (Rc V w.heap.size P N R) := (HR6.out.old (Below.drew (Old.refl wr))).by_ hPS.1 (fun k hk => by cases hk; omega)
          have HG7 : Hid (Old w V) := Old.by_ (Below.drew HG6.out) hPS.1 (fun k hk => by cases hk; omega)
          clear hPS HO6 HP6 HR6 HG6
          go_wp2_with fail
          exact ⟨⟨J + 1, by omega, by go_num, HO7, HP7, HR7, HG7⟩, by simp [intOf]; omega⟩
        · have d2 : decide ((J : Int) < (q : Int)) = false := by simp; omega
          obtain rfl : J = q := by omega
          have HO8 : Hid (OwnI wr (w.heap.size + 1) (w.heap.size + 1) N (toZ (FS (s + 1)))) := by
            have := HO6.out
            rw [HFE.out] at this
            exact this
          go_wp2_with fail
          exact ⟨⟨s + 1, by omega, by go_num, HO8, HP6, HR6, HG6⟩, by simp [intOf]; omega⟩
    · have d1 : decide ((s : Int) < ((lg N : Nat) : Int)) = false := by simp; omega
      obtain rfl : s = lg N := by omega
      have HF : Hid (Own wr (w.heap.size + 1) (.slice (some ⟨w.heap.size + 1, 0, none⟩) N N) (toZ (fsS P N R xs (lg N)))) := by rw [HEnd.out]; exact HO5.out.own (by rw [toZ_len]; exact hFN.out _)
      go_wp2_with fail
      go_ret
      exact ⟨_, rfl, HG5.out, HF.out.low (by omega)⟩
end Go.Proofs.YtfgooclnohnkmaaGreatDoor
