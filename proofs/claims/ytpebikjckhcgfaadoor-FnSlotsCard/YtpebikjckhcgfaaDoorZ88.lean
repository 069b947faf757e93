/- Proved: several texts in one: what each proves is said ahead of it. -/
import Derived.Test.YtpebikjckhcgfaaDoorZ04
import Derived.Test.YtpebikjckhcgfaaDoorZ43
import Derived.Deep.RegionWith
/- Proved: a region that draws its order but for its last operations, which wait for all ahead of them; no function of the program. -/
namespace Go.Proofs.YtpebikjckhcgfaaDoor
open Go.ChangeShapes Go.WideShapes Go.ChangeAt Go.RowKit
set_option linter.unusedSimpArgs false
set_option linter.unusedVariables false
/-- operations one behind the other -/
def tailWp (P : Program) (Q : Exit → Act → World → Prop) : List Oper → Act → World → Prop
  | [], a, W => Q .normal a W
  | o :: os, a, W => o.wp P a W (fun a' W' => tailWp P Q os a' W') Q
theorem wp_region_tail {P : Program} {id : Nat} {l : List Oper} {Q : Exit → Act → World → Prop} {a0 : Act} {w0 : World} (n : Nat) (hn : n < l.length) (hm : P.follows .mixedOrders = true)
    (hord : (List.range l.toArray.size).all (fun i => ((l.toArray[i]?).map (fun o => o.after.all fun e => !Region.binds .any e || decide (e.on < i))).getD true) = true)
    (hg : l.all (fun o => o.guard.isNone) = true)
    (hall : (List.range n).all (fun i => (closS l.toArray n n (depsO l.toArray n)).contains i) = true)
    (hch : (List.range l.length).all (fun k => decide (k ≤ n) || (depsO l.toArray k).contains (k - 1)) = true)
    (slot : Nat → Nat) (hslot : ∀ i, i < n → slot i < a0.tmps.size) (hinj : ∀ i j, i < n → j < n → slot i = slot j → i = j)
    (Qs : Nat → World → Value → Prop) (hQ : ∀ i W W' v, Qs i W v → Old W W' → Qs i W' v)
    (hstep : StepsO P Q w0 n slot a0 Qs 0 (l.take n))
    (hturn : ∀ a W, Old w0 W → Fram n slot a0 a → (∀ i, i < n → Qs i W (a.eval (.tmp (slot i)))) → tailWp P Q (l.drop n) a W) :
    (Code.region id l.toArray true).wp P Q a0 w0 := by
  have hsz : l.toArray.size = l.length := by simp
  have hon : ∀ i o, l.toArray[i]? = some o → ∀ e ∈ o.after.toList, Region.binds .any e = true → e.on < i := by
    intro i o ho e he hb
    have hi : i < l.toArray.size := (Array.getElem?_eq_some_iff.1 ho).1
    have h1 := List.all_eq_true.1 hord i (by simpa using hi)
    rw [ho] at h1
    simp only [Option.map_some, Option.getD_some] at h1
    rw [Array.all_eq_true'] at h1
    have h2 := h1 e (by simpa using he)
    rw [hb] at h2
    simpa using h2
  have hdrop : ∀ k o, l.toArray[k]? = some o → l.drop k = o :: l.drop (k + 1) := fun k o ho => by
    have h1 : k < l.length := by have := (Array.getElem?_eq_some_iff.1 ho).1; omega
    rw [List.drop_eq_getElem_cons h1]
    have : l[k]? = some o := by simpa using ho
    rw [List.getElem?_eq_getElem h1] at this
    rw [Option.some.inj this]
  let I : (Nat → Bool) → Act → World → Prop := fun d a W => Done l.toArray d ∧
    (d n = false → (∀ k, n < k → d k = false) ∧ Old w0 W ∧ Fram n slot a0 a ∧ ∀ i, i < n → d i = true → Qs i W (a.eval (.tmp (slot i)))) ∧
    (d n = true → ∃ k, n < k ∧ k ≤ l.length ∧ (∀ i, i < k → d i = true) ∧ (∀ i, k ≤ i → d i = false) ∧ tailWp P Q (l.drop k) a W)
  refine wp_region_inv hm I hord ⟨(fun i h => by cases h), (fun _ => ⟨(fun k _ => rfl), Below.drew (Old.refl w0), ⟨rfl, rfl, fun _ _ => rfl⟩, (fun i _ h => by cases h)⟩), (fun h => by cases h)⟩ ?_ ?_
  · intro i o ho d a W hI hdi hd
    have hgn := List.all_eq_true.1 hg o (List.mem_of_getElem? (by simpa using ho))
    have hw : Region.wanted o (yielded l.toArray a.tmps) = true := by
      cases h : o.guard with
      | none => simp [Region.wanted, h]
      | some g => rw [h] at hgn; cases hgn
    rw [if_pos hw]
    have hi : i < l.length := by
      have := (Array.getElem?_eq_some_iff.1 ho).1
      omega
    obtain ⟨hC, hA, hB⟩ := hI
    have hC' := hC.upd ho hd
    rcases Nat.lt_trichotomy i n with h1 | h1 | h1
    · cases hdn : d n with
      | true =>
        obtain ⟨k, k1, k2, k3, k4, _⟩ := hB hdn
        have := k3 i (by omega)
        rw [this] at hdi
        cases hdi
      | false =>
        obtain ⟨hf0, g, hF, hq⟩ := hA hdn
        have key : ∀ (m : List Oper) (k : Nat), StepsO P Q w0 n slot a0 Qs k m → ∀ (j : Nat) (o : Oper), m[j]? = some o → ∀ (a : Act) (W : World), Old w0 W → Fram n slot a0 a → (∀ e ∈ o.after.toList, Region.binds .any e = true → Qs e.on W (a.eval (.tmp (slot e.on)))) → o.wp P a W (fun a' W' => ∃ v, a' = a.put (some (slot (k + j))) v ∧ Old W W' ∧ Qs (k + j) W' v) Q := by
          intro m
          induction m with
          | nil => intro k _ j o h; simp at h
          | cons x m ih =>
            intro k hs j o hj
            cases j with
            | zero =>
              simp at hj
              subst hj
              exact hs.1
            | succ j =>
              have := ih (k + 1) hs.2 j o (by simpa using hj)
              rw [show k + 1 + j = k + (j + 1) by omega] at this
              exact this
        have hst := key (l.take n) 0 hstep i o (by rw [List.getElem?_take, if_pos h1]; simpa using ho) a W g hF (fun e he hb => hq e.on (by have := hon i o ho e he hb; omega) (hd e he hb))
        rw [Nat.zero_add] at hst
        refine Oper.wp_mono ?_ hst
        rintro a' W' ⟨v, rfl, g', hv⟩
        refine ⟨hC', (fun _ => ⟨(fun k hk => by rw [upd_other d (by omega)]; exact hf0 k hk), Old.trans g g', ⟨by simp [Act.put, hF.size], by simp [Act.put, hF.defers], fun s hs => by rw [eval_put_other _ _ _ _ (hs i h1)]; exact hF.same s hs⟩, (fun j hj hdj => ?_)⟩), (fun h => by rw [upd_other d (by omega), hdn] at h; cases h)⟩
        by_cases hji : j = i
        · subst hji
          rw [eval_put_same _ _ _ (by rw [hF.size]; exact hslot j h1)]
          exact hv
        · rw [eval_put_other _ _ _ _ (fun e => hji (hinj i j h1 hj e).symm)]
          rw [upd_other d hji] at hdj
          exact hQ j W W' _ (hq j hj hdj) g'
    · subst h1
      obtain ⟨hf0, g, hF, hq⟩ := hA hdi
      have hpre : ∀ j, j < i → d j = true := fun j hj => by
        have h2 := List.all_eq_true.1 hall j (by simpa using hj)
        exact closS_done hC i _ (fun s hs => by
          obtain ⟨e, e1, e2, e3⟩ := (mem_depsO ho s).1 hs
          rw [← e3]
          exact hd e e1 e2) j (by simpa using h2)
      have ht := hturn a W g hF (fun j hj => hq j hj (hpre j hj))
      rw [hdrop i o ho] at ht
      refine Oper.wp_mono ?_ ht
      intro a' W' hv
      refine ⟨hC', (fun h => by rw [upd_same] at h; cases h), (fun _ => ⟨i + 1, by omega, by omega, (fun j hj => ?_), (fun j hj => ?_), hv⟩)⟩
      · by_cases hji : j = i
        · subst hji; exact upd_same d j
        · rw [upd_other d hji]; exact hpre j (by omega)
      · rw [upd_other d (by omega)]; exact hf0 j (by omega)
    · have hprev : d (i - 1) = true := by
        have h2 := List.all_eq_true.1 hch i (by simpa using hi)
        rw [Bool.or_eq_true] at h2
        rcases h2 with h2 | h2
        · have := of_decide_eq_true h2; omega
        · obtain ⟨e, e1, e2, e3⟩ := (mem_depsO ho (i - 1)).1 (by simpa using h2)
          rw [← e3]
          exact hd e e1 e2
      have hdn : d n = true := by
        cases hdn : d n with
        | true => rfl
        | false =>
          rcases Nat.lt_or_ge n (i - 1) with h3 | h3
          · have := (hA hdn).1 (i - 1) h3
            rw [this] at hprev
            cases hprev
          · have : i - 1 = n := by omega
            rw [this, hdn] at hprev
            cases hprev
      obtain ⟨k, k1, k2, k3, k4, k5⟩ := hB hdn
      have hik : i = k := by
        rcases Nat.lt_trichotomy i k with h3 | h3 | h3
        · have := k3 i h3
          rw [this] at hdi
          cases hdi
        · exact h3
        · have := k4 (i - 1) (by omega)
          rw [this] at hprev
          cases hprev
      subst hik
      rw [hdrop i o ho] at k5
      refine Oper.wp_mono ?_ k5
      intro a' W' hv
      refine ⟨hC', (fun h => by rw [upd_other d (by omega), hdn] at h; cases h), (fun _ => ⟨i + 1, by omega, by omega, (fun j hj => ?_), (fun j hj => ?_), hv⟩)⟩
      · by_cases hji : j = i
        · subst hji; exact upd_same d j
        · rw [upd_other d hji]; exact k3 j (by omega)
      · rw [upd_other d (by omega)]; exact k4 j (by omega)
  · intro d a W hd hI
    obtain ⟨_, _, hB⟩ := hI
    obtain ⟨k, k1, k2, k3, k4, k5⟩ := hB (hd n (by omega))
    have hk : k = l.length := by
      rcases Nat.lt_or_ge k l.length with h | h
      · have h1 := k4 k (Nat.le_refl _)
        rw [hd k (by omega)] at h1
        cases h1
      · omega
    rw [hk, List.drop_length] at k5
    exact k5
end Go.Proofs.YtpebikjckhcgfaaDoor
/- Proved: a polynomial turned, by the program and by the model: the same places are filled with the same numbers. -/
namespace Go.Proofs.YtpebikjckhcgfaaDoor
open Go.ChangeShapes Go.WideShapes Go.ChangeAt Go.RowKit
set_option linter.unusedVariables false
/-- what has been filled behind k numbers -/
def trnS (P N t : Nat) (xs : List Nat) : Nat → List Int
  | 0 => List.replicate N 0
  | k + 1 => if k * t % (2 * N) < N then (trnS P N t xs k).set (k * t % (2 * N)) ((xs.getD k 0 : Nat) : Int) else (trnS P N t xs k).set (k * t % (2 * N) - N) ((-((xs.getD k 0 : Nat) : Int)) % (P : Int))
theorem trnS_len (P N t : Nat) (xs : List Nat) : ∀ k, (trnS P N t xs k).length = N
  | 0 => by simp [trnS]
  | k + 1 => by
    unfold trnS
    split <;> rw [List.length_set, trnS_len P N t xs k]
theorem trnS_lo (P N t : Nat) (xs : List Nat) (k e : Nat) (he : k * t % (2 * N) = e) (h : e < N) : trnS P N t xs (k + 1) = (trnS P N t xs k).set e ((xs.getD k 0 : Nat) : Int) := by
  subst he
  rw [trnS, if_pos h]
theorem trnS_hi (P N t : Nat) (xs : List Nat) (k e : Nat) (he : k * t % (2 * N) = e) (h : ¬ e < N) : trnS P N t xs (k + 1) = (trnS P N t xs k).set (e - N) ((-((xs.getD k 0 : Nat) : Int)) % (P : Int)) := by
  subst he
  rw [trnS, if_neg h]
theorem kt_bd (k t N : Nat) (hk : k < N) (hN : N ≤ 16) (ht : t < 2 * N) : k * t ≤ 512 := by
  have := Nat.mul_le_mul (show k ≤ 16 by omega) (show t ≤ 32 by omega)
  omega
end Go.Proofs.YtpebikjckhcgfaaDoor
/- Proved: a polynomial turned, by the program and by the model: the same places are filled with the same numbers. -/
namespace Go.Proofs.YtpebikjckhcgfaaDoor
open Go.ChangeShapes Go.WideShapes Go.ChangeAt Go.RowKit
set_option linter.unusedVariables false
set_option maxRecDepth 100000 in
set_option maxHeartbeats 800000 in
theorem spec_turned (P N R t : Nat) (xs : List Nat) (v : Value) (w : World) (hv : Row w v (toZ xs)) (hP : 2 ≤ P ∧ P ≤ 268435456) (hN : 2 ≤ N ∧ N ≤ 16) (la : xs.length = N) (ha : ∀ x ∈ xs, x < P) (ht : t < 2 * N) :
    Calls Tryd.prog 81 #[.int .i64 P, .int .i64 N, v, .int .i64 t] w fun e w' => ∃ v', e = .returned v' ∧ Old w w' ∧ Own w' w.heap.size v' (trnS P N t xs N) := by
  obtain ⟨i0, hi, hz0, hz1, hz2⟩ := info_parts Tryd.infoInt
  obtain ⟨b1, o1, cap1, rfl, hb1, hc1⟩ := hv.atZ (by omega)
  rw [la] at hc1 ⊢
  have HC1 : Hid (∀ j, j < N → w.cell? ⟨b1, o1 + j, none⟩ = some (.int .i64 ((xs.getD j 0 : Nat) : Int))) := hc1
  have HA : Hid (∀ k, xs.getD k 0 < P) := fun k => getD_lt ha (by omega) k
  have HLO : Hid (∀ k e, k * t % (2 * N) = e → e < N → trnS P N t xs (k + 1) = (trnS P N t xs k).set e ((xs.getD k 0 : Nat) : Int)) := fun k e he h => trnS_lo P N t xs k e he h
  have HHI : Hid (∀ k e, k * t % (2 * N) = e → ¬ e < N → trnS P N t xs (k + 1) = (trnS P N t xs k).set (e - N) ((-((xs.getD k 0 : Nat) : Int)) % (P : Int))) := fun k e he h => trnS_hi P N t xs k e he h
  have HL : Hid (∀ k, (trnS P N t xs k).length = N) := fun k => trnS_len P N t xs k
  have H0 : Hid (trnS P N t xs 0 = List.replicate N 0) := rfl
  generalize trnS P N t xs = F at *
  clear hc1 hv la ha
  have hpn : ¬ (2 * (N : Int)) = 0 := by omega
  have hpn2 : ¬ N = 0 := by omega
  go_enter Tryd.func81, Tryd.ntmps81
  go_wp2_with (at_make; refine wpList_make_full _ rfl _ _ 23 rfl (w.heap.size) 3 i0 (.int .i64 0) 1 Tryd.underlying23 hi hz0 hz1 .i64 .i64 _ _ N rfl rfl rfl rfl (by rw [hz2]; omega) (by unfold maxLen; omega) (by simp) ?_; intro w1 hown hgrow; skip)
  have HO : Hid (OwnI w1 (w.heap.size) (w.heap.size) N (F 0)) := by
    rw [made_ints] at hown
    show OwnI _ _ _ _ _
    rw [H0.out]
    exact hown
  have HG : Hid (Old w w1) := Old.by_ (Old.refl _) hgrow (fun b hb => by cases hb)
  clear hown hgrow
  go_loopw [10, 11, 12, 17] (fun x y z i W => ∃ k : Nat, k ≤ N ∧ i = .int .i64 k ∧ Hid (OwnI W (w.heap.size) (w.heap.size) N (F k)) ∧ Hid (Old w W)) (fun _ _ _ i _ => N - (intOf i).toNat)
  case atStart => exact ⟨0, by omega, rfl, HO, HG⟩
  case round =>
    obtain ⟨k, hk, rfl, HO1, HG2⟩ := hrel
    clear HO HG
    have HG1 : Hid (Old w wr) := HG2.out
    by_cases hlt : k < N
    · have d1 : decide ((k : Int) < (N : Int)) = true := by simp; omega
      have i1 : (k : Int) < (N : Int) := by omega
      have c1 : wr.cell? ⟨b1, o1 + k, none⟩ = some (.int .i64 ((xs.getD k 0 : Nat) : Int)) := (HG1.out.cell (p := ⟨b1, o1 + k, none⟩) hb1).trans (HC1.out k hlt)
      have hx := HA.out k
      have hkt := kt_bd k t N hlt hN.2 ht
      have e1 : (k : Int) * (t : Int) = ((k * t : Nat) : Int) := by simp
      have he : k * t % (2 * N) < 2 * N := Nat.mod_lt _ (by omega)
      have e2 : ((k * t : Nat) : Int) % (2 * (N : Int)) = ((k * t % (2 * N) : Nat) : Int) := by simp
      have HLO1 := fun h => HLO.out k _ rfl h
      have HHI1 := fun h => HHI.out k _ rfl h
      have hlen := HL.out k
      generalize xs.getD k 0 = x at *
      generalize k * t = m at *
      generalize m % (2 * N) = e at *
      by_cases hlo : e < N
      · have d2 : decide ((e : Int) < (N : Int)) = true := by simp; omega
        have i2 : (e : Int) < (N : Int) := by omega
        have HS : Hid (F (k + 1) = (F k).set e (x : Int)) := HLO1 hlo
        clear HLO1 HHI1
        have c3 := HO1.out.get hlen e hlo
        have c4 := HO1.out.free e
        generalize (F k).getD e 0 = oldv at *
        have HP : Hid (OwnI (wr.setCell ⟨w.heap.size, e, none⟩ (.int .i64 (x : Int))) (w.heap.size) (w.heap.size) N (F (k + 1))) := by
          show OwnI _ _ _ _ _
          rw [HS.out]
          exact HO1.out.put e _
        have HN2 : Hid (Old w (wr.setCell ⟨w.heap.size, e, none⟩ (.int .i64 (x : Int)))) := HG2.out.own (by simp) _
        clear HS
        go_wp2_with fail
        exact ⟨⟨k + 1, by omega, by go_num, HP, HN2⟩, by simp [intOf]; omega⟩
      · have d2 : decide ((e : Int) < (N : Int)) = false := by simp; omega
        have i2 : (e : Int) - (N : Int) < (N : Int) := by omega
        obtain ⟨f, hf⟩ : ∃ f, f = e - N := ⟨_, rfl⟩
        have ef : (e : Int) - (N : Int) = (f : Int) := by omega
        have hfl : f < N := by omega
        have i3 : (f : Int) < (N : Int) := by omega
        have HS : Hid (F (k + 1) = (F k).set f ((-(x : Int)) % (P : Int))) := by rw [hf]; exact HHI1 hlo
        clear HLO1 HHI1 hf
        have c3 := HO1.out.get hlen f hfl
        have c4 := HO1.out.free f
        have cr := fun W => spec_mod (-(x : Int)) (P : Int) W ⟨by omega, by omega⟩ ⟨by omega, by omega⟩
        have ew1 : IntKind.i64.wrap (f : Int) = (f : Int) := by rw [IntKind.wrap_i64]; omega
        have ew2 : IntKind.i64.wrap (-(x : Int)) = -(x : Int) := by rw [IntKind.wrap_i64]; omega
        have ew3 : IntKind.i64.wrap ((e : Int) - (N : Int)) = (f : Int) := by rw [IntKind.wrap_i64]; omega
        generalize (F k).getD f 0 = oldv at *
        generalize (-(x : Int)) % (P : Int) = y at *
        have HP : Hid (OwnI (wr.setCell ⟨w.heap.size, f, none⟩ (.int .i64 y)) (w.heap.size) (w.heap.size) N (F (k + 1))) := by
          show OwnI _ _ _ _ _
          rw [HS.out]
          exact HO1.out.put f _
        have HN2 : Hid (Old w (wr.setCell ⟨w.heap.size, f, none⟩ (.int .i64 y))) := HG2.out.own (by simp) _
        clear HS
        go_wp2_with fail
        refine (cr _).mono ?_
        rintro en w5 ⟨rfl, rfl⟩
        go_wp2_with fail
        exact ⟨⟨k + 1, by omega, by go_num, HP, HN2⟩, by simp [intOf]; omega⟩
    · have d1 : decide ((k : Int) < (N : Int)) = false := by simp; omega
      obtain rfl : k = N := by omega
      have HF : Hid (Own wr (w.heap.size) (.slice (some ⟨w.heap.size, 0, none⟩) k k) (F k)) := HO1.out.own (HL.out k)
      go_wp2_with fail
      go_ret
      exact ⟨_, rfl, HG1.out, HF.out.low (by omega)⟩
end Go.Proofs.YtpebikjckhcgfaaDoor
