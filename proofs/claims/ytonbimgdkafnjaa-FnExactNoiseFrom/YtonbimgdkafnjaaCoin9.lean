/- Proved: contracts of the program's TernaryRow and of its draws of one: UniformFrom, TernaryFrom, NoiseFrom. -/
import Derived.Test.YtonbimgdkafnjaaCoin8
namespace Go.Proofs.Ytonbimgdkafnjaa
open Go.ChangeShapes Go.WideShapes Go.ChangeAt Go.RowKit
set_option linter.unusedVariables false
set_option linter.unusedSimpArgs false
/-- 2 is -1 -/
def tern (x : Int) : Int := if x = 2 then -1 else x
/-- a draw of -1, 0 or 1 -/
def tD (ws : List Int) (k : Nat) : Option (Int × Nat) := match uD ws 3 k with
  | none => none
  | some (x, k') => some (tern x, k')
theorem drP_map (ws : List Int) (k0 : Nat) : ∀ n, drP (tD ws) k0 n = match drP (uD ws 3) k0 n with
    | none => none
    | some (l, k) => some (l.map tern, k)
  | 0 => rfl
  | n + 1 => by
    simp only [drP]
    rw [drP_map ws k0 n]
    cases h : drP (uD ws 3) k0 n with
    | none => rfl
    | some p =>
      obtain ⟨l, k⟩ := p
      simp only [tD]
      cases h2 : uD ws 3 k with
      | none => rfl
      | some p2 =>
        obtain ⟨x, k'⟩ := p2
        simp
theorem drP_in {ws : List Int} {k0 p : Nat} (hp : 0 < p) : ∀ n l k, drP (uD ws p) k0 n = some (l, k) → ∀ x ∈ l, 0 ≤ x ∧ x < p
  | 0, l, k, h, x, hx => by simp [drP] at h; rw [h.1] at hx; simp at hx
  | n + 1, l, k, h, x, hx => by
    simp only [drP] at h
    cases e : drP (uD ws p) k0 n with
    | none => rw [e] at h; simp at h
    | some q =>
      obtain ⟨l', k'⟩ := q
      rw [e] at h
      simp only at h
      cases e2 : uD ws p k' with
      | none => rw [e2] at h; simp at h
      | some q2 =>
        obtain ⟨y, k2⟩ := q2
        rw [e2] at h
        simp only [Option.some.injEq, Prod.mk.injEq] at h
        rw [← h.1] at hx
        rcases List.mem_append.1 hx with h3 | h3
        · exact drP_in hp n l' k' e x h3
        · rw [List.mem_singleton] at h3
          subst h3
          unfold uD at e2
          split at e2
          · simp only [Option.some.injEq, Prod.mk.injEq] at e2
            rw [← e2.1]
            exact ⟨Int.emod_nonneg _ (by omega), Int.emod_lt_of_pos _ (by omega)⟩
          · cases e2
def tRow (ws : List Int) (at_ n : Int) : Option (List Int × Nat) := if mayB ws at_ n then drP (tD ws) at_.toNat n.toNat else none
theorem uRow3 (ws : List Int) (at_ n : Int) : uRow ws at_ 3 n = if mayB ws at_ n then drP (uD ws 3) at_.toNat n.toNat else none := by
  unfold uRow
  rw [show modB 3 = true by rfl, Bool.and_true]
  rfl
theorem tRow_is (ws : List Int) (at_ n : Int) : aK (tRow ws at_ n) = aK (uRow ws at_ 3 n) ∧ (tRow ws at_ n).isSome = (uRow ws at_ 3 n).isSome ∧ aL (tRow ws at_ n) = (aL (uRow ws at_ 3 n)).map tern := by
  rw [uRow3]
  unfold tRow
  cases mayB ws at_ n
  · exact ⟨rfl, rfl, rfl⟩
  · simp only [if_true]
    rw [drP_map]
    cases drP (uD ws 3) at_.toNat n.toNat with
    | none => exact ⟨rfl, rfl, rfl⟩
    | some p => exact ⟨rfl, rfl, rfl⟩
theorem uRow3_in (ws : List Int) (at_ n : Int) : (∀ x ∈ aL (uRow ws at_ 3 n), 0 ≤ x ∧ x < 3) ∧ (aL (uRow ws at_ 3 n)).length ≤ 64 := by
  rw [uRow3]
  cases hm : mayB ws at_ n
  · exact ⟨fun x hx => by simp [aL] at hx, by simp [aL]⟩
  · simp only [if_true]
    obtain ⟨_, _, _, h5, h6⟩ := mayB_yes hm
    cases h : drP (uD ws 3) at_.toNat n.toNat with
    | none => exact ⟨fun x hx => by simp [aL] at hx, by simp [aL]⟩
    | some p =>
      obtain ⟨l, k⟩ := p
      refine ⟨drP_in (p := 3) (by omega) _ l k h, ?_⟩
      show l.length ≤ 64
      rw [drP_len _ l k h]
      omega
theorem centred3 (x : Int) (h : 0 ≤ x ∧ x < 3) (w : World) : Calls Try.prog 63 #[.int .i64 x, .int .i64 3] w fun e w' => e = .returned (.int .i64 (tern x)) ∧ w' = w := by
  obtain ⟨h1, h2⟩ := h
  obtain rfl | rfl | rfl : x = 0 ∨ x = 1 ∨ x = 2 := by omega
  all_goals
    go_enter Try.func63, Try.ntmps63
    go_wp2_with fail
    go_ret
    exact ⟨rfl, rfl⟩
/-- the first j numbers turned -/
def tmap (zs : List Int) (j : Nat) : List Int := (zs.take j).map tern ++ zs.drop j
theorem tmap_len (zs : List Int) (j : Nat) : (tmap zs j).length = zs.length := by simp [tmap]; omega
theorem tmap_set (zs : List Int) (j : Nat) (h : j < zs.length) : (tmap zs j).set j (tern (zs.getD j 0)) = tmap zs (j + 1) := by
  unfold tmap
  have hl : ((zs.take j).map tern).length = j := by simp; omega
  rw [List.set_append_right _ _ (by rw [hl]; exact Nat.le_refl _), hl, Nat.sub_self, List.drop_eq_getElem_cons h, List.set_cons_zero, take_succI zs j h, List.map_append, List.append_assoc]
  rfl
theorem tmap_get (zs : List Int) (j : Nat) (h : j < zs.length) : (tmap zs j).getD j 0 = zs.getD j 0 := by
  unfold tmap
  have hl : ((zs.take j).map tern).length = j := by simp; omega
  rw [List.getD_eq_getElem?_getD, List.getElem?_append_right (by rw [hl]; exact Nat.le_refl _), hl, Nat.sub_self]
  simp [List.getD, h]
theorem tmap_all (zs : List Int) : tmap zs zs.length = zs.map tern := by simp [tmap]
set_option maxRecDepth 100000 in
set_option maxHeartbeats 2000000 in
theorem impl_TernaryRow (ws : List Int) (v : Value) (at_ n : Int) (w : World) (h : Row w v ws) (hf : Fit7 v) (hl : ws.length ≤ 9223372036854775807) :
    Calls Try.prog 19 #[v, .int .i64 at_, .int .i64 n] w fun e w' => RowAns (tRow ws at_ n) w e w' := by
  have K1 : Hid (∀ W, W = w → Calls Try.prog 62 #[v, .int .i64 at_, .int .i64 3, .int .i64 n] W fun e w' => RowAns (uRow ws at_ 3 n) W e w') := fun W e => by subst e; exact impl_UniformRow ws v at_ 3 n _ h hf hl
  obtain ⟨a, cap, rfl⟩ := h.slice
  obtain ⟨t1, t2, t3⟩ := tRow_is ws at_ n
  obtain ⟨t4, t5⟩ := uRow3_in ws at_ n
  obtain ⟨K, hK⟩ : ∃ K, K = aK (uRow ws at_ 3 n) := ⟨_, rfl⟩
  obtain ⟨B, hB⟩ : ∃ B, B = (uRow ws at_ 3 n).isSome := ⟨_, rfl⟩
  obtain ⟨zs, hzs⟩ : ∃ zs, zs = aL (uRow ws at_ 3 n) := ⟨_, rfl⟩
  rw [← hK] at t1
  rw [← hB] at t2
  rw [← hzs] at t3 t4 t5
  have HT : Hid (aK (tRow ws at_ n) = K ∧ (tRow ws at_ n).isSome = B ∧ aL (tRow ws at_ n) = zs.map tern) := ⟨t1, t2, t3⟩
  have HZ : Hid (∀ x ∈ zs, 0 ≤ x ∧ x < 3) := t4
  have K1' : Hid (∀ W, W = w → Calls Try.prog 62 #[.slice a ws.length cap, .int .i64 at_, .int .i64 3, .int .i64 n] W fun e w' => ∃ v', e = .returned (.tuple #[v', .int .i64 K, .bool B]) ∧ Hid (Old W w' ∧ Own w' W.heap.size v' zs)) := fun W e => (K1.out W e).mono fun e w' ⟨v', h1, h2⟩ => ⟨v', by rw [h1, hK, hB], by rw [hzs]; exact h2⟩
  clear t1 t2 t3 t4 hK hB hzs K1 h hf
  go_enter Try.func19, Try.ntmps19
  go_wp2_with fail
  refine (K1'.out _ rfl).mono ?_
  rintro e w1 ⟨v', rfl, HX⟩
  by_cases h0 : zs.length = 0
  · obtain rfl := List.length_eq_zero_iff.1 h0
    obtain ⟨a0, cap0, rfl⟩ := (Own.row HX.out.2).slice
    go_wp2_with fail
    refine wp_loop_rounds 1 ?_
    rw [rounds_succ]
    go_wp2_with fail
    go_ret3
    unfold RowAns
    rw [HT.out.1, HT.out.2.1, HT.out.2.2]
    exact ⟨_, rfl, HX.out.1, HX.out.2⟩
  · obtain ⟨g, cp, rfl⟩ : ∃ g cap, v' = .slice (some ⟨g, 0, none⟩) zs.length cap := by
      rcases HX.out.2.2 with ⟨_, h1⟩ | ⟨g, cap, cur, e, _⟩
      · exact absurd h1 h0
      · exact ⟨g, cap, e⟩
    have HO : Hid (w1.ownsRow w.heap.size 3 1 (.slice (some ⟨g, 0, none⟩) zs.length cp) zs.length ((tmap zs 0).map (Value.int .i64))) := HX.out.2
    have HG : Hid (Old w w1) := HX.out.1
    clear HX h0
    go_wp2_with fail
    go_loopw [24] (fun i W => ∃ j : Nat, j ≤ zs.length ∧ i = .int .i64 j ∧ Hid (W.ownsRow w.heap.size 3 1 (.slice (some ⟨g, 0, none⟩) zs.length cp) zs.length ((tmap zs j).map (Value.int .i64))) ∧ Hid (Old w W)) (fun i _ => zs.length - (intOf i).toNat)
    case atStart => exact ⟨0, by omega, rfl, HO, HG⟩
    case round =>
      obtain ⟨j, hj, rfl, HO1, HG1⟩ := hrel
      clear HO HG
      by_cases hlt : j < zs.length
      · have dl : decide ((j : Int) < (zs.length : Int)) = true := by simp; omega
        have c2 : wr.cell? ⟨g, j, none⟩ = some (.int .i64 (zs.getD j 0)) := by
          rw [World.ownsRow.cellAt HO1.out j (by omega), ← tmap_get zs j hlt]
          have := tmap_len zs j
          simp [List.getD, this, hlt]
        have c3 : wr.frozen? ⟨g, j, none⟩ = false := World.ownsRow.frozenAt HO1.out j
        have K2 := fun W => centred3 (zs.getD j 0) (HZ.out _ (by simp [List.getD, hlt])) W
        have st := World.ownsRow.stored HO1.out j (.int .i64 (tern (zs.getD j 0)))
        have HS : Hid ((wr.setCell ⟨g, j, none⟩ (.int .i64 (tern (zs.getD j 0)))).ownsRow w.heap.size 3 1 (.slice (some ⟨g, 0, none⟩) zs.length cp) zs.length ((tmap zs (j + 1)).map (Value.int .i64))) := by
          have := st.1
          rw [← List.map_set, tmap_set zs j hlt] at this
          exact this
        have HG2 : Hid (Old w (wr.setCell ⟨g, j, none⟩ (.int .i64 (tern (zs.getD j 0))))) := Below.grown HG1.out st.2 HG1.out.size (fun b hb => (HO1.out.lt b hb).1)
        clear st HO1
        generalize zs.getD j 0 = x at *
        generalize tern x = y at *
        go_wp2_with fail
        refine (K2 _).mono ?_
        rintro e w' ⟨rfl, hw⟩
        obtain rfl := hw.symm
        go_wp2_with fail
        exact ⟨⟨j + 1, by omega, by go_num, HS, HG2⟩, by simp [intOf]; omega⟩
      · have dl : decide ((j : Int) < (zs.length : Int)) = false := by simp; omega
        obtain rfl : j = zs.length := by omega
        have HF : Hid (Own wr w.heap.size (.slice (some ⟨g, 0, none⟩) zs.length cp) (zs.map tern)) := by
          have := HO1.out
          rw [tmap_all] at this
          unfold Own
          rw [List.length_map]
          exact this
        clear HO1
        go_wp2_with fail
        go_ret3
        unfold RowAns
        rw [HT.out.1, HT.out.2.1, HT.out.2.2]
        exact ⟨_, rfl, HG1.out, HF.out⟩
/-- the number drawn -/
def fX : Option (Int × Nat) → Int
  | some (x, _) => x
  | none => 0
/-- the next at -/
def fK : Option (Int × Nat) → Int
  | some (_, k) => k
  | none => 0
/-- what a draw's call leaves -/
def FromAns (A : Option (Int × Nat)) (W : World) (e : Ending) (w' : World) : Prop :=
  e = .returned (.tuple #[.int .i64 (fX A), .int .i64 (fK A), .bool A.isSome]) ∧ Old W w'
/-- a row of one -/
def rowOne : Option (Int × Nat) → Option (List Int × Nat)
  | some (x, k) => some ([x], k)
  | none => none
theorem drP_one (D : Nat → Option (Int × Nat)) (k : Nat) : drP D k 1 = rowOne (D k) := by
  simp only [drP]
  cases D k with
  | none => rfl
  | some p => rfl
def atB (ws : List Int) (at_ : Int) : Bool := wsB ws && inQ at_ 0 ws.length
theorem mayB_one (ws : List Int) (at_ : Int) : mayB ws at_ 1 = atB ws at_ := by
  unfold mayB atB
  rw [show inQ 1 0 64 = true by rfl, Bool.and_true]
def uFrom (ws : List Int) (at_ p : Int) : Option (Int × Nat) := if atB ws at_ && modB p then uD ws p.toNat at_.toNat else none
def tFrom (ws : List Int) (at_ : Int) : Option (Int × Nat) := if atB ws at_ then tD ws at_.toNat else none
def nFrom (ws : List Int) (at_ b : Int) : Option (Int × Nat) := if atB ws at_ && inQ b 1 16 then nD ws b.toNat at_.toNat else none
theorem uRow_one (ws : List Int) (at_ p : Int) : uRow ws at_ p 1 = rowOne (uFrom ws at_ p) := by
  unfold uRow uFrom
  rw [mayB_one]
  cases atB ws at_ && modB p
  · rfl
  · exact drP_one _ _
theorem tRow_one (ws : List Int) (at_ : Int) : tRow ws at_ 1 = rowOne (tFrom ws at_) := by
  unfold tRow tFrom
  rw [mayB_one]
  cases atB ws at_
  · rfl
  · exact drP_one _ _
theorem nRow_one (ws : List Int) (at_ b : Int) : nRow ws at_ b 1 = rowOne (nFrom ws at_ b) := by
  unfold nRow nFrom
  rw [mayB_one]
  cases atB ws at_ && inQ b 1 16
  · rfl
  · exact drP_one _ _
theorem onlyOf_any (A : Option (Int × Nat)) (v : Value) (w : World) (h : Row w v (aL (rowOne A))) :
    Calls Try.prog 61 #[v, .int .i64 (aK (rowOne A)), .bool (rowOne A).isSome] w fun e w' => e = .returned (.tuple #[.int .i64 (fX A), .int .i64 (fK A), .bool A.isSome]) ∧ w' = w := by
  cases A with
  | none =>
    show Calls Try.prog 61 #[v, .int .i64 0, .bool false] w fun e w' => e = .returned (.tuple #[.int .i64 0, .int .i64 0, .bool false]) ∧ w' = w
    obtain ⟨a, cap, rfl⟩ := h.slice
    clear h
    go_enter Try.func61, Try.ntmps61
    go_wp2_with fail
    go_ret3
    exact ⟨rfl, rfl⟩
  | some p =>
    obtain ⟨x, k⟩ := p
    show Calls Try.prog 61 #[v, .int .i64 (k : Int), .bool true] w fun e w' => e = .returned (.tuple #[.int .i64 x, .int .i64 (k : Int), .bool true]) ∧ w' = w
    have h' : Row w v [x] := h
    rcases h' with ⟨a, cap, _, e⟩ | ⟨b, o, cap, rfl, hb, h0, hc⟩
    · cases e
    · have c1 : w.cell? ⟨b, o, none⟩ = some (.int .i64 x) := hc 0 (by simp)
      clear h hc
      go_enter Try.func61, Try.ntmps61
      go_wp2_with fail
      go_ret3
      exact ⟨rfl, rfl⟩
set_option maxRecDepth 100000 in
set_option maxHeartbeats 2000000 in
theorem impl_NoiseFrom (ws : List Int) (v : Value) (at_ b : Int) (w : World) (h : Row w v ws) (hf : Fit7 v) (hl : ws.length ≤ 9223372036854775807) :
    Calls Try.prog 18 #[v, .int .i64 at_, .int .i64 b] w fun e w' => FromAns (nFrom ws at_ b) w e w' := by
  have K1 : Hid (∀ W, W = w → Calls Try.prog 16 #[v, .int .i64 at_, .int .i64 b, .int .i64 1] W fun e w' => RowAns (rowOne (nFrom ws at_ b)) W e w') := fun W e => by subst e; rw [← nRow_one]; exact impl_NoiseRow ws v at_ b 1 _ h hf hl
  obtain ⟨a, cap, rfl⟩ := h.slice
  generalize nFrom ws at_ b = A at *
  clear h hf
  go_enter Try.func18, Try.ntmps18
  go_wp2_with fail
  refine (K1.out _ rfl).mono ?_
  rintro e w1 ⟨v', rfl, g, o⟩
  obtain ⟨a1, c1, e1⟩ := (Own.row o).slice
  have HG : Hid (Old w w1) := g
  have K2 := fun W (e : W = w1) => (by subst e; exact onlyOf_any A v' _ (Own.row o) : Calls Try.prog 61 #[v', .int .i64 (aK (rowOne A)), .bool (rowOne A).isSome] W fun e w' => e = .returned (.tuple #[.int .i64 (fX A), .int .i64 (fK A), .bool A.isSome]) ∧ w' = W)
  clear g o
  subst e1
  generalize aK (rowOne A) = K at *
  generalize (rowOne A).isSome = B at *
  generalize (aL (rowOne A)).length = L at *
  go_wp2_with fail
  refine (K2 _ rfl).mono ?_
  rintro e w2 ⟨rfl, hw⟩
  obtain rfl := hw.symm
  go_wp2_with fail
  go_ret3
  exact ⟨rfl, HG.out⟩
end Go.Proofs.Ytonbimgdkafnjaa
