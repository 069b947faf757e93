/- Proved: the model's MulEach: the products one by one, none where anything is not as said. -/
import Derived.Test.YtcnkanjkdkjceaaDoorProds
import Derived.Deep.RegionLaw
namespace Go.Proofs.YtcnkanjkdkjceaaDoor
open Go.ChangeShapes Go.WideShapes Go.ChangeAt Go.RowKit
set_option linter.unusedVariables false
set_option linter.unusedSimpArgs false
set_option maxRecDepth 100000 in
set_option maxHeartbeats 1000000 in
theorem spec_MulEach_of (p n r : Int) (xs ys : List Int) (g ok : Bool) (zs : List Int) (hgp : g = true → (2 ≤ p ∧ p ≤ 268435456) ∧ (2 ≤ n ∧ n ≤ 16)) (hlv : xs.length ≤ 9223372036854775807) (hlu : ys.length ≤ 9223372036854775807) (hok : (g && polyB p n xs && polyB p n ys) = ok) (hz : ok = false → zs = [])
    (cg : ∀ W, Calls Tryd.prog 42 #[.agg #[.int .i64 p, .int .i64 n, .int .i64 r]] W fun e w' => e = .returned (.bool g) ∧ Old W w')
    (P : Nat) (as1 bs1 : List Nat) (inn : ok = true → (p = (P : Int) ∧ xs = toZ as1 ∧ ys = toZ bs1 ∧ as1.length = bs1.length ∧ (2 ≤ as1.length ∧ as1.length ≤ 16) ∧ (∀ x ∈ as1, x < P) ∧ (∀ x ∈ bs1, x < P) ∧ zs = toZ (eachN P as1.length as1 bs1))) (v u : Value) (w : World) (hv : Row w v xs) (hu : Row w u ys) :
    Calls Tryd.prog 33 #[.agg #[.int .i64 p, .int .i64 n, .int .i64 r], v, u] w fun e w' => ∃ v', e = .returned (.tuple #[v', .bool ok]) ∧ Old w w' ∧ Own w' w.heap.size v' zs := by
  have Rv : Hid (Row w v xs) := hv
  obtain ⟨cv, capv, rfl⟩ := hv.slice
  clear hv
  have Ru : Hid (Row w u ys) := hu
  obtain ⟨cu, capu, rfl⟩ := hu.slice
  clear hu
  have HG0 : Hid (Old w (w.alloc (.cells #[.int .i64 p, .int .i64 n, .int .i64 r] 24))) := (Old.refl w).alloc _
  have RC0 : Hid (Rc (w.alloc (.cells #[.int .i64 p, .int .i64 n, .int .i64 r] 24)) w.heap.size p n r) := Rc.new w p n r
  cases g
  · obtain rfl : ok = false := by simpa using hok.symm
    obtain rfl := hz rfl
    clear inn hok hz hgp
    go_enter Tryd.func33, Tryd.ntmps33
    go_wp2_with fail
    refine (cg _).mono ?_
    rintro e w1 ⟨rfl, g1⟩
    have HG1 : Hid (Old w w1) := Old.trans HG0.out g1
    have RC1 : Hid (Rc w1 w.heap.size p n r) := RC0.out.old g1
    clear g1
    go_wp2_with fail
    go_ret2
    exact ⟨_, rfl, HG1.out, own_nil _ _⟩
  · obtain ⟨⟨p1, p2⟩, n1, n2⟩ := hgp rfl
    have c1 := fun v W (h : Row W v xs) => spec_poly p n r xs v W h hlv ⟨p1, p2⟩
    cases e1 : polyB p n xs
    · rw [e1] at c1
      obtain rfl : ok = false := by rw [← hok]; simp [e1]
      obtain rfl := hz rfl
      clear inn hok hz hgp e1
      go_enter Tryd.func33, Tryd.ntmps33
      go_wp2_with fail
      refine (cg _).mono ?_
      rintro e w1 ⟨rfl, g1⟩
      have HG1 : Hid (Old w w1) := Old.trans HG0.out g1
      have RC1 : Hid (Rc w1 w.heap.size p n r) := RC0.out.old g1
      clear g1
      have z10 := RC1.out.c0
      have z11 := RC1.out.c1
      have z12 := RC1.out.c2
      go_wp2_with fail
      refine (c1 _ _ (Rv.out.old HG1.out)).mono ?_
      rintro e w2 ⟨rfl, g2⟩
      clear z10 z11 z12
      have HG2 : Hid (Old w w2) := Old.trans HG1.out g2
      have RC2 : Hid (Rc w2 w.heap.size p n r) := RC1.out.old g2
      clear g2
      go_wp2_with fail
      go_ret2
      exact ⟨_, rfl, HG2.out, own_nil _ _⟩
    rw [e1] at c1
    have c2 := fun v W (h : Row W v ys) => spec_poly p n r ys v W h hlu ⟨p1, p2⟩
    cases e2 : polyB p n ys
    · rw [e2] at c2
      obtain rfl : ok = false := by rw [← hok]; simp [e1, e2]
      obtain rfl := hz rfl
      clear inn hok hz hgp e1 e2
      go_enter Tryd.func33, Tryd.ntmps33
      go_wp2_with fail
      refine (cg _).mono ?_
      rintro e w1 ⟨rfl, g1⟩
      have HG1 : Hid (Old w w1) := Old.trans HG0.out g1
      have RC1 : Hid (Rc w1 w.heap.size p n r) := RC0.out.old g1
      clear g1
      have z10 := RC1.out.c0
      have z11 := RC1.out.c1
      have z12 := RC1.out.c2
      go_wp2_with fail
      refine (c1 _ _ (Rv.out.old HG1.out)).mono ?_
      rintro e w2 ⟨rfl, g2⟩
      clear z10 z11 z12
      have HG2 : Hid (Old w w2) := Old.trans HG1.out g2
      have RC2 : Hid (Rc w2 w.heap.size p n r) := RC1.out.old g2
      clear g2
      have z20 := RC2.out.c0
      have z21 := RC2.out.c1
      have z22 := RC2.out.c2
      go_wp2_with fail
      refine (c2 _ _ (Ru.out.old HG2.out)).mono ?_
      rintro e w3 ⟨rfl, g3⟩
      clear z20 z21 z22
      have HG3 : Hid (Old w w3) := Old.trans HG2.out g3
      have RC3 : Hid (Rc w3 w.heap.size p n r) := RC2.out.old g3
      clear g3
      go_wp2_with fail
      go_ret2
      exact ⟨_, rfl, HG3.out, own_nil _ _⟩
    rw [e2] at c2
    obtain rfl : ok = true := by rw [← hok]; simp [e1, e2]
    obtain ⟨rfl, rfl, rfl, hlen, hN, ha, hb, rfl⟩ := inn rfl
    have p2' : P ≤ 268435456 := by omega
    clear inn hok hz hgp e1 e2
    obtain ⟨i0, hi, hz0, hz1, hz2⟩ := info_parts Tryd.infoInt
    obtain ⟨b1, o1, cap1, ee1, hb1, hc1⟩ := Rv.out.atZ (by omega)
    injection ee1 with ea eb ec
    subst ea ec
    obtain ⟨b2, o2, cap2, ee2, hb2, hc2⟩ := Ru.out.atZ (by omega)
    injection ee2 with ea' eb' ec'
    subst ea' ec'
    clear eb eb'
    have HC1 : Hid (∀ j, j < as1.length → w.cell? ⟨b1, o1 + j, none⟩ = some (.int .i64 ((as1.getD j 0 : Nat) : Int))) := hc1
    have HC2 : Hid (∀ j, j < as1.length → w.cell? ⟨b2, o2 + j, none⟩ = some (.int .i64 ((bs1.getD j 0 : Nat) : Int))) := by rw [← hlen] at hc2; exact hc2
    have HE : Hid (∀ k, k < as1.length → (toZ (eachN P as1.length as1 bs1)).getD k 0 = ((as1.getD k 0 * bs1.getD k 0 % P : Nat) : Int)) := fun k hk => by rw [toZ_get, eachN_get P as1.length as1 bs1 k hk]
    have hzl : (toZ (eachN P as1.length as1 bs1)).length = as1.length := by rw [toZ_len, eachN_len]
    have HA : Hid (∀ k, as1.getD k 0 < P) := fun k => getD_lt ha (by omega) k
    have HB : Hid (∀ k, bs1.getD k 0 < P) := fun k => getD_lt hb (by omega) k
    rw [toZ_len] at Rv ⊢
    rw [toZ_len, ← hlen] at Ru ⊢
    generalize as1.length = N at *
    generalize toZ (eachN P N as1 bs1) = zs at *
    clear hc1 hc2 hlen ha hb
    have hpn : ¬ (P : Int) = 0 := by omega
    have hpn2 : ¬ P = 0 := by omega
    go_enter Tryd.func33, Tryd.ntmps33
    go_wp2_with fail
    refine (cg _).mono ?_
    rintro e w1 ⟨rfl, g1⟩
    have HG1 : Hid (Old w w1) := Old.trans HG0.out g1
    have RC1 : Hid (Rc w1 w.heap.size (P : Int) n r) := RC0.out.old g1
    clear g1
    have z10 := RC1.out.c0
    have z11 := RC1.out.c1
    have z12 := RC1.out.c2
    go_wp2_with fail
    refine (c1 _ _ (Rv.out.old HG1.out)).mono ?_
    rintro e w2 ⟨rfl, g2⟩
    clear z10 z11 z12
    have HG2 : Hid (Old w w2) := Old.trans HG1.out g2
    have RC2 : Hid (Rc w2 w.heap.size (P : Int) n r) := RC1.out.old g2
    clear g2
    have z20 := RC2.out.c0
    have z21 := RC2.out.c1
    have z22 := RC2.out.c2
    go_wp2_with fail
    refine (c2 _ _ (Ru.out.old HG2.out)).mono ?_
    rintro e w3 ⟨rfl, g3⟩
    clear z20 z21 z22
    have HG3 : Hid (Old w w3) := Old.trans HG2.out g3
    have RC3 : Hid (Rc w3 w.heap.size (P : Int) n r) := RC2.out.old g3
    clear g3
    go_wp2_with fail
    go_loopw [8, 9, 27] (fun v x i W => ∃ (k : Nat) (a : Option Addr) (cap : Nat), k ≤ N ∧ i = .int .i64 k ∧ v = .slice a k cap ∧ Hid (Own W w3.heap.size (.slice a k cap) (zs.take k)) ∧ Hid (Old w3 W)) (fun _ _ i _ => N - (intOf i).toNat)
    case atStart => exact ⟨0, none, 0, by omega, rfl, rfl, (by exact own_nil _ _), Old.refl _⟩
    case round =>
      obtain ⟨k, a, cap, hk, rfl, rfl, HO1, HG4⟩ := hrel
      have HW : Hid (Old w wr) := Old.trans HG3.out HG4.out
      have hs4 := HG4.out.size
      by_cases hlt : k < N
      · have d1 : decide ((k : Int) < (N : Int)) = true := by simp; omega
        have i1 : (k : Int) < (N : Int) := by omega
        have c1 : wr.cell? ⟨b1, o1 + k, none⟩ = some (.int .i64 ((as1.getD k 0 : Nat) : Int)) := (HW.out.cell (p := ⟨b1, o1 + k, none⟩) hb1).trans (HC1.out k hlt)
        have c2 : wr.cell? ⟨b2, o2 + k, none⟩ = some (.int .i64 ((bs1.getD k 0 : Nat) : Int)) := (HW.out.cell (p := ⟨b2, o2 + k, none⟩) hb2).trans (HC2.out k hlt)
        have z0 := (RC3.out.old HG4.out).c0
        have HX : Hid (zs.getD k 0 = ((as1.getD k 0 * bs1.getD k 0 % P : Nat) : Int)) := HE.out k hlt
        have hx := HA.out k
        have hy := HB.out k
        have hm := mul_lt28 _ _ P hx hy p2'
        generalize as1.getD k 0 = x at *
        generalize bs1.getD k 0 = y at *
        have e1 : (x : Int) * (y : Int) = ((x * y : Nat) : Int) := by simp
        have e2 : ((x * y : Nat) : Int) % (P : Int) = ((x * y % P : Nat) : Int) := by simp
        have HT1 : Hid (zs.take (k + 1) = zs.take k ++ [((x * y % P : Nat) : Int)]) := by
          show _ = _
          rw [take_succI zs k (by omega), HX.out]
        have hq : x * y % P < P := Nat.mod_lt _ (by omega)
        generalize x * y = m at *
        have e3 : (IntKind.i64.wrap ((m : Nat) : Int)).tmod (P : Int) = ((m % P : Nat) : Int) := by
          rw [IntKind.wrap_i64]
          rw [show ((m : Int) + 9223372036854775808) % 18446744073709551616 - 9223372036854775808 = (m : Int) by omega]
          rw [Int.tmod_eq_emod_of_nonneg (by omega)]
          simp
        generalize m % P = q at *
        have htk : (zs.take k).length = k := by rw [List.length_take]; omega
        have HW1 : Hid (∀ d o, Own ((wr.alloc o).drewN d) w3.heap.size (.slice a k cap) (zs.take k)) := fun d o => HO1.out.old (((Old.refl wr).alloc o).drewN d)
        have HG5 : Hid (∀ d o, Old w3 ((wr.alloc o).drewN d)) := fun d o => (HG4.out.alloc o).drewN d
        go_wp2_with fail
        go_region_law (refine step_append_lies _ rfl (.tmp 30) (.tmp 43) 25 rfl w3.heap.size 3 i0 (.int .i64 0) 1 8 Tryd.underlying25 hi hz0 hz1 hz2 rfl (by decide) (.slice a k cap) k ((zs.take k).map (Value.int .i64)) (by simp [Act.eval, Act.put]) (by have := HW1.out 1 (.cells #[.int .i64 (q : Int)] 3); unfold Own at this; rw [htk] at this; exact this) ⟨wr.heap.size, 0, none⟩ 1 1 [.int .i64 (q : Int)] (by simp [Act.eval, Act.put]) rfl (one_cell _ _ _) (one_one _) (by omega) (by unfold maxLen; omega) (by omega) (by simp; omega) _ rfl ?_; intro g5 cap5 w5 o5 gr5 x5 lt5; have O5 : Hid (Own w5 w3.heap.size (.slice (some ⟨g5, 0, none⟩) (k + 1) cap5) (zs.take (k + 1))) := (by have := HT1.out; show Own _ _ _ _; rw [this]; exact Own.snoc (by rw [htk]; exact o5)); have G5 : Hid (Old w3 w5) := Below.grown (HG5.out 1 (.cells #[.int .i64 (q : Int)] 3)) gr5 (HG5.out 1 (.cells #[.int .i64 (q : Int)] 3)).size (fun j hj => (HO1.out.lt j hj).1); clear o5 gr5 x5 lt5)
        all_goals
          go_wp2_with fail
          exact ⟨⟨k + 1, _, _, by omega, by go_num, rfl, O5, G5⟩, by simp [intOf]; omega⟩
      · have d1 : decide ((k : Int) < (N : Int)) = false := by simp; omega
        obtain rfl : k = N := by omega
        have HF : Hid (Own wr w.heap.size (.slice a k cap) zs) := by
          have := HO1.out
          rw [List.take_of_length_le (by omega)] at this
          exact this.low HG3.out.size
        go_wp2_with fail
        go_ret2
        exact ⟨_, rfl, HW.out, HF.out⟩
end Go.Proofs.YtcnkanjkdkjceaaDoor
