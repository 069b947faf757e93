/- Proved: the model's numeral of a number from 0 on: its digits. -/
import Derived.Test.YtjedpceiimceoaaDoorWta
import Derived.Test.YtjedpceiimceoaaDoorV04
import Derived.BigRegion
namespace Go.Proofs.YtjedpceiimceoaaDoor
open Go.ChangeShapes Go.WideShapes Go.ChangeAt Go.RowKit
open Go.Lib
set_option linter.unusedVariables false
set_option linter.unusedSimpArgs false
def PB1 (m : Nat) (W : World) (x : Value) : Prop := ∃ b, x = .slice (some ⟨b, 0, none⟩) 1 1 ∧ b < W.heap.size ∧ W.cell? ⟨b, 0, none⟩ = some (.int .u8 (m : Int))
theorem PB1.old {m : Nat} (W W' : World) (x : Value) (h : PB1 m W x) (q : Old W W') : PB1 m W' x := by
  obtain ⟨b, e, hb, hc⟩ := h
  exact ⟨b, e, Nat.lt_of_lt_of_le hb q.size, (q.cell (p := ⟨b, 0, none⟩) hb).trans hc⟩
theorem PB1.new (m : Nat) (W : World) : PB1 m (W.alloc (.cells #[.int .u8 (m : Int)] 5)) (.slice (some ⟨W.heap.size, 0, none⟩) 1 1) :=
  ⟨W.heap.size, rfl, by simp, by simp [cell_at]⟩
theorem PB1.text {m : Nat} (hm : m < 256) (W : World) (x : Value) (h : PB1 m W x) : (convert 22 9 x).run Tryd.prog W = .ok (.string ⟨#[UInt8.ofNat m]⟩) W := by
  obtain ⟨b, rfl, hb, hc⟩ := h
  exact run_convert_bytes_back W 22 9 5 ⟨b, 0, none⟩ 1 [UInt8.ofNat m] Tryd.underlying22 Tryd.underlying5 Tryd.underlying9 (fun j hj => by
    obtain rfl : j = 0 := by simpa using hj
    simp only [List.getElem_cons_zero]
    rw [show (UInt8.ofNat m).toNat = m from by simp [Nat.mod_eq_of_lt hm]]
    simpa [Addr.add] using hc)
theorem ba_app (l m : List UInt8) : (⟨l.toArray⟩ : ByteArray) ++ ⟨m.toArray⟩ = ⟨(l ++ m).toArray⟩ := by
  apply ByteArray.ext
  simp
theorem ba_size (l : List UInt8) : (⟨l.toArray⟩ : ByteArray).size = l.length := by
  show l.toArray.size = _
  simp
set_option maxRecDepth 100000 in
set_option maxHeartbeats 4000000 in
theorem num_small (n : Nat) (w : World) (h : n < 10) : Calls Tryd.prog 40 #[.int .i64 (n : Int)] w fun e w' => e = .returned (.string ⟨(decDigits n).toArray⟩) ∧ Old w w' := by
  have d1 : decide ((n : Int) < 0) = false := decide_eq_false (by omega)
  have d2 : decide ((n : Int) < 10) = true := decide_eq_true (by omega)
  have d3 : decide (n < 10) = true := decide_eq_true h
  have hcv : (convert 22 9 (.slice (some ⟨w.heap.size, 0, none⟩) 1 1)).run Tryd.prog (w.alloc (.cells #[.int .u8 (48 + (n : Int))] 5)) = .ok (.string ⟨#[UInt8.ofNat (48 + n)]⟩) (w.alloc (.cells #[.int .u8 (48 + (n : Int))] 5)) := by
    exact PB1.text (m := 48 + n) (by omega) _ _ (PB1.new (48 + n) w)
  rw [dec_lt h]
  obtain ⟨S, hS⟩ : ∃ S : ByteArray, ⟨#[UInt8.ofNat (48 + n)]⟩ = S := ⟨_, rfl⟩
  rw [hS] at hcv
  rw [show [UInt8.ofNat (48 + n)].toArray = #[UInt8.ofNat (48 + n)] from rfl, hS]
  clear hS
  go_enter Tryd.func40, Tryd.ntmps40
  go_wp2_with fail
  go_ret
  exact ⟨rfl, (Old.refl w).alloc _⟩
set_option maxRecDepth 100000 in
set_option maxHeartbeats 4000000 in
theorem num_letters (n m : Nat) (S20 S26 S27 : ByteArray) (w : World) (h : ¬ n < 10) (hn : n ≤ 1000000000000) (hs2 : (S20.size : Int) + (S26.size : Int) ≤ 9223372036854775807) (hap : S20 ++ S26 = S27) (hm : n / 10 = m)
    (KN : ∀ W, Calls Tryd.prog 40 #[.int .i64 ((n / 10 : Nat) : Int)] W fun e w' => e = .returned (.string S20) ∧ Old W w')
    (KC : ∀ W x, PB1 (48 + n % 10) W x → (convert 22 9 x).run Tryd.prog W = .ok (.string S26) W) :
    Calls Tryd.prog 40 #[.int .i64 (n : Int)] w fun e w' => e = .returned (.string S27) ∧ Old w w' := by
  have d1 : decide ((n : Int) < 0) = false := decide_eq_false (by omega)
  have d2 : decide ((n : Int) < 10) = false := decide_eq_false (by omega)
  have d3 : decide (n < 10) = false := decide_eq_false h
  have HK : Hid (∀ W, Old w W → Calls Tryd.prog 40 #[.int .i64 ((n : Int) / 10)] W fun e w' => e = .returned (.string S20) ∧ Old W w') := fun W _ => KN W
  have HB : Hid (∀ W : World, PB1 (48 + n % 10) (W.alloc (.cells #[.int .u8 (48 + (n : Int) % 10)] 5)) (.slice (some ⟨W.heap.size, 0, none⟩) 1 1)) := fun W => PB1.new (48 + n % 10) W
  have HC : Hid (∀ W x, PB1 (48 + n % 10) W x → (convert 22 9 x).run Tryd.prog W = .ok (.string S26) W) := KC
  have HA : Hid (S20 ++ S26 = S27) := hap
  have HS : Hid ((S20.size : Int) + (S26.size : Int) ≤ 9223372036854775807) := hs2
  have HQ : Hid (IntKind.i64.wrap ((n : Int).tdiv 10) = (n : Int) / 10) := by
    show _ = _
    rw [Int.tdiv_eq_ediv_of_nonneg (by omega), IntKind.wrap_i64]
    omega
  have HT : Hid ((n : Int).tmod 10 = (n : Int) % 10) := Int.tmod_eq_emod_of_nonneg (by omega)
  have H8 : Hid (IntKind.u8.wrap (48 + (n : Int) % 10) = 48 + (n : Int) % 10) := by
    show _ = _
    rw [IntKind.wrap_u8]
    omega
  clear KN KC hap hs2 hm
  go_enter Tryd.func40, Tryd.ntmps40
  go_wp2_with fail
  refine reg_Nu w (n : Int) S20 S26 S27 (PB1 (48 + n % 10)) (fun W W' v h q => h.old _ _ _ q) (by omega) HA.out HQ.out HT.out H8.out HS.out HB.out HC.out HK.out _ _ ?_ ?_ ?_
  iterate 2 (· exact rfl)
  intro us W q hp
  simp only [putAll, Act.put, slotNu, List.range, List.range.loop, List.map_cons, List.map_nil, List.getD_cons_zero, List.getD_cons_succ, List.setIfInBounds_toArray, List.set_cons_succ, List.set_cons_zero]
  simp only [hp]
  have HO : Hid (Old w W) := q
  clear q hp HK HB HC HA HS HQ HT H8
  go_wp2_with fail
  go_ret
  exact ⟨rfl, HO.out⟩
theorem num_any : ∀ (k n : Nat) (w : World), n < 10 ^ (k + 1) → k ≤ 10 → Calls Tryd.prog 40 #[.int .i64 (n : Int)] w fun e w' => e = .returned (.string ⟨(decDigits n).toArray⟩) ∧ Old w w'
  | 0, n, w, h, _ => num_small n w (by simpa using h)
  | k + 1, n, w, h, hk => by
    by_cases h10 : n < 10
    · exact num_small n w h10
    have hd : n / 10 < 10 ^ (k + 1) := by rw [Nat.pow_succ] at h; omega
    have hle : (10 : Nat) ^ (k + 1 + 1) ≤ 10 ^ 12 := Nat.pow_le_pow_right (by omega) (by omega)
    have hl := dec_len k (n / 10) hd
    refine num_letters n (n / 10) ⟨(decDigits (n / 10)).toArray⟩ ⟨#[UInt8.ofNat (48 + n % 10)]⟩ ⟨(decDigits n).toArray⟩ w h10 (by omega) ?_ ?_ rfl (fun W => num_any k (n / 10) W hd (by omega)) (fun W x hx => PB1.text (by omega) W x hx)
    · rw [ba_size, show (⟨#[UInt8.ofNat (48 + n % 10)]⟩ : ByteArray).size = 1 from rfl]
      omega
    · rw [dec_ge h10]
      exact ba_app _ [UInt8.ofNat (48 + n % 10)]
end Go.Proofs.YtjedpceiimceoaaDoor
