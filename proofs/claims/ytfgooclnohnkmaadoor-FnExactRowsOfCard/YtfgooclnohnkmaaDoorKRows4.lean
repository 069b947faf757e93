/- Proved: rows of rows as a law carries them: marks that are held still. -/
import Derived.Test.YtfgooclnohnkmaaDoorNG
namespace Go.Proofs.YtfgooclnohnkmaaDoor
open Go.ChangeShapes Go.WideShapes Go.ChangeAt Go.RowKit
set_option linter.unusedVariables false
set_option linter.unusedSimpArgs false
set_option maxRecDepth 100000 in
set_option maxHeartbeats 2000000 in
theorem heldIntSS_any (xss : List (List Int)) (v : Value) (k : Int) (lo hi : Nat) (w : World) (hv : OwM k xss w lo hi v) (hl : xss.length ≤ 1048576) (hr : ∀ r ∈ xss, r.length ≤ 1048576) (hk : 0 ≤ k) (hs : k + (offL xss xss.length : Int) ≤ 1073741824) :
    Calls Tryd.prog 105 #[v, .int .i64 k] w fun e w' => e = .returned (.int .i64 (k + offL xss xss.length)) ∧ Old w w' := by
  obtain ⟨a0, cap0, ev⟩ := hv.slice
  subst ev
  obtain ⟨yss, hyl, hym, hyo⟩ := hv
  have HR : Hid (∀ r ∈ xss, r.length ≤ 1048576) := hr
  have HY : Hid (RowS w (.slice a0 xss.length cap0) yss) := hyo.rowS
  have HL : Hid (yss.length = xss.length) := hyl
  have HM : Hid (∀ j, j < xss.length → yss.getD j [] = marks (k + offL xss j) (xss.getD j []).length) := hym
  have HS : Hid (k + (offL xss xss.length : Int) ≤ 1073741824) := hs
  clear hyl hym hyo hr hs
  go_enter Tryd.func105, Tryd.ntmps105
  go_wp2_with fail
  go_loopw [5, 1] (fun i l W => ∃ j : Nat, j ≤ xss.length ∧ i = .int .i64 j ∧ l = .int .i64 (k + offL xss j) ∧ Hid (Old w W)) (fun i _ _ => xss.length - (intOf i).toNat)
  case atStart => exact ⟨0, by omega, rfl, by rw [offL_zero]; simp, Old.refl _⟩
  case round =>
    obtain ⟨j, hj, rfl, rfl, HG⟩ := hrel
    by_cases hlt : j < xss.length
    · have d1 : decide ((j : Int) < (xss.length : Int)) = true := by simp; omega
      rcases HY.out with ⟨a, cap, e, e2⟩ | ⟨b, o, cap, us, e, hb2, h3, hc⟩
      · have := HL.out
        subst e2
        simp at this
        omega
      have hyl := HL.out
      rw [← hyl] at e
      simp only [Value.slice.injEq, true_and] at e
      obtain ⟨rfl, rfl⟩ := e
      obtain ⟨c0, r0⟩ := hc j (by omega)
      have exy := HM.out j hlt
      rw [exy] at r0
      have hm : xss.getD j [] ∈ xss := by simp [List.getD, hlt]
      have hrl := HR.out _ hm
      have hoj := offL_le xss (j + 1)
      have hos := offL_succ xss j hlt
      have hsum := HS.out
      obtain ⟨x1, y1, e1⟩ := r0.slice
      rw [e1] at c0 r0
      have q1 := (HG.out.cell (p := ⟨b, o + j, none⟩) hb2).trans c0
      have R1 : Hid (Row wr (.slice x1 (marks (k + offL xss j) (xss.getD j []).length).length y1) (marks (k + offL xss j) (xss.getD j []).length)) := r0.old HG.out
      have HN4 : Hid (k + (offL xss (j + 1) : Int) = k + (offL xss j : Int) + ((xss.getD j []).length : Int)) := by show _ = _; rw [hos]; omega
      have hkb : 0 ≤ k + (offL xss j : Int) ∧ k + (offL xss j : Int) + ((xss.getD j []).length : Int) ≤ 1073741824 := by omega
      clear hc c0 r0 e1 hm exy hyl h3 hoj hos hsum
      generalize hnn : (offL xss (j + 1)) = nxt at *
      generalize (offL xss j : Nat) = off at *
      generalize (xss.getD j []).length = n at *
      rw [marks_len] at *
      have cm := fun W h => heldInts_yes n (.slice x1 n y1) (k + off) W h (by omega) (by omega) (by omega)
      have d2 : decide (k + (off : Int) + (n : Int) < 0) = false := by simp; omega
      go_wp2_with fail
      refine (cm _ R1.out).mono ?_
      rintro e w2 ⟨rfl, g2⟩
      have N2 : Hid (Old w w2) := Old.trans HG.out g2
      clear g2 cm
      go_wp2_with fail
      refine ⟨⟨j + 1, by omega, by go_num, ?_, N2⟩, by simp [intOf]; omega⟩
      rw [hnn, HN4.out]
    · have d1 : decide ((j : Int) < (xss.length : Int)) = false := by simp; omega
      obtain rfl : j = xss.length := by omega
      go_wp2_with fail
      go_ret
      exact ⟨rfl, HG.out⟩
/-- rows with marks, in a struct -/
def XM (n : Bool) (k : Int) (xss : List (List Int)) (W : World) (lo hi : Nat) (g : Array Value) : Prop := ∃ a c, g = #[.bool n, .slice a xss.length c] ∧ OwM k xss W lo hi (.slice a xss.length c)
theorem far_XM (n : Bool) (k : Int) (xss : List (List Int)) : Far (XM n k xss) := fun W W' lo hi v h hf hs => by
  obtain ⟨a, c, e, o⟩ := h
  exact ⟨a, c, e, far_OwM k xss W W' lo hi _ o hf hs⟩
theorem shape_XM {n : Bool} {k : Int} {xss : List (List Int)} (W : World) (lo hi : Nat) (g : Array Value) (h : XM n k xss W lo hi g) : ∃ a c, g = #[.bool n, .slice a xss.length c] := by
  obtain ⟨a, c, e, o⟩ := h
  exact ⟨a, c, e⟩
set_option maxHeartbeats 1000000 in
theorem kr_mark (n : Bool) (xss : List (List Int)) (k : Int) (w : World) (lo hi : Nat) (g : Array Value) (h : XR n xss w lo hi g) (hl : xss.length ≤ 1048576) (hr : ∀ r ∈ xss, r.length ≤ 1048576) (hk : 0 ≤ k) (hs : k + (offL xss xss.length : Int) ≤ 1073741824) :
    Calls Tryd.prog 36 #[.agg g, .int .i64 k] w fun e w' => e = .returned (.int .i64 (k + offL xss xss.length)) ∧ Chg w w' lo hi ∧ XM n k xss w' lo hi g := by
  obtain ⟨a0, cap0, rfl, o⟩ := h
  have HO : Hid (OwS xss (w.alloc (.cells #[.bool n, .slice a0 xss.length cap0] 54)) lo hi (.slice a0 xss.length cap0)) := (far_OwS xss).old o ((Old.refl w).alloc _) o.1
  have HA : Hid (Chg w (w.alloc (.cells #[.bool n, .slice a0 xss.length cap0] 54)) lo hi) := ((Old.refl w).alloc _).toChg lo hi
  have HR : Hid (∀ r ∈ xss, r.length ≤ 1048576) := hr
  have HS : Hid (k + (offL xss xss.length : Int) ≤ 1073741824) := hs
  clear o hr hs
  go_enter Tryd.func36, Tryd.ntmps36
  go_wp2_with fail
  refine (markIntSS_any xss _ k lo hi _ HO.out hl HR.out hk HS.out).mono ?_
  rintro e w1 ⟨rfl, g1, o1⟩
  have HG : Hid (Chg w w1 lo hi) := Chg.trans HA.out g1
  have HM : Hid (OwM k xss w1 lo hi (.slice a0 xss.length cap0)) := o1
  clear g1 o1
  go_wp2_with fail
  go_ret
  exact ⟨rfl, HG.out, _, _, rfl, HM.out⟩
set_option maxHeartbeats 1000000 in
theorem kr_held (n : Bool) (xss : List (List Int)) (k : Int) (w : World) (lo hi : Nat) (g : Array Value) (h : XM n k xss w lo hi g) (hl : xss.length ≤ 1048576) (hr : ∀ r ∈ xss, r.length ≤ 1048576) (hk : 0 ≤ k) (hs : k + (offL xss xss.length : Int) ≤ 1073741824) :
    Calls Tryd.prog 37 #[.agg g, .int .i64 k] w fun e w' => e = .returned (.int .i64 (k + offL xss xss.length)) ∧ Old w w' := by
  obtain ⟨a0, cap0, rfl, o⟩ := h
  have HO : Hid (OwM k xss (w.alloc (.cells #[.bool n, .slice a0 xss.length cap0] 54)) lo hi (.slice a0 xss.length cap0)) := (far_OwM k xss).old o ((Old.refl w).alloc _) (by obtain ⟨_, _, _, q⟩ := o; exact q.1)
  have HA : Hid (Old w (w.alloc (.cells #[.bool n, .slice a0 xss.length cap0] 54))) := (Old.refl w).alloc _
  have HR : Hid (∀ r ∈ xss, r.length ≤ 1048576) := hr
  have HS : Hid (k + (offL xss xss.length : Int) ≤ 1073741824) := hs
  have d2 : decide (k + (offL xss xss.length : Int) < 0) = false := by simp; omega
  clear o hr hs
  go_enter Tryd.func37, Tryd.ntmps37
  go_wp2_with fail
  refine (heldIntSS_any xss _ k lo hi _ HO.out hl HR.out hk HS.out).mono ?_
  rintro e w1 ⟨rfl, g1⟩
  have HG : Hid (Old w w1) := Old.trans HA.out g1
  clear g1
  go_wp2_with fail
  go_ret
  exact ⟨rfl, HG.out⟩
theorem offL_bd : ∀ (xss : List (List Int)) (m : Nat), (∀ r ∈ xss, r.length ≤ m) → offL xss xss.length ≤ xss.length * m
  | [], m, h => by simp [offL]
  | r :: rs, m, h => by
    have h1 := offL_bd rs m (fun r hr => h r (List.mem_cons_of_mem _ hr))
    have h2 := h r (List.mem_cons_self ..)
    show r.length + offL rs rs.length ≤ (rs.length + 1) * m
    rw [Nat.add_mul]
    omega
end Go.Proofs.YtfgooclnohnkmaaDoor
