/- Proved: several texts in one: what each proves is said ahead of it. -/
import Derived.Test.YtfcdfielbpdloaaDoorX05
import Derived.Test.YtfcdfielbpdloaaDoorX08
import Derived.Test.YtfcdfielbpdloaaDoorX22
import Derived.Test.YtfcdfielbpdloaaDoorExpC
import Derived.Deep.RegionHeld3
import Derived.Test.YtfcdfielbpdloaaDoorExn
import Derived.Test.YtfcdfielbpdloaaDoorX16
/- Proved: contracts of the draws for an exact conversion and for a floor: lists of at most four numbers and two numbers, and nothing that was there changes. -/
namespace Go.Proofs.YtfcdfielbpdloaaDoor
open Go.ChangeShapes Go.WideShapes Go.ChangeAt Go.RowKit
open M2
set_option linter.unusedVariables false
set_option linter.unusedSimpArgs false
set_option maxRecDepth 100000 in
set_option maxHeartbeats 2000000 in
theorem pickM_c {w : World} {code : Value} {len c B : Nat} (h : Cu w code len c B) (hB : B ≤ 549755813888) (hl : len ≤ 9223372036854775807) (n : Int) (hn : 2 ≤ n) (hn' : n ≤ 70000) :
    Calls Tryd.prog 17 #[.pointer (some ⟨c, 0, none⟩), .int .i64 n] w fun e w' => CuP (fun v => 0 ≤ v ∧ v < n) w code len c (B + 2) e w' := by
  have c1 := next_c h (by omega) hl
  clear h
  have hnn : ¬ n = 0 := by omega
  by_cases hg : 200 < n
  · have d1 : decide (200 < n) = true := by simp; omega
    go_enter Tryd.func17, Tryd.ntmps17
    go_wp2_with fail
    refine c1.mono ?_
    rintro e w1 ⟨⟨v, ⟨hv0, hv1⟩, rfl⟩, g1, C1⟩
    have HG1 : Hid (Chg w w1 c (c + 1)) := g1
    have c2 := next_c C1 (by omega) hl
    clear g1 C1 c1
    go_wp2_with fail
    refine c2.mono ?_
    rintro e w2 ⟨⟨u, ⟨hu0, hu1⟩, rfl⟩, g2, C2⟩
    have HG2 : Hid (Chg w w2 c (c + 1)) := HG1.out.trans g2
    have HC2 : Hid (Cu w2 code len c (B + 2)) := C2
    clear C2 g2 c2 HG1
    have m0 := Int.emod_nonneg (v * 256 + u) (show n ≠ 0 by omega)
    have m1 := Int.emod_lt_of_pos (v * 256 + u) (show 0 < n by omega)
    go_wp2_with fail
    go_ret
    exact ⟨⟨(v * 256 + u) % n, ⟨m0, m1⟩, rfl⟩, HG2.out, HC2.out⟩
  · have d1 : decide (200 < n) = false := by simp; omega
    go_enter Tryd.func17, Tryd.ntmps17
    go_wp2_with fail
    refine c1.mono ?_
    rintro e w1 ⟨⟨v, ⟨hv0, hv1⟩, rfl⟩, g1, C1⟩
    have HG1 : Hid (Chg w w1 c (c + 1)) := g1
    have HC1 : Hid (Cu w1 code len c (B + 1)) := C1
    clear C1 g1 c1
    have m0 := Int.emod_nonneg v (show n ≠ 0 by omega)
    have m1 := Int.emod_lt_of_pos v (show 0 < n by omega)
    go_wp2_with fail
    go_ret
    exact ⟨⟨v % n, ⟨m0, m1⟩, rfl⟩, HG1.out, HC1.out.mono (by omega)⟩
theorem Fv.row {base : Nat} {ya yb : Int} {W : World} {v : Value} (h : Fv base ya yb W v) : Row W v [2, 4, 15, ya, yb] := by
  obtain ⟨p, rfl, hb, hh⟩ := h
  refine .inr ⟨p, 0, 5, rfl, (Array.getElem?_eq_some_iff.1 hh).1, by simp, fun j hj => ?_⟩
  rw [Nat.zero_add, cell_of_row _ _ _ _ _ _ hh]
  match j, hj with
  | 0, _ => rfl
  | 1, _ => rfl
  | 2, _ => rfl
  | 3, _ => rfl
  | 4, _ => rfl
  | j + 5, hj => simp at hj; omega
theorem centred_some (zs xs : List Int) (hz : zs.length ≤ 100) (hxl : xs.length ≤ 100) (hb : ∀ x ∈ xs, -9223372036854775808 ≤ x ∧ x ≤ 9223372036854775807) :
    ∃ (nb : Bool) (ds : List Nat) (ok : Bool), ds.length ≤ 40 ∧ ∀ (v u : Value) (W : World), Row W v zs → Row W u xs → Fit u → Calls Tryd.prog 5 #[v, u] W (Wh W nb ds ok) := by
  by_cases h : basB xs = true ∧ rsB zs xs = true
  · obtain ⟨ps, rfl, hbp⟩ := basB_yes h.1
    obtain ⟨qs, rfl, hR⟩ := rsB_yes rfl hbp h.2
    refine ⟨_, _, true, ?_, fun v u W hv hu hf => spec_CentredWhole_yes qs ps v u W hv hu hf hR h.1 h.2⟩
    have hc : cnt (if coN qs ps * 2 < prodN ps then coN qs ps else prodN ps - coN qs ps) ≤ 7 := by
      have h1 := coN_cnt hR
      have h2 : cnt (prodN ps) ≤ 7 := by
        have := prodN_cnt ps hbp.hi ps.length (Nat.le_refl _)
        rw [List.take_length] at this
        have := hbp.len6
        omega
      split
      · exact h1
      · exact Nat.le_trans (cnt_mono (Nat.sub_le _ _)) h2
    unfold cnt at hc
    omega
  · exact ⟨false, [], false, by simp, fun v u W hv hu hf => spec_CentredWhole_no zs xs v u W hv hu hf (by omega) (by omega) hb h⟩
def FivW (w : World) (e : Ending) (w' : World) : Prop :=
  ∃ r cr zs a ca xs b cb ys m at', e = .returned (.tuple #[.slice r zs.length cr, .slice a xs.length ca, .int .i64 m, .int .i64 at', .slice b ys.length cb]) ∧ Old w w' ∧ (zs.length ≤ 4 ∧ xs.length ≤ 3 ∧ ys.length ≤ 3) ∧ (xs.length ≤ ca ∧ ys.length ≤ cb) ∧ (∀ x ∈ xs, -1000 ≤ x ∧ x ≤ 268435456) ∧ (∀ x ∈ ys, -1000 ≤ x ∧ x ≤ 268435456) ∧ (-1000 ≤ m ∧ m ≤ 268435456) ∧ Row w' (.slice r zs.length cr) zs ∧ Row w' (.slice a xs.length ca) xs ∧ Row w' (.slice b ys.length cb) ys
structure ExS (w : World) (code : Value) (len c B : Nat) (r : Option Addr) (cr lz : Nat) (zs : List Int) (a : Option Addr) (ca lx : Nat) (xs : List Int) (b : Option Addr) (cb ly : Nat) (ys : List Int) (W : World) : Prop where
  hc : Cu W code len c B
  old : Old w W
  hw : w.heap.size ≤ c
  ez : zs.length = lz
  ex : xs.length = lx
  ey : ys.length = ly
  ln : lz ≤ 4 ∧ (1 ≤ lx ∧ lx ≤ 3) ∧ (1 ≤ ly ∧ ly ≤ 3)
  cp : lx ≤ ca ∧ ly ≤ cb
  bx : ∀ x ∈ xs, -1000 ≤ x ∧ x ≤ 268435456
  by_ : ∀ x ∈ ys, -1000 ≤ x ∧ x ≤ 268435456
  rz : RwB (c + 1) W.heap.size W (.slice r lz cr) zs
  ra : RwB (c + 1) W.heap.size W (.slice a lx ca) xs
  rb : RwB (c + 1) W.heap.size W (.slice b ly cb) ys
theorem ExS.draw {w W W' : World} {code : Value} {len c B B' : Nat} {r : Option Addr} {cr lz : Nat} {zs : List Int} {a : Option Addr} {ca lx : Nat} {xs : List Int} {b : Option Addr} {cb ly : Nat} {ys : List Int} (h : ExS w code len c B r cr lz zs a ca lx xs b cb ly ys W) (g : Chg W W' c (c + 1)) (C : Cu W' code len c B') : ExS w code len c B' r cr lz zs a ca lx xs b cb ly ys W' :=
  { h with hc := C, old := h.old.chg g h.hw, rz := (h.rz.chg g (Or.inl (Nat.le_refl _))).mono (Nat.le_refl _) g.size, ra := (h.ra.chg g (Or.inl (Nat.le_refl _))).mono (Nat.le_refl _) g.size, rb := (h.rb.chg g (Or.inl (Nat.le_refl _))).mono (Nat.le_refl _) g.size }
theorem ExS.old' {w W W' : World} {code : Value} {len c B : Nat} {r : Option Addr} {cr lz : Nat} {zs : List Int} {a : Option Addr} {ca lx : Nat} {xs : List Int} {b : Option Addr} {cb ly : Nat} {ys : List Int} (h : ExS w code len c B r cr lz zs a ca lx xs b cb ly ys W) (g : Old W W') : ExS w code len c B r cr lz zs a ca lx xs b cb ly ys W' :=
  h.draw (g.toChg _ _) (h.hc.old g)
theorem ExS.ends {w W : World} {code : Value} {len c B : Nat} {r : Option Addr} {cr lz : Nat} {zs : List Int} {a : Option Addr} {ca lx : Nat} {xs : List Int} {b : Option Addr} {cb ly : Nat} {ys : List Int} (h : ExS w code len c B r cr lz zs a ca lx xs b cb ly ys W) (m at' : Int) (hm : -1000 ≤ m ∧ m ≤ 268435456) : FivW w (.returned (.tuple #[.slice r lz cr, .slice a lx ca, .int .i64 m, .int .i64 at', .slice b ly cb])) W := by
  have e1 := h.ez
  have e2 := h.ex
  have e3 := h.ey
  have h4 := h.ln
  have h5 := h.cp
  refine ⟨r, cr, zs, a, ca, xs, b, cb, ys, m, at', by rw [e1, e2, e3], h.old, ⟨by omega, by omega, by omega⟩, ⟨by omega, by omega⟩, h.bx, h.by_, hm, ?_, ?_, ?_⟩
  · rw [e1]; exact h.rz.1
  · rw [e2]; exact h.ra.1
  · rw [e3]; exact h.rb.1
theorem RwB.first {lo hi : Nat} {W : World} {a : Option Addr} {n c : Nat} {xs : List Int} (h : RwB lo hi W (.slice a n c) xs) (hn : 0 < n) (hx : xs.length = n) : ∃ g o, a = some ⟨g, o, none⟩ ∧ lo ≤ g ∧ W.cell? ⟨g, o, none⟩ = some (.int .i64 (xs.getD 0 0)) := by
  rcases h.1 with ⟨a', c', e1, e2⟩ | ⟨b, o, cap, e, hb, h0, hc⟩
  · rw [e2] at hx
    simp at hx
    omega
  · injection e with e1 e2 e3
    have := h.2 b o n c (by rw [e1])
    exact ⟨b, o, e1, by omega, hc 0 h0⟩
set_option maxRecDepth 100000 in
set_option maxHeartbeats 8000000 in
theorem drawExact_c (w : World) (code : Value) (len : Nat) (h : BysW w code len) (hl : len ≤ 9223372036854775807) :
    Calls Tryd.prog 4 #[code] w (FivW w) := by
  obtain ⟨ca0, ccap, hcode⟩ : ∃ ca ccap, code = .slice ca len ccap := by
    rcases h with ⟨a, cap, e, e2⟩ | ⟨b, o, cap, e, _⟩
    · exact ⟨a, cap, by rw [e, e2]⟩
    · exact ⟨_, cap, e⟩
  subst hcode
  have C0 := Cu.new h
  have HO0 : Hid (Old w (w.alloc (.cells #[.slice ca0 len ccap, .int .i64 0, .int .u64 0] 42))) := (Old.refl w).alloc _
  have c1 := bases_c C0 (by omega) hl
  have sz1 : (w.alloc (.cells #[.slice ca0 len ccap, .int .i64 0, .int .u64 0] 42)).heap.size = w.heap.size + 1 := by simp
  clear h C0
  go_enter Tryd.func4, Tryd.ntmps4
  go_wp2_with fail
  refine c1.mono ?_
  rintro e w2 ⟨a, ca, xs, b, cb, ys, rfl, ⟨hx1, hx3⟩, ⟨hy1, hy3⟩, hcap, hxb, hyb, g2, C2, ra, rb⟩
  rw [sz1] at ra rb
  have HO2 : Hid (Old w w2) := HO0.out.chg g2 (by omega)
  have c2 := among_lit3 C2 (by omega) hl [1009, 65537, 31, 17] (by simp) (by simp) 3
  have HA := hid ra
  have HB := hid rb
  have HXB := hid hxb
  have HYB := hid hyb
  obtain ⟨lx, hlx⟩ : ∃ lx, xs.length = lx := ⟨_, rfl⟩
  obtain ⟨ly, hly⟩ : ∃ ly, ys.length = ly := ⟨_, rfl⟩
  rw [hlx] at HA hx1 hx3 hcap ⊢
  rw [hly] at HB hy1 hy3 hcap ⊢
  clear g2 C2 ra rb hxb hyb c1 HO0
  go_wp2_with fail
  refine c2.mono ?_
  rintro e w3 ⟨⟨m, hm, rfl⟩, g3, C3⟩
  have hm2 : 17 ≤ m ∧ m ≤ 65537 := by simp at hm; omega
  have HO3 : Hid (Old w w3) := HO2.out.chg g3 (by omega)
  have HA3 := hid ((HA.out.chg g3 (Or.inl (by omega))).mono (Nat.le_refl _) g3.size)
  have HB3 := hid ((HB.out.chg g3 (Or.inl (by omega))).mono (Nat.le_refl _) g3.size)
  have c3 := residues_c C3 (by omega) hl (.slice a lx ca) xs HA3.out (by omega) (by omega) HXB.out
  clear g3 C3 c2 HA HB HO2 hm
  go_wp2_with fail
  refine c3.mono ?_
  rintro e w4 ⟨r, cr, zs, rfl, hz, hzb, g4, C4, o4⟩
  obtain ⟨lz, hlz⟩ : ∃ lz, zs.length = lz := ⟨_, rfl⟩
  have s3 := HO3.out.size
  have s34 := g4.size
  have hc3 : w.heap.size + 1 ≤ w3.heap.size := by
    have h1 := HA3.out
    have h2 := h1.first (by omega) hlx
    obtain ⟨g, o, _, h3, h4⟩ := h2
    have := block_lt_of_cell h4
    simp at this
    omega
  have S4 : Hid (ExS w (.slice ca0 len ccap) len w.heap.size (0 + 1000 + 2 + 1000) r cr lz zs a ca lx xs b cb ly ys w4) := by
    refine ⟨C4.mono (by omega), HO3.out.chg g4 (Nat.le_refl _), Nat.le_refl _, hlz, hlx, hly, ⟨by omega, ⟨hx1, hx3⟩, ⟨hy1, hy3⟩⟩, hcap, HXB.out, HYB.out, ?_, ?_, ?_⟩
    · have := RwB.own o4
      rw [hlz] at this
      exact this.mono (by omega) (Nat.le_refl _)
    · exact (HA3.out.chg g4 (Or.inl (by omega))).mono (Nat.le_refl _) s34
    · exact (HB3.out.chg g4 (Or.inl (by omega))).mono (Nat.le_refl _) s34
  rw [hlz]
  obtain ⟨nb, ds, ok, hds, KC⟩ := centred_some zs xs (by omega) (by omega) (fun x hx => by have := HXB.out x hx; omega)
  have HKC := hid KC
  have c4 := pickM_c S4.out.hc (by omega) hl m (by omega) (by omega)
  have fA : Fit (.slice a lx ca) := hcap.1
  clear g4 C4 o4 c3 HO3 HA3 HB3 HXB HYB hz hzb KC s3 s34 hc3 hlx hly hlz
  go_wp2_with fail
  refine c4.mono ?_
  rintro e w5 ⟨⟨t5, ht5, rfl⟩, g5, C5⟩
  have S5 := hid (S4.out.draw g5 C5)
  clear g5 C5 c4 S4 ht5
  go_wp2_with fail
  refine (HKC.out _ _ _ S5.out.rz.1 S5.out.ra.1 fA).mono ?_
  rintro e w6 ⟨v6, rfl, g6, o6⟩
  obtain ⟨xa, xc, rfl⟩ := (Own.row o6).sliceN
  obtain ⟨B6, hB6⟩ : ∃ B6 : World, w6.alloc (.cells #[.bool nb, .slice xa ds.length xc] 27) = B6 := ⟨_, rfl⟩
  have S6 : Hid (ExS w (.slice ca0 len ccap) len w.heap.size (0 + 1000 + 2 + 1000 + 2) r cr lz zs a ca lx xs b cb ly ys B6) := by rw [← hB6]; exact S5.out.old' (g6.alloc _)
  have X6 : Hid (Bk B6 w6.heap.size #[.bool nb, .slice xa ds.length xc] 27) := by rw [← hB6]; exact Bk.new' w6 _ _ rfl
  have R6 : Hid (RwB w5.heap.size w6.heap.size B6 (.slice xa ds.length xc) (toI ds)) := by rw [← hB6]; exact (RwB.own o6).old ((Old.refl w6).alloc _)
  have s56 := g6.size
  have hc5 : w.heap.size + 1 ≤ w5.heap.size := by
    obtain ⟨g, o, _, h3, h4⟩ := S5.out.ra.first (by omega) S5.out.ex
    have := block_lt_of_cell h4
    simp at this
    omega
  obtain ⟨bx6, hbx6⟩ : ∃ bx6, w6.heap.size = bx6 := ⟨_, rfl⟩
  rw [hbx6] at X6 R6 s56
  clear g6 o6 HKC S5
  cases ok
  · have c9 := pick_c S6.out.hc (by omega) hl 40 (by omega) (by omega)
    go_wp2_with fail
    refine c9.mono ?_
    rintro e w9 ⟨⟨u, hu, rfl⟩, gq, Cq⟩
    have S9 := hid (S6.out.draw gq Cq)
    clear gq Cq c9 S6
    by_cases u0 : u = 0
    · subst u0
      obtain ⟨ga, oa, rfl, hga, ka⟩ := S9.out.ra.first (by omega) S9.out.ex
      obtain ⟨gb, ob, rfl, hgb, kb⟩ := S9.out.rb.first (by omega) S9.out.ey
      have hya := S9.out.bx (xs.getD 0 0) (by have := S9.out.ex; simp [List.getD, show 0 < xs.length by omega])
      have hyb := S9.out.by_ (ys.getD 0 0) (by have := S9.out.ey; simp [List.getD, show 0 < ys.length by omega])
      obtain ⟨ya, hya2⟩ : ∃ ya, xs.getD 0 0 = ya := ⟨_, rfl⟩
      obtain ⟨yb, hyb2⟩ : ∃ yb, ys.getD 0 0 = yb := ⟨_, rfl⟩
      rw [hya2] at ka hya
      rw [hyb2] at kb hyb
      clear hya2 hyb2
      have hx0 : (0 : Int) < (lx : Int) := by omega
      have hy0 : (0 : Int) < (ly : Int) := by omega
      have dq : ((0 : Int) == 0) = true := rfl
      go_wp2_with fail
      have HKA := hid (fun W v (g : Old w9 W) (hv : Fv w9.heap.size ya yb W v) => among_c (S9.out.hc.old g) (by omega) hl v [2, 4, 15, ya, yb] (by simp) (by simp) hv.row (fun b o n cap e => by obtain ⟨p, rfl, hp, _⟩ := hv; injection e with e1; injection e1 with e2; injection e2 with e3; have := S9.out.hc.lt; omega))
      refine reg_Ex w9 w.heap.size ga oa lx ca ya gb ob ly cb yb (fun y => -1000 ≤ y ∧ y ≤ 268435456) (fun W => ExS w (.slice ca0 len ccap) len w.heap.size 10000 r cr lz zs (some ⟨ga, oa, none⟩) ca lx xs (some ⟨gb, ob, none⟩) cb ly ys W) ka kb hx0 hy0 (fun W v g hv => (HKA.out W v g hv).mono (fun e w' h => ?_)) _ _ ?_ ?_ ?_ ?_ ?_
      · obtain ⟨⟨y, hy, rfl⟩, gq, Cq⟩ := h
        exact ⟨y, rfl, by simp at hy; omega, (S9.out.old' g).draw gq (Cq.mono (by omega))⟩
      iterate 4 (· exact rfl)
      intro us W y hy hW
      simp only [putAll, Act.put, slotEx, List.range, List.range.loop, List.map_cons, List.map_nil, List.getD_cons_zero, List.getD_cons_succ, List.setIfInBounds_toArray, List.set_cons_succ, List.set_cons_zero]
      have HW := hid hW
      clear hW HKA S9 ka kb hya hyb
      go_wp2_with fail
      refine bodyPost_ret (v := .tuple #[.slice r lz cr, .slice (some ⟨ga, oa, none⟩) lx ca, .int .i64 y, .int .i64 t5, .slice (some ⟨gb, ob, none⟩) ly cb]) (by simp [results, Tryd.results4, go_sem]) rfl ?_
      exact HW.out.ends y t5 hy
    have du : (u == 0) = false := by rw [beq_eq_false_iff_ne]; exact u0
    by_cases u1 : u = 1
    · subst u1
      have c6 := among_lit3 S9.out.hc (by omega) hl [-1, m] (by simp) (by simp) 3
      go_wp2_with fail
      refine c6.mono ?_
      rintro e w10 ⟨⟨y, hy, rfl⟩, gq, Cq⟩
      have S10 := hid (S9.out.draw gq Cq)
      clear gq Cq c6 S9
      go_wp2_with fail
      refine bodyPost_ret (v := .tuple #[.slice r lz cr, .slice a lx ca, .int .i64 m, .int .i64 y, .slice b ly cb]) (by simp [results, Tryd.results4, go_sem]) rfl ?_
      exact S10.out.ends m y (by omega)
    have du1 : (u == 1) = false := by rw [beq_eq_false_iff_ne]; exact u1
    go_wp2_with fail
    refine bodyPost_ret (v := .tuple #[.slice r lz cr, .slice a lx ca, .int .i64 m, .int .i64 t5, .slice b ly cb]) (by simp [results, Tryd.results4, go_sem]) rfl ?_
    exact S9.out.ends m t5 (by omega)
  have c7 := one_c S6.out.hc (by omega) hl 2 (by omega) (by omega)
  go_wp2_with fail
  refine c7.mono ?_
  rintro e w7 ⟨⟨o, rfl⟩, gq, Cq⟩
  have S7 := hid (S6.out.draw gq Cq)
  have X7 := hid (X6.out.chg gq (Or.inr (by omega)))
  have R7 := hid (R6.out.chg gq (Or.inl (by omega)))
  clear gq Cq c7 S6 X6 R6
  cases o
  · have c9 := pick_c S7.out.hc (by omega) hl 40 (by omega) (by omega)
    go_wp2_with fail
    refine c9.mono ?_
    rintro e w9 ⟨⟨u, hu, rfl⟩, gq, Cq⟩
    have S9 := hid (S7.out.draw gq Cq)
    clear gq Cq c9 S7
    by_cases u0 : u = 0
    · subst u0
      obtain ⟨ga, oa, rfl, hga, ka⟩ := S9.out.ra.first (by omega) S9.out.ex
      obtain ⟨gb, ob, rfl, hgb, kb⟩ := S9.out.rb.first (by omega) S9.out.ey
      have hya := S9.out.bx (xs.getD 0 0) (by have := S9.out.ex; simp [List.getD, show 0 < xs.length by omega])
      have hyb := S9.out.by_ (ys.getD 0 0) (by have := S9.out.ey; simp [List.getD, show 0 < ys.length by omega])
      obtain ⟨ya, hya2⟩ : ∃ ya, xs.getD 0 0 = ya := ⟨_, rfl⟩
      obtain ⟨yb, hyb2⟩ : ∃ yb, ys.getD 0 0 = yb := ⟨_, rfl⟩
      rw [hya2] at ka hya
      rw [hyb2] at kb hyb
      clear hya2 hyb2
      have hx0 : (0 : Int) < (lx : Int) := by omega
      have hy0 : (0 : Int) < (ly : Int) := by omega
      have dq : ((0 : Int) == 0) = true := rfl
      go_wp2_with fail
      have HKA := hid (fun W v (g : Old w9 W) (hv : Fv w9.heap.size ya yb W v) => among_c (S9.out.hc.old g) (by omega) hl v [2, 4, 15, ya, yb] (by simp) (by simp) hv.row (fun b o n cap e => by obtain ⟨p, rfl, hp, _⟩ := hv; injection e with e1; injection e1 with e2; injection e2 with e3; have := S9.out.hc.lt; omega))
      refine reg_Ex w9 w.heap.size ga oa lx ca ya gb ob ly cb yb (fun y => -1000 ≤ y ∧ y ≤ 268435456) (fun W => ExS w (.slice ca0 len ccap) len w.heap.size 10000 r cr lz zs (some ⟨ga, oa, none⟩) ca lx xs (some ⟨gb, ob, none⟩) cb ly ys W) ka kb hx0 hy0 (fun W v g hv => (HKA.out W v g hv).mono (fun e w' h => ?_)) _ _ ?_ ?_ ?_ ?_ ?_
      · obtain ⟨⟨y, hy, rfl⟩, gq, Cq⟩ := h
        exact ⟨y, rfl, by simp at hy; omega, (S9.out.old' g).draw gq (Cq.mono (by omega))⟩
      iterate 4 (· exact rfl)
      intro us W y hy hW
      simp only [putAll, Act.put, slotEx, List.range, List.range.loop, List.map_cons, List.map_nil, List.getD_cons_zero, List.getD_cons_succ, List.setIfInBounds_toArray, List.set_cons_succ, List.set_cons_zero]
      have HW := hid hW
      clear hW HKA S9 ka kb hya hyb
      go_wp2_with fail
      refine bodyPost_ret (v := .tuple #[.slice r lz cr, .slice (some ⟨ga, oa, none⟩) lx ca, .int .i64 y, .int .i64 t5, .slice (some ⟨gb, ob, none⟩) ly cb]) (by simp [results, Tryd.results4, go_sem]) rfl ?_
      exact HW.out.ends y t5 hy
    have du : (u == 0) = false := by rw [beq_eq_false_iff_ne]; exact u0
    by_cases u1 : u = 1
    · subst u1
      have c6 := among_lit3 S9.out.hc (by omega) hl [-1, m] (by simp) (by simp) 3
      go_wp2_with fail
      refine c6.mono ?_
      rintro e w10 ⟨⟨y, hy, rfl⟩, gq, Cq⟩
      have S10 := hid (S9.out.draw gq Cq)
      clear gq Cq c6 S9
      go_wp2_with fail
      refine bodyPost_ret (v := .tuple #[.slice r lz cr, .slice a lx ca, .int .i64 m, .int .i64 y, .slice b ly cb]) (by simp [results, Tryd.results4, go_sem]) rfl ?_
      exact S10.out.ends m y (by omega)
    have du1 : (u == 1) = false := by rw [beq_eq_false_iff_ne]; exact u1
    go_wp2_with fail
    refine bodyPost_ret (v := .tuple #[.slice r lz cr, .slice a lx ca, .int .i64 m, .int .i64 t5, .slice b ly cb]) (by simp [results, Tryd.results4, go_sem]) rfl ?_
    exact S9.out.ends m t5 (by omega)
  have p0 := X7.out.c (i := 0) rfl
  have p1 := X7.out.c (i := 1) rfl
  have KM := spec_modW nb (toI ds) m (.slice xa ds.length xc) w7 R7.out.1 (by rw [toI_len]; omega)
  obtain ⟨t8, ht8⟩ : ∃ t8, modW nb (toI ds) m = t8 := ⟨_, rfl⟩
  rw [ht8] at KM
  clear ht8
  go_wp2_with fail
  refine KM.mono ?_
  rintro e w8 ⟨rfl, g8⟩
  have S8 := hid (S7.out.old' g8)
  clear g8 S7 X7 R7 KM p0 p1
  have c9 := pick_c S8.out.hc (by omega) hl 40 (by omega) (by omega)
  go_wp2_with fail
  refine c9.mono ?_
  rintro e w9 ⟨⟨u, hu, rfl⟩, gq, Cq⟩
  have S9 := hid (S8.out.draw gq Cq)
  clear gq Cq c9 S8
  by_cases u0 : u = 0
  · subst u0
    obtain ⟨ga, oa, rfl, hga, ka⟩ := S9.out.ra.first (by omega) S9.out.ex
    obtain ⟨gb, ob, rfl, hgb, kb⟩ := S9.out.rb.first (by omega) S9.out.ey
    have hya := S9.out.bx (xs.getD 0 0) (by have := S9.out.ex; simp [List.getD, show 0 < xs.length by omega])
    have hyb := S9.out.by_ (ys.getD 0 0) (by have := S9.out.ey; simp [List.getD, show 0 < ys.length by omega])
    obtain ⟨ya, hya2⟩ : ∃ ya, xs.getD 0 0 = ya := ⟨_, rfl⟩
    obtain ⟨yb, hyb2⟩ : ∃ yb, ys.getD 0 0 = yb := ⟨_, rfl⟩
    rw [hya2] at ka hya
    rw [hyb2] at kb hyb
    clear hya2 hyb2
    have hx0 : (0 : Int) < (lx : Int) := by omega
    have hy0 : (0 : Int) < (ly : Int) := by omega
    have dq : ((0 : Int) == 0) = true := rfl
    go_wp2_with fail
    have HKA := hid (fun W v (g : Old w9 W) (hv : Fv w9.heap.size ya yb W v) => among_c (S9.out.hc.old g) (by omega) hl v [2, 4, 15, ya, yb] (by simp) (by simp) hv.row (fun b o n cap e => by obtain ⟨p, rfl, hp, _⟩ := hv; injection e with e1; injection e1 with e2; injection e2 with e3; have := S9.out.hc.lt; omega))
    refine reg_Ex w9 w.heap.size ga oa lx ca ya gb ob ly cb yb (fun y => -1000 ≤ y ∧ y ≤ 268435456) (fun W => ExS w (.slice ca0 len ccap) len w.heap.size 10000 r cr lz zs (some ⟨ga, oa, none⟩) ca lx xs (some ⟨gb, ob, none⟩) cb ly ys W) ka kb hx0 hy0 (fun W v g hv => (HKA.out W v g hv).mono (fun e w' h => ?_)) _ _ ?_ ?_ ?_ ?_ ?_
    · obtain ⟨⟨y, hy, rfl⟩, gq, Cq⟩ := h
      exact ⟨y, rfl, by simp at hy; omega, (S9.out.old' g).draw gq (Cq.mono (by omega))⟩
    iterate 4 (· exact rfl)
    intro us W y hy hW
    simp only [putAll, Act.put, slotEx, List.range, List.range.loop, List.map_cons, List.map_nil, List.getD_cons_zero, List.getD_cons_succ, List.setIfInBounds_toArray, List.set_cons_succ, List.set_cons_zero]
    have HW := hid hW
    clear hW HKA S9 ka kb hya hyb
    go_wp2_with fail
    refine bodyPost_ret (v := .tuple #[.slice r lz cr, .slice (some ⟨ga, oa, none⟩) lx ca, .int .i64 y, .int .i64 t8, .slice (some ⟨gb, ob, none⟩) ly cb]) (by simp [results, Tryd.results4, go_sem]) rfl ?_
    exact HW.out.ends y t8 hy
  have du : (u == 0) = false := by rw [beq_eq_false_iff_ne]; exact u0
  by_cases u1 : u = 1
  · subst u1
    have c6 := among_lit3 S9.out.hc (by omega) hl [-1, m] (by simp) (by simp) 3
    go_wp2_with fail
    refine c6.mono ?_
    rintro e w10 ⟨⟨y, hy, rfl⟩, gq, Cq⟩
    have S10 := hid (S9.out.draw gq Cq)
    clear gq Cq c6 S9
    go_wp2_with fail
    refine bodyPost_ret (v := .tuple #[.slice r lz cr, .slice a lx ca, .int .i64 m, .int .i64 y, .slice b ly cb]) (by simp [results, Tryd.results4, go_sem]) rfl ?_
    exact S10.out.ends m y (by omega)
  have du1 : (u == 1) = false := by rw [beq_eq_false_iff_ne]; exact u1
  go_wp2_with fail
  refine bodyPost_ret (v := .tuple #[.slice r lz cr, .slice a lx ca, .int .i64 m, .int .i64 t8, .slice b ly cb]) (by simp [results, Tryd.results4, go_sem]) rfl ?_
  exact S9.out.ends m t8 (by omega)
def FouW (w : World) (e : Ending) (w' : World) : Prop :=
  ∃ r cr zs d cd us a ca xs b cb ys, e = .returned (.tuple #[.slice r zs.length cr, .slice d us.length cd, .slice a xs.length ca, .slice b ys.length cb]) ∧ Old w w' ∧ (zs.length ≤ 4 ∧ us.length ≤ 4 ∧ xs.length ≤ 3 ∧ ys.length ≤ 3) ∧ (xs.length ≤ ca ∧ ys.length ≤ cb) ∧ (∀ x ∈ xs, -1000 ≤ x ∧ x ≤ 268435456) ∧ (∀ x ∈ ys, -1000 ≤ x ∧ x ≤ 268435456) ∧ Row w' (.slice r zs.length cr) zs ∧ Row w' (.slice d us.length cd) us ∧ Row w' (.slice a xs.length ca) xs ∧ Row w' (.slice b ys.length cb) ys
set_option maxRecDepth 100000 in
set_option maxHeartbeats 8000000 in
theorem drawFloor_c (w : World) (code : Value) (len : Nat) (h : BysW w code len) (hl : len ≤ 9223372036854775807) :
    Calls Tryd.prog 11 #[code] w (FouW w) := by
  obtain ⟨ca0, ccap, hcode⟩ : ∃ ca ccap, code = .slice ca len ccap := by
    rcases h with ⟨a, cap, e, e2⟩ | ⟨b, o, cap, e, _⟩
    · exact ⟨a, cap, by rw [e, e2]⟩
    · exact ⟨_, cap, e⟩
  subst hcode
  have C0 := Cu.new h
  have HO0 : Hid (Old w (w.alloc (.cells #[.slice ca0 len ccap, .int .i64 0, .int .u64 0] 42))) := (Old.refl w).alloc _
  have c1 := bases_c C0 (by omega) hl
  have sz1 : (w.alloc (.cells #[.slice ca0 len ccap, .int .i64 0, .int .u64 0] 42)).heap.size = w.heap.size + 1 := by simp
  clear h C0
  go_enter Tryd.func11, Tryd.ntmps11
  go_wp2_with fail
  refine c1.mono ?_
  rintro e w2 ⟨a, ca, xs, b, cb, ys, rfl, ⟨hx1, hx3⟩, ⟨hy1, hy3⟩, hcap, hxb, hyb, g2, C2, ra, rb⟩
  rw [sz1] at ra rb
  have HO2 : Hid (Old w w2) := HO0.out.chg g2 (by omega)
  have HA := hid ra
  have HB := hid rb
  have HXB := hid hxb
  have HYB := hid hyb
  obtain ⟨lx, hlx⟩ : ∃ lx, xs.length = lx := ⟨_, rfl⟩
  obtain ⟨ly, hly⟩ : ∃ ly, ys.length = ly := ⟨_, rfl⟩
  rw [hlx] at HA hx1 hx3 hcap ⊢
  rw [hly] at HB hy1 hy3 hcap ⊢
  have c3 := residues_c C2 (by omega) hl (.slice a lx ca) xs HA.out (by omega) (by omega) HXB.out
  clear g2 C2 ra rb hxb hyb c1 HO0
  go_wp2_with fail
  refine c3.mono ?_
  rintro e w3 ⟨r, cr, zs, rfl, hz, hzb, g3, C3, o3⟩
  obtain ⟨lz, hlz⟩ : ∃ lz, zs.length = lz := ⟨_, rfl⟩
  have HO3 : Hid (Old w w3) := HO2.out.chg g3 (by omega)
  have HA3 := hid ((HA.out.chg g3 (Or.inl (by omega))).mono (Nat.le_refl _) g3.size)
  have HB3 := hid ((HB.out.chg g3 (Or.inl (by omega))).mono (Nat.le_refl _) g3.size)
  have hw2 : w.heap.size + 1 ≤ w2.heap.size := by
    obtain ⟨g, o, _, h3, h4⟩ := HA.out.first (by omega) hlx
    have := block_lt_of_cell h4
    simp at this
    omega
  have RZ3 : Hid (RwB (w.heap.size + 1) w3.heap.size w3 (.slice r lz cr) zs) := by
    have := RwB.own o3
    rw [hlz] at this
    exact this.mono (by omega) (Nat.le_refl _)
  have c4 := residues_c C3 (by omega) hl (.slice b ly cb) ys HB3.out (by omega) (by omega) HYB.out
  rw [hlz]
  have HZ : Hid (lz ≤ 4) := by show _ ≤ _; omega
  clear g3 C3 o3 c3 HA HB HO2 hz hzb
  go_wp2_with fail
  refine c4.mono ?_
  rintro e w4 ⟨d, cd, us, rfl, hu, hub, g4, C4, o4⟩
  obtain ⟨lu, hlu⟩ : ∃ lu, us.length = lu := ⟨_, rfl⟩
  have HO4 : Hid (Old w w4) := HO3.out.chg g4 (by omega)
  have HA4 := hid (HA3.out.chg g4 (Or.inl (by omega))).1
  have HB4 := hid (HB3.out.chg g4 (Or.inl (by omega))).1
  have RZ4 := hid (RZ3.out.chg g4 (Or.inl (by omega))).1
  have RU4 : Hid (Row w4 (.slice d us.length cd) us) := Own.row o4
  have HU : Hid (lu ≤ 4) := by show _ ≤ _; omega
  rw [hlu] at RU4 ⊢
  clear g4 C4 o4 c4 HO3 HA3 HB3 RZ3 hu hub
  go_wp2_with fail
  refine bodyPost_ret (v := .tuple #[.slice r lz cr, .slice d lu cd, .slice a lx ca, .slice b ly cb]) (by simp [results, Tryd.results11, go_sem]) rfl ?_
  have h1 := HZ.out
  have h2 := HU.out
  exact ⟨r, cr, zs, d, cd, us, a, ca, xs, b, cb, ys, by rw [hlz, hlu, hlx, hly], HO4.out, ⟨by omega, by omega, by omega, by omega⟩, ⟨by omega, by omega⟩, HXB.out, HYB.out, by rw [hlz]; exact RZ4.out, by rw [hlu]; exact RU4.out, by rw [hlx]; exact HA4.out, by rw [hly]; exact HB4.out⟩
end Go.Proofs.YtfcdfielbpdloaaDoor
/- Proved: the walk of the statement FnExact: converted exactly a number is itself, and a floor is what the model tells. -/
namespace Go.Proofs.YtfcdfielbpdloaaDoor
open Go.ChangeShapes Go.WideShapes Go.ChangeAt Go.RowKit
open M2
set_option linter.unusedVariables false
set_option linter.unusedSimpArgs false
set_option maxRecDepth 100000 in
set_option maxHeartbeats 8000000 in
theorem law_ExactB (w : World) (code more : Value) (len len2 : Nat) (h : BysW w code len) (hl : len ≤ 9223372036854775807) (h2 : BysW w more len2) (hl2 : len2 ≤ 9223372036854775807) (hP : PrsW w) (hT : TabW w) :
    Calls Tryd.prog 3 #[code, more] w fun e w' => e = .returned (.bool true) ∧ Old w w' := by
  have KD : Hid (Calls Tryd.prog 4 #[code] w (FivW w)) := drawExact_c w code len h hl
  obtain ⟨ca0, ccap, hcode⟩ : ∃ ca ccap, code = .slice ca len ccap := by
    rcases h with ⟨a, cap, e, e2⟩ | ⟨b, o, cap, e, _⟩
    · exact ⟨a, cap, by rw [e, e2]⟩
    · exact ⟨_, cap, e⟩
  obtain ⟨cb0, dcap, hmore⟩ : ∃ ca ccap, more = .slice ca len2 ccap := by
    rcases h2 with ⟨a, cap, e, e2⟩ | ⟨b, o, cap, e, _⟩
    · exact ⟨a, cap, by rw [e, e2]⟩
    · exact ⟨_, cap, e⟩
  subst hcode hmore
  have HMO := hid h2
  have HP := hid hP
  have HT := hid hT
  have KT := hid (fun W (q : Old w W) => drawFloor_c W _ len2 (bysW_oldX HMO.out q) hl2)
  clear h h2 hP hT HMO
  obtain ⟨S, hS⟩ : ∃ S, wrap64 ((len : Int) + (len2 : Int)) = S := ⟨_, rfl⟩
  by_cases hb : (1048576 : Int) < S
  · have d1 : decide ((1048576 : Int) < S) = true := decide_eq_true hb
    go_enter Tryd.func3, Tryd.ntmps3
    go_wp2_with fail
    go_ret
    exact ⟨rfl, Old.refl _⟩
  have d1 : decide ((1048576 : Int) < S) = false := decide_eq_false hb
  clear hb
  go_enter Tryd.func3, Tryd.ntmps3
  go_wp2_with fail
  refine KD.out.mono ?_
  rintro e w1 ⟨r, cr, zs, a, ca, xs, b, cb, ys, m, at', rfl, g1, ⟨hz4, hx3, hy3⟩, ⟨hca, hcb⟩, hxb, hyb, hmb, rz, ra, rb⟩
  obtain ⟨nb, ds, cn, T, EL, ok, K⟩ := ex_all zs xs ys m (by omega) (by omega) (by omega) (fun x hx => by have := hxb x hx; omega) (fun x hx => by have := hyb x hx; omega)
  have HK := hid K
  have O1 := hid g1
  have HRZ := hid rz
  have HRA := hid ra
  have HRB := hid rb
  obtain ⟨lx, hlx⟩ : ∃ lx, xs.length = lx := ⟨_, rfl⟩
  obtain ⟨ly, hly⟩ : ∃ ly, ys.length = ly := ⟨_, rfl⟩
  obtain ⟨lz, hlz⟩ : ∃ lz, zs.length = lz := ⟨_, rfl⟩
  have HLX : Hid (xs.length = lx) := hlx
  rw [hlx] at HRA hca hx3
  rw [hly] at HRB hcb
  rw [hlz] at HRZ
  rw [hlx, hly, hlz]
  have fA : Fit (.slice a lx ca) := hca
  have fB : Fit (.slice b ly cb) := hcb
  clear KD d1 hS g1 rz ra rb hxb hyb K hlx hly hlz hz4 hy3
  go_wp2_with fail
  refine (HK.out.kc _ _ _ HRZ.out HRA.out fA).mono ?_
  rintro e w2 ⟨v2, rfl, g2, o2⟩
  obtain ⟨xa, xc, rfl⟩ := (Own.row o2).sliceN
  obtain ⟨B2, hB2⟩ : ∃ B2 : World, w2.alloc (.cells #[.bool nb, .slice xa ds.length xc] 27) = B2 := ⟨_, rfl⟩
  have O2 : Hid (Old w1 B2) := by rw [← hB2]; exact g2.alloc _
  have X2 : Hid (Bk B2 w2.heap.size #[.bool nb, .slice xa ds.length xc] 27) := by rw [← hB2]; exact Bk.new' w2 _ _ rfl
  have R2 : Hid (Row B2 (.slice xa ds.length xc) (toI ds)) := by rw [← hB2]; exact (Own.row o2).old ((Old.refl w2).alloc _)
  obtain ⟨bx, hbx⟩ : ∃ bx, w2.heap.size = bx := ⟨_, rfl⟩
  rw [hbx] at X2
  have p0 := X2.out.c (i := 0) rfl
  have p1 := X2.out.c (i := 1) rfl
  clear g2 o2
  have KM := spec_modW nb (toI ds) m (.slice xa ds.length xc) B2 R2.out (by rw [toI_len]; have := HK.out.hds; omega)
  rw [HK.out.hT] at KM
  have HKM := hid KM
  clear KM
  go_wp2_with fail
  refine HKM.out.mono ?_
  rintro e w3 ⟨rfl, g3⟩
  have O3 : Hid (Old w1 w3) := Old.trans O2.out g3
  have X3 : Hid (Bk w3 bx #[.bool nb, .slice xa ds.length xc] 27) := X2.out.old g3
  have R3 : Hid (Row w3 (.slice xa ds.length xc) (toI ds)) := R2.out.old g3
  clear g3 O2 X2 R2 HKM p0 p1 hB2 hbx
  go_wp2_with fail
  refine (HK.out.ki _ _ _ _ (HP.out.old (Old.trans O1.out O3.out)) (HT.out.old (Old.trans O1.out O3.out)) (HRZ.out.old O3.out) (HRA.out.old O3.out) fA (HRB.out.old O3.out) fB).mono ?_
  rintro e w4 ⟨v4, rfl, g4, o4⟩
  obtain ⟨ea, ec, rfl⟩ := (Own.row o4).slice
  have O4 : Hid (Old w1 w4) := Old.trans O3.out g4
  have X4 : Hid (Bk w4 bx #[.bool nb, .slice xa ds.length xc] 27) := X3.out.old g4
  have R4 : Hid (Row w4 (.slice xa ds.length xc) (toI ds)) := R3.out.old g4
  have E4 : Hid (Row w4 (.slice ea EL.length ec) EL) := Own.row o4
  clear g4 o4 O3 X3 R3
  go_wp2_with fail
  refine (HK.out.ks _ _ _ _ (HRZ.out.old O4.out) (HRA.out.old O4.out) fA (HRB.out.old O4.out) fB).mono ?_
  rintro e w5 ⟨v5, rfl, g5, o5⟩
  obtain ⟨ia, ic, rfl⟩ := (Own.row o5).slice
  have O5 : Hid (Old w1 w5) := Old.trans O4.out g5
  have U5 : Hid (Old w w5) := Old.trans O1.out O5.out
  have X5 : Hid (Bk w5 bx #[.bool nb, .slice xa ds.length xc] 27) := X4.out.old g5
  have R5 : Hid (Row w5 (.slice xa ds.length xc) (toI ds)) := R4.out.old g5
  have E5 : Hid (Row w5 (.slice ea EL.length ec) EL) := E4.out.old g5
  have dn : (ok != ok) = false := by simp
  clear g5 o5 O4 X4 R4 E4
  cases ok
  · go_wp2_with fail
    refine (KT.out _ U5.out).mono ?_
    rintro e t1 ⟨fr, fcr, fzs, fd, fcd, fus, fa, fca, fxs, fb, fcb, fys, rfl, h1, ⟨i1, i2, i3, i4⟩, ⟨i5, i6⟩, ib1, ib2, q1, q2, q3, q4⟩
    obtain ⟨FL, fk, hFL, FI, FS⟩ := fl_all fzs fus fxs fys (by omega) (by omega) (by omega) (by omega) (fun x hx => by have := ib1 x hx; omega) (fun x hx => by have := ib2 x hx; omega)
    have HFI := hid FI
    have HFS := hid FS
    have A1 : Hid (Old w t1) := Old.trans U5.out h1
    have Q0 := hid q1
    have Q1 := hid q2
    have Q2 := hid q3
    have Q3 := hid q4
    obtain ⟨l0, el0⟩ : ∃ l0, fzs.length = l0 := ⟨_, rfl⟩
    obtain ⟨l1, el1⟩ : ∃ l1, fus.length = l1 := ⟨_, rfl⟩
    obtain ⟨l2, el2⟩ : ∃ l2, fxs.length = l2 := ⟨_, rfl⟩
    obtain ⟨l3, el3⟩ : ∃ l3, fys.length = l3 := ⟨_, rfl⟩
    rw [el0] at Q0
    rw [el1] at Q1
    rw [el2] at Q2 i5
    rw [el3] at Q3 i6
    rw [el0, el1, el2, el3]
    have gA : Fit (.slice fa l2 fca) := i5
    have gB : Fit (.slice fb l3 fcb) := i6
    clear h1 q1 q2 q3 q4 ib1 ib2 FI FS el0 el1 el2 el3 i1 i2 i3 i4
    go_wp2_with fail
    refine (HFI.out _ _ _ _ _ (HP.out.old A1.out) (HT.out.old A1.out) Q0.out Q1.out Q2.out gA Q3.out gB).mono ?_
    rintro e t2 ⟨y2, rfl, h2, z2⟩
    obtain ⟨ja, jc, rfl⟩ := (Own.row z2).slice
    have A2 : Hid (Old t1 t2) := h2
    have Z2 : Hid (Row t2 (.slice ja FL.length jc) FL) := Own.row z2
    clear h2 z2 HFI
    go_wp2_with fail
    refine (HFS.out _ _ _ _ _ (Q0.out.old A2.out) (Q1.out.old A2.out) (Q2.out.old A2.out) gA (Q3.out.old A2.out) gB).mono ?_
    rintro e t3 ⟨y3, rfl, h3, z3⟩
    obtain ⟨ka, kc, rfl⟩ := (Own.row z3).slice
    have A3 : Hid (Old w t3) := Old.trans A1.out (Old.trans A2.out h3)
    have KE := same_yes FL (.slice ja FL.length jc) (.slice ka FL.length kc) t3 (Z2.out.old h3) (Own.row z3) (by omega)
    have HKE := hid KE
    have dk : (fk == fk) = true := by simp
    clear h3 z3 KE HFS
    go_wp2_with fail
    refine HKE.out.mono ?_
    rintro e t4 ⟨rfl, h4⟩
    have A4 : Hid (Old w t4) := Old.trans A3.out h4
    clear h4
    go_wp2_with fail
    go_ret
    exact ⟨rfl, A4.out⟩
  cases cn
  · go_wp2_with fail
    refine (KT.out _ U5.out).mono ?_
    rintro e t1 ⟨fr, fcr, fzs, fd, fcd, fus, fa, fca, fxs, fb, fcb, fys, rfl, h1, ⟨i1, i2, i3, i4⟩, ⟨i5, i6⟩, ib1, ib2, q1, q2, q3, q4⟩
    obtain ⟨FL, fk, hFL, FI, FS⟩ := fl_all fzs fus fxs fys (by omega) (by omega) (by omega) (by omega) (fun x hx => by have := ib1 x hx; omega) (fun x hx => by have := ib2 x hx; omega)
    have HFI := hid FI
    have HFS := hid FS
    have A1 : Hid (Old w t1) := Old.trans U5.out h1
    have Q0 := hid q1
    have Q1 := hid q2
    have Q2 := hid q3
    have Q3 := hid q4
    obtain ⟨l0, el0⟩ : ∃ l0, fzs.length = l0 := ⟨_, rfl⟩
    obtain ⟨l1, el1⟩ : ∃ l1, fus.length = l1 := ⟨_, rfl⟩
    obtain ⟨l2, el2⟩ : ∃ l2, fxs.length = l2 := ⟨_, rfl⟩
    obtain ⟨l3, el3⟩ : ∃ l3, fys.length = l3 := ⟨_, rfl⟩
    rw [el0] at Q0
    rw [el1] at Q1
    rw [el2] at Q2 i5
    rw [el3] at Q3 i6
    rw [el0, el1, el2, el3]
    have gA : Fit (.slice fa l2 fca) := i5
    have gB : Fit (.slice fb l3 fcb) := i6
    clear h1 q1 q2 q3 q4 ib1 ib2 FI FS el0 el1 el2 el3 i1 i2 i3 i4
    go_wp2_with fail
    refine (HFI.out _ _ _ _ _ (HP.out.old A1.out) (HT.out.old A1.out) Q0.out Q1.out Q2.out gA Q3.out gB).mono ?_
    rintro e t2 ⟨y2, rfl, h2, z2⟩
    obtain ⟨ja, jc, rfl⟩ := (Own.row z2).slice
    have A2 : Hid (Old t1 t2) := h2
    have Z2 : Hid (Row t2 (.slice ja FL.length jc) FL) := Own.row z2
    clear h2 z2 HFI
    go_wp2_with fail
    refine (HFS.out _ _ _ _ _ (Q0.out.old A2.out) (Q1.out.old A2.out) (Q2.out.old A2.out) gA (Q3.out.old A2.out) gB).mono ?_
    rintro e t3 ⟨y3, rfl, h3, z3⟩
    obtain ⟨ka, kc, rfl⟩ := (Own.row z3).slice
    have A3 : Hid (Old w t3) := Old.trans A1.out (Old.trans A2.out h3)
    have KE := same_yes FL (.slice ja FL.length jc) (.slice ka FL.length kc) t3 (Z2.out.old h3) (Own.row z3) (by omega)
    have HKE := hid KE
    have dk : (fk == fk) = true := by simp
    clear h3 z3 KE HFS
    go_wp2_with fail
    refine HKE.out.mono ?_
    rintro e t4 ⟨rfl, h4⟩
    have A4 : Hid (Old w t4) := Old.trans A3.out h4
    clear h4
    go_wp2_with fail
    go_ret
    exact ⟨rfl, A4.out⟩
  by_cases hgt : 4 * (lx : Int) + 4 < m
  rotate_left
  · have d6 : decide (4 * (lx : Int) + 4 < m) = false := decide_eq_false hgt
    go_wp2_with fail
    refine (KT.out _ U5.out).mono ?_
    rintro e t1 ⟨fr, fcr, fzs, fd, fcd, fus, fa, fca, fxs, fb, fcb, fys, rfl, h1, ⟨i1, i2, i3, i4⟩, ⟨i5, i6⟩, ib1, ib2, q1, q2, q3, q4⟩
    obtain ⟨FL, fk, hFL, FI, FS⟩ := fl_all fzs fus fxs fys (by omega) (by omega) (by omega) (by omega) (fun x hx => by have := ib1 x hx; omega) (fun x hx => by have := ib2 x hx; omega)
    have HFI := hid FI
    have HFS := hid FS
    have A1 : Hid (Old w t1) := Old.trans U5.out h1
    have Q0 := hid q1
    have Q1 := hid q2
    have Q2 := hid q3
    have Q3 := hid q4
    obtain ⟨l0, el0⟩ : ∃ l0, fzs.length = l0 := ⟨_, rfl⟩
    obtain ⟨l1, el1⟩ : ∃ l1, fus.length = l1 := ⟨_, rfl⟩
    obtain ⟨l2, el2⟩ : ∃ l2, fxs.length = l2 := ⟨_, rfl⟩
    obtain ⟨l3, el3⟩ : ∃ l3, fys.length = l3 := ⟨_, rfl⟩
    rw [el0] at Q0
    rw [el1] at Q1
    rw [el2] at Q2 i5
    rw [el3] at Q3 i6
    rw [el0, el1, el2, el3]
    have gA : Fit (.slice fa l2 fca) := i5
    have gB : Fit (.slice fb l3 fcb) := i6
    clear h1 q1 q2 q3 q4 ib1 ib2 FI FS el0 el1 el2 el3 i1 i2 i3 i4
    go_wp2_with fail
    refine (HFI.out _ _ _ _ _ (HP.out.old A1.out) (HT.out.old A1.out) Q0.out Q1.out Q2.out gA Q3.out gB).mono ?_
    rintro e t2 ⟨y2, rfl, h2, z2⟩
    obtain ⟨ja, jc, rfl⟩ := (Own.row z2).slice
    have A2 : Hid (Old t1 t2) := h2
    have Z2 : Hid (Row t2 (.slice ja FL.length jc) FL) := Own.row z2
    clear h2 z2 HFI
    go_wp2_with fail
    refine (HFS.out _ _ _ _ _ (Q0.out.old A2.out) (Q1.out.old A2.out) (Q2.out.old A2.out) gA (Q3.out.old A2.out) gB).mono ?_
    rintro e t3 ⟨y3, rfl, h3, z3⟩
    obtain ⟨ka, kc, rfl⟩ := (Own.row z3).slice
    have A3 : Hid (Old w t3) := Old.trans A1.out (Old.trans A2.out h3)
    have KE := same_yes FL (.slice ja FL.length jc) (.slice ka FL.length kc) t3 (Z2.out.old h3) (Own.row z3) (by omega)
    have HKE := hid KE
    have dk : (fk == fk) = true := by simp
    clear h3 z3 KE HFS
    go_wp2_with fail
    refine HKE.out.mono ?_
    rintro e t4 ⟨rfl, h4⟩
    have A4 : Hid (Old w t4) := Old.trans A3.out h4
    clear h4
    go_wp2_with fail
    go_ret
    exact ⟨rfl, A4.out⟩
  have d6 : decide (4 * (lx : Int) + 4 < m) = true := decide_eq_true hgt
  have KR := HK.out.kr rfl (by rw [HLX.out]; exact hgt) (.slice xa ds.length xc) (.slice b ly cb) w5 R5.out (HRB.out.old O5.out) fB
  have HKR := hid KR
  have p0 := X5.out.c (i := 0) rfl
  have p1 := X5.out.c (i := 1) rfl
  clear KR
  go_wp2_with fail
  refine HKR.out.mono ?_
  rintro e w6 ⟨v6, rfl, g6, o6⟩
  obtain ⟨sa, sc, rfl⟩ := (Own.row o6).slice
  have U6 : Hid (Old w w6) := Old.trans U5.out g6
  have KE := same_yes EL (.slice sa EL.length sc) (.slice ea EL.length ec) w6 (Own.row o6) (E5.out.old g6) (by have := HK.out.hel; omega)
  have HKE := hid KE
  clear g6 o6 KE HKR p0 p1
  go_wp2_with fail
  refine HKE.out.mono ?_
  rintro e w7 ⟨rfl, g7⟩
  have U7 : Hid (Old w w7) := Old.trans U6.out g7
  clear g7 HKE
  go_wp2_with fail
  refine (KT.out _ U7.out).mono ?_
  rintro e t1 ⟨fr, fcr, fzs, fd, fcd, fus, fa, fca, fxs, fb, fcb, fys, rfl, h1, ⟨i1, i2, i3, i4⟩, ⟨i5, i6⟩, ib1, ib2, q1, q2, q3, q4⟩
  obtain ⟨FL, fk, hFL, FI, FS⟩ := fl_all fzs fus fxs fys (by omega) (by omega) (by omega) (by omega) (fun x hx => by have := ib1 x hx; omega) (fun x hx => by have := ib2 x hx; omega)
  have HFI := hid FI
  have HFS := hid FS
  have A1 : Hid (Old w t1) := Old.trans U7.out h1
  have Q0 := hid q1
  have Q1 := hid q2
  have Q2 := hid q3
  have Q3 := hid q4
  obtain ⟨l0, el0⟩ : ∃ l0, fzs.length = l0 := ⟨_, rfl⟩
  obtain ⟨l1, el1⟩ : ∃ l1, fus.length = l1 := ⟨_, rfl⟩
  obtain ⟨l2, el2⟩ : ∃ l2, fxs.length = l2 := ⟨_, rfl⟩
  obtain ⟨l3, el3⟩ : ∃ l3, fys.length = l3 := ⟨_, rfl⟩
  rw [el0] at Q0
  rw [el1] at Q1
  rw [el2] at Q2 i5
  rw [el3] at Q3 i6
  rw [el0, el1, el2, el3]
  have gA : Fit (.slice fa l2 fca) := i5
  have gB : Fit (.slice fb l3 fcb) := i6
  clear h1 q1 q2 q3 q4 ib1 ib2 FI FS el0 el1 el2 el3 i1 i2 i3 i4
  go_wp2_with fail
  refine (HFI.out _ _ _ _ _ (HP.out.old A1.out) (HT.out.old A1.out) Q0.out Q1.out Q2.out gA Q3.out gB).mono ?_
  rintro e t2 ⟨y2, rfl, h2, z2⟩
  obtain ⟨ja, jc, rfl⟩ := (Own.row z2).slice
  have A2 : Hid (Old t1 t2) := h2
  have Z2 : Hid (Row t2 (.slice ja FL.length jc) FL) := Own.row z2
  clear h2 z2 HFI
  go_wp2_with fail
  refine (HFS.out _ _ _ _ _ (Q0.out.old A2.out) (Q1.out.old A2.out) (Q2.out.old A2.out) gA (Q3.out.old A2.out) gB).mono ?_
  rintro e t3 ⟨y3, rfl, h3, z3⟩
  obtain ⟨ka, kc, rfl⟩ := (Own.row z3).slice
  have A3 : Hid (Old w t3) := Old.trans A1.out (Old.trans A2.out h3)
  have KE := same_yes FL (.slice ja FL.length jc) (.slice ka FL.length kc) t3 (Z2.out.old h3) (Own.row z3) (by omega)
  have HKE := hid KE
  have dk : (fk == fk) = true := by simp
  clear h3 z3 KE HFS
  go_wp2_with fail
  refine HKE.out.mono ?_
  rintro e t4 ⟨rfl, h4⟩
  have A4 : Hid (Old w t4) := Old.trans A3.out h4
  clear h4
  go_wp2_with fail
  go_ret
  exact ⟨rfl, A4.out⟩
end Go.Proofs.YtfcdfielbpdloaaDoor
