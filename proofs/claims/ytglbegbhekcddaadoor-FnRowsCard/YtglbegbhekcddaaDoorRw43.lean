/- Proved: several texts in one: what each proves is said ahead of it. -/
import Derived.Test.YtglbegbhekcddaaDoorRw41
import Derived.Test.YtglbegbhekcddaaDoorDrq
import Derived.Test.YtglbegbhekcddaaDoorRw40
/- Proved: the contract of the draw of rows over a space: at most so many rows as primes and one more, of at most 33 numbers each, nothing panics, and nothing that was there changes but the cursor. -/
namespace Go.Proofs.YtglbegbhekcddaaDoor
open Go.ChangeShapes Go.WideShapes Go.ChangeAt Go.RowKit
set_option linter.unusedVariables false
set_option linter.unusedSimpArgs false
structure GSt (w : World) (code : Value) (len c kb lo k B : Nat) (N : Int) (pa : Option Addr) (pl pc : Nat) (ah : Bool) (a : Option Addr) (cp : Nat) (yss : List (List Int)) (W : World) : Prop where
  hl : yss.length = k
  hx : ∀ r ∈ yss, r.length ≤ 33
  ho : OwS yss W lo W.heap.size (.slice a k cp)
  hk : Bk W kb #[.bool ah, .slice a k cp] 28
  hr : Bk W (w.heap.size + 1) #[.bool false, .slice none 0 0] 28
  hs : Bk W w.heap.size #[.int .i64 N, .slice pa pl pc] 25
  hc : Cu W code len c B
  hg : Chg w W c (c + 1)
  hlt : w.heap.size + 1 < kb
  hlo : kb < lo
  hcl : c < w.heap.size
  hls : lo ≤ W.heap.size
theorem OwS.ob {xss : List (List Int)} {W : World} {lo hi : Nat} {v : Value} (h : OwS xss W lo hi v) : ∀ b, v.ownBlock = some b → lo ≤ b ∧ b < hi := fun b e => by
  obtain ⟨hh, ⟨e1, _⟩ | ⟨p, cap, vs, e1, hcap, hl, hhi, _⟩⟩ := h
  · rw [e1] at e
    cases e
  · rw [e1] at e
    have : p = b := Option.some.inj e
    omega
theorem GSt.draw {W' : World} {B' : Nat} {w W : World} {code : Value} {len c kb lo k B : Nat} {N : Int} {pa : Option Addr} {pl pc : Nat} {ah : Bool} {a : Option Addr} {cp : Nat} {yss : List (List Int)} (h : GSt w code len c kb lo k B N pa pl pc ah a cp yss W) (g : Chg W W' c (c + 1)) (C : Cu W' code len c B') : GSt w code len c kb lo k B' N pa pl pc ah a cp yss W' := by
  have := h.hlt
  have := h.hlo
  have := h.hcl
  exact ⟨h.hl, h.hx, (far_OwS yss W W' lo W.heap.size _ h.ho (fun b h1 h2 => g.block b h2 (Or.inr (by omega))) g.size).high g.size (Nat.le_refl _), h.hk.chg g (Or.inr (by omega)), h.hr.chg g (Or.inr (by omega)), h.hs.chg g (Or.inr (by omega)), C, h.hg.trans g, h.hlt, h.hlo, h.hcl, Nat.le_trans h.hls g.size⟩
theorem GSt.mono {B' : Nat} {w W : World} {code : Value} {len c kb lo k B : Nat} {N : Int} {pa : Option Addr} {pl pc : Nat} {ah : Bool} {a : Option Addr} {cp : Nat} {yss : List (List Int)} (h : GSt w code len c kb lo k B N pa pl pc ah a cp yss W) (hB : B ≤ B') : GSt w code len c kb lo k B' N pa pl pc ah a cp yss W := { h with hc := h.hc.mono hB }
theorem GSt.nk {w W : World} {code : Value} {len c kb lo k B : Nat} {N : Int} {pa : Option Addr} {pl pc : Nat} {ah : Bool} {a : Option Addr} {cp : Nat} {yss : List (List Int)} (h : GSt w code len c kb lo k B N pa pl pc ah a cp yss W) : ∀ b, (Value.slice a k cp).ownBlock = some b → b ≠ kb := fun b e => by
  have := h.ho.ob b e
  have := h.hlo
  omega
def RwD3 (b0 : Nat) (W : World) (u : Value) : Prop := ∃ ua uc r, u = .slice ua r.length uc ∧ r.length ≤ 33 ∧ r.length ≤ uc ∧ Own W b0 (.slice ua r.length uc) r
theorem RwD3.chg {b0 c : Nat} {W W' : World} {u : Value} (h : RwD3 b0 W u) (hc : c < b0) (g : Chg W W' c (c + 1)) : RwD3 b0 W' u := by
  obtain ⟨ua, uc, r, e, h1, h2, o⟩ := h
  exact ⟨ua, uc, r, e, h1, h2, o.chg g (fun p hp => Or.inr (by have := (o.lt p hp).1; omega))⟩
theorem GSt.push {W1 : World} {u : Value} {B' : Nat} {w W : World} {code : Value} {len c kb lo k B : Nat} {N : Int} {pa : Option Addr} {pl pc : Nat} {ah : Bool} {a : Option Addr} {cp : Nat} {yss : List (List Int)} (h : GSt w code len c kb lo k B N pa pl pc ah a cp yss W) (g : Chg W W1 c (c + 1)) (C : Cu W1 code len c B') (hr : RwD3 W.heap.size W1 u) :
    ∃ vs, W1.ownsRow lo 23 1 (.slice a k cp) k vs ∧ (∀ v' w', w'.ownsRow lo 23 1 v' (k + 1) (vs ++ [u]) → W1.grownBy w' (Value.slice a k cp).ownBlock → (v'.ownBlock = (Value.slice a k cp).ownBlock ∨ v'.ownBlock = some W1.heap.size) → ∃ a5 c5 zss, v' = .slice a5 (k + 1) c5 ∧ GSt w code len c kb lo (k + 1) B' N pa pl pc ah a5 c5 zss (w'.setCell ⟨kb, 1, none⟩ v')) := by
  obtain ⟨ua, uc, r, rfl, h1, h2, o⟩ := hr
  have hlt := h.hlt
  have hlo := h.hlo
  have hcl := h.hcl
  have hsz := h.hk.lt
  have hlS : lo ≤ W.heap.size := h.hls
  obtain ⟨vs, ov, hem⟩ := OwS.appC (r := r) h.ho hlS g.size (fun b hb1 hb2 => g.block b hb2 (Or.inr (by omega))) o h2
  rw [h.hl] at ov hem
  refine ⟨vs, ov, fun v' w' o' gr hv' => ?_⟩
  have hw := hem v' w' o' gr hv'
  obtain ⟨a5, c5, e5⟩ := hw.slice
  rw [List.length_append, h.hl] at e5
  have e5 : v' = .slice a5 (k + 1) c5 := e5
  subst e5
  have hob : ∀ j, (Value.slice a k cp).ownBlock = some j → kb < j := fun j e => by have := h.ho.ob j e; omega
  have hS := h.draw g C
  refine ⟨a5, c5, yss ++ [r], rfl, by rw [List.length_append, h.hl]; rfl, (fun x hx => by rcases List.mem_append.1 hx with hx | hx; exact h.hx x hx; simp at hx; subst hx; exact h1), ?_, bk_put1W (bk_grownW hS.hk gr hob) _, bk_other (bk_grownW hS.hr gr (fun j e => by have := hob j e; omega)) (by show w.heap.size + 1 ≠ kb; omega) _, bk_other (bk_grownW hS.hs gr (fun j e => by have := hob j e; omega)) (by show w.heap.size ≠ kb; omega) _, cu_own (hS.hc.grown gr (fun j e => by have := hob j e; omega)) (by show c < kb; omega) _, chg_own (chg_grown hS.hg gr (fun j e => by have := hob j e; omega)) (by show w.heap.size ≤ kb; omega) _, hlt, hlo, hcl, by rw [World.size_setCell]; have := hS.hls; have := gr.size; omega⟩
  have := OwS.put (k := kb) (j := 1) (x := .slice a5 (k + 1) c5) hw (Or.inl hlo)
  rw [World.size_setCell]
  exact this
def CuRs (M : Nat) (w : World) (code : Value) (len c B : Nat) (e : Ending) (w' : World) : Prop :=
  ∃ ah a cp yss, e = .returned (.agg #[.bool ah, .slice a yss.length cp]) ∧ yss.length ≤ M ∧ (∀ r ∈ yss, r.length ≤ 33) ∧ Chg w w' c (c + 1) ∧ Cu w' code len c B ∧ OwS yss w' w.heap.size w'.heap.size (.slice a yss.length cp)
theorem GSt.ends {B' M : Nat} {w W : World} {code : Value} {len c kb lo k B : Nat} {N : Int} {pa : Option Addr} {pl pc : Nat} {ah : Bool} {a : Option Addr} {cp : Nat} {yss : List (List Int)} (h : GSt w code len c kb lo k B N pa pl pc ah a cp yss W) (hM : k ≤ M) (hB : B ≤ B') : CuRs M w code len c B' (.returned (.agg #[.bool ah, .slice a k cp])) ((W.setCell ⟨w.heap.size + 1, 0, none⟩ (.bool ah)).setCell ⟨w.heap.size + 1, 1, none⟩ (.slice a k cp)) := by
  have := h.hlt
  have := h.hlo
  have hcl := h.hcl
  refine ⟨ah, a, cp, yss, by rw [h.hl], by rw [h.hl]; exact hM, h.hx, chg_own (chg_own h.hg (by show w.heap.size ≤ w.heap.size + 1; omega) _) (by show w.heap.size ≤ w.heap.size + 1; omega) _, (cu_own (cu_own h.hc (by show c < w.heap.size + 1; omega) _) (by show c < w.heap.size + 1; omega) _).mono hB, ?_⟩
  rw [h.hl]
  have h1 := OwS.put (k := w.heap.size + 1) (j := 1) (x := .slice a k cp) (OwS.put (k := w.heap.size + 1) (j := 0) (x := .bool ah) h.ho (Or.inl (by omega))) (Or.inl (by omega))
  rw [World.size_setCell, World.size_setCell]
  exact h1.low (by omega)
set_option maxRecDepth 100000 in
set_option maxHeartbeats 8000000 in
theorem rows_c {w : World} {code : Value} {len c B l0 h0 : Nat} (h : Cu w code len c B) (hB : B ≤ 30000000000) (hl : len ≤ 9223372036854775807) (N : Int) (hN : 0 ≤ N ∧ N ≤ 32) (pa : Option Addr) (pl pc : Nat) (ls : List Int) (hll : ls.length = pl) (hpl : pl ≤ 8) (hv : RwB l0 h0 w (.slice pa pl pc) ls) (hl0 : c < l0) (hh0 : h0 ≤ w.heap.size) (hb : ∀ x ∈ ls, PrB x) :
    Calls Tryd.prog 24 #[.pointer (some ⟨c, 0, none⟩), .agg #[.int .i64 N, .slice pa pl pc]] w fun e w' => CuRs (pl + 1) w code len c (B + 20000) e w' := by
  obtain ⟨i0, hi, hz0, hz1, hz2⟩ := info_parts Tryd.infoInts
  have hcw := h.lt
  have HV := hid hv
  have HB := hid hb
  have HLL : Hid (ls.length = pl) := hll
  obtain ⟨wA, hA⟩ : ∃ wA, (w.alloc (.cells #[.int .i64 N, .slice pa pl pc] 25)).alloc (.cells #[.bool false, .slice none 0 0] 28) = wA := ⟨_, rfl⟩
  have C0 : Cu wA code len c B := by rw [← hA]; exact h.old (((Old.refl w).alloc _).alloc _)
  have HG0 : Hid (Chg w wA c (c + 1)) := by rw [← hA]; exact (((Old.refl w).alloc _).alloc _).toChg _ _
  have HS0 : Hid (Bk wA w.heap.size #[.int .i64 N, .slice pa pl pc] 25) := by rw [← hA]; exact (Bk.new' w _ _ rfl).alloc _
  have HR0 : Hid (Bk wA (w.heap.size + 1) #[.bool false, .slice none 0 0] 28) := by rw [← hA]; exact Bk.new' _ _ _ (by simp)
  have c1 := one_c C0 (by omega) hl 2 (by omega) (by omega)
  clear h C0 hv hb hll
  go_enter Tryd.func24, Tryd.ntmps24
  go_wp2_with fail
  try rw [hA]
  refine c1.mono ?_
  rintro e w1 ⟨⟨o, rfl⟩, g1, C1⟩
  have HG1 := hid (HG0.out.trans g1)
  have HS1 := hid (HS0.out.chg g1 (Or.inr (by omega)))
  have HR1 := hid (HR0.out.chg g1 (Or.inr (by omega)))
  have HC1 := hid C1
  clear g1 C1 c1 HG0 HS0 HR0 hA
  have S0 : Hid (GSt w code len c w1.heap.size (w1.heap.size + 1) 0 (B + 2) N pa pl pc o none 0 [] (w1.alloc (.cells #[.bool o, .slice none 0 0] 28))) :=
    ⟨rfl, (fun r hr => by cases hr), ⟨Nat.le_refl _, Or.inl ⟨rfl, rfl⟩⟩, Bk.new' w1 _ _ rfl, HR1.out.alloc _, HS1.out.alloc _, HC1.out.old ((Old.refl w1).alloc _), chg_alloc HG1.out _, HR1.out.lt, by omega, hcw, by simp⟩
  have s0 := S0.out.hs.c (i := 1) rfl
  clear HG1 HS1 HR1 HC1
  go_wp2_with fail
  obtain ⟨kb, hkb⟩ : ∃ kb, w1.heap.size = kb := ⟨_, rfl⟩
  obtain ⟨lo, hlo⟩ : ∃ lo, kb + 1 = lo := ⟨_, rfl⟩
  obtain ⟨W1, hW1⟩ : ∃ W1, w1.alloc (.cells #[.bool o, .slice none 0 0] 28) = W1 := ⟨_, rfl⟩
  rw [hW1] at S0 ⊢
  rw [hkb, hlo] at S0
  rw [hkb]
  clear hkb hW1 s0 hlo
  go_loopw [14] (fun iv W' => ∃ (j : Nat) (a : Option Addr) (cp : Nat) (yss : List (List Int)), j ≤ pl ∧ iv = .int .i64 (j : Int) ∧ Hid (GSt w code len c kb lo j (B + 2 + 1000 * j) N pa pl pc o a cp yss W')) (fun iv _ => pl - (intOf iv).toNat)
  case atStart => exact ⟨0, none, 0, [], by omega, rfl, S0⟩
  case round =>
    obtain ⟨j, a, cp, yss, hj, rfl, S1⟩ := hrel
    clear S0
    by_cases hlt : j < pl
    · have d1 : decide ((j : Int) < (pl : Int)) = true := decide_eq_true (by omega)
      have d2 : decide (j < pl) = true := decide_eq_true hlt
      have HV1 := hid (HV.out.chg S1.out.hg (Or.inl (by omega)))
      obtain ⟨b, o2, eva, hvb, hvc⟩ : ∃ b o, pa = some ⟨b, o, none⟩ ∧ b < wr.heap.size ∧ ∀ i, i < ls.length → wr.cell? ⟨b, o + i, none⟩ = some (.int .i64 (ls.getD i 0)) := by
        rcases HV1.out.1 with ⟨a', c', e1, e2⟩ | ⟨b, o, cap, e, hb, h0, hc⟩
        · rw [e2] at HLL
          have := HLL.out
          simp at this
          omega
        · injection e with e1
          exact ⟨b, o, e1, hb, hc⟩
      subst eva
      have cv := hvc j (by rw [HLL.out]; exact hlt)
      have hpb := HB.out (ls.getD j 0) (by have := HLL.out; simp [List.getD, show j < ls.length by omega])
      obtain ⟨p, hp⟩ : ∃ p, ls.getD j 0 = p := ⟨_, rfl⟩
      rw [hp] at cv hpb
      have hpb' : 1 ≤ p ∧ p ≤ 268435456 := hpb
      clear hp hvc HV1 hpb
      have hcl := S1.out.hcl
      have hw0 := S1.out.hg.size
      go_wp2_with fail
      refine reg_Rl wr c kb w.heap.size o a j cp p N (RwD3 wr.heap.size) (some ⟨b, o2, none⟩) pl pc (fun W => Chg wr W c (c + 1) ∧ Cu W code len c (B + 2 + 1000 * j + 1000)) (fun W v => ∃ a5 c5 zss, v = .slice a5 (j + 1) c5 ∧ GSt w code len c kb lo (j + 1) (B + 2 + 1000 * j + 1000) N (some ⟨b, o2, none⟩) pl pc o a5 c5 zss W) (by omega) lo S1.out.hls (by omega) (by have := S1.out.hlt; omega) (by omega) S1.out.hk S1.out.hs S1.out.nk
        (fun W W' u hu g => hu.chg (by omega) g) (fun W u hu => by obtain ⟨ua, uc, r, e, _⟩ := hu; exact ⟨ua, r.length, uc, e⟩) (fun W hW => hW.1) (fun W W' hW g => ⟨hW.1.trans (g.toChg _ _), hW.2.old g⟩)
        (fun W g => (polyQ_c (S1.out.hc.old g) (by omega) hl p N 0 hpb' hN).mono fun e w' hq => by obtain ⟨ua, uc, r, e1, h1, g', C', o'⟩ := hq; exact ⟨_, e1, g', ⟨(g.toChg c (c + 1)).trans g', C'⟩, ua, uc, r, rfl, h1, own_cap o', Own.low o' g.size⟩)
        (fun W u hW hu => S1.out.push hW.1 hW.2 hu) _ _ ?_ ?_ ?_ ?_ ?_ ?_
      iterate 5 (· exact rfl)
      intro us W7 a5 c5 h7
      obtain ⟨a6, c6, zss, e6, S7⟩ := h7
      have S7 := hid S7
      injection e6 with e61 e62 e63
      subst e61 e63
      simp only [putAll, Act.put, slotRl, List.range, List.range.loop, List.map_cons, List.map_nil, List.getD_cons_zero, List.getD_cons_succ, List.setIfInBounds_toArray, List.set_cons_succ, List.set_cons_zero]
      go_wp2_with fail
      exact ⟨⟨j + 1, a5, c5, zss, by omega, by first | rfl | go_num, hid (S7.out.mono (by omega))⟩, by simp [intOf]; omega⟩
    · have d1 : decide ((j : Int) < (pl : Int)) = false := decide_eq_false (by omega)
      have d2 : decide (j < pl) = false := decide_eq_false hlt
      obtain rfl : j = pl := by omega
      have c7 := one_c S1.out.hc (by omega) hl 40 (by omega) (by omega)
      clear hlt
      go_wp2_with fail
      refine c7.mono ?_
      rintro e w15 ⟨⟨o3, rfl⟩, gq, Cq⟩
      have S2 := hid (S1.out.draw gq Cq)
      clear gq Cq c7 S1 d1 d2
      cases o3
      · have e0 := S2.out.hk.c (i := 0) rfl
        have e1 := S2.out.hk.c (i := 1) rfl
        have r0 := S2.out.hr.c (i := 0) rfl
        have r1 := S2.out.hr.c (i := 1) rfl
        have t0 := frozen_of_row _ _ 0 _ _ S2.out.hr
        have t1 := frozen_of_row _ _ 1 _ _ S2.out.hr
        go_wp2_with fail
        have q0 := (bk_put1W (bk_put0W S2.out.hr (.bool o)) (.slice a j cp)).c (i := 0) rfl
        have q1 := (bk_put1W (bk_put0W S2.out.hr (.bool o)) (.slice a j cp)).c (i := 1) rfl
        refine bodyPost_ret (v := .agg #[.bool o, .slice a j cp]) (by simp [results, Tryd.results24, go_sem, q0, q1]) rfl ?_
        exact S2.out.ends (by omega) (by omega)
      · obtain ⟨vs, ov, hem⟩ := S2.out.push (W1 := w15.alloc (.cells #[.slice none 0 0] 23)) (u := .slice none 0 0) (((Old.refl w15).alloc _).toChg _ _) (S2.out.hc.old ((Old.refl w15).alloc _)) ⟨none, 0, [], rfl, by simp, by simp, ⟨rfl, .inl ⟨rfl, rfl⟩⟩⟩
        have HEM := hid hem
        have OV := hid ov
        clear hem ov
        have k1 := S2.out.hk.c (i := 1) rfl
        go_wp2_with (first | (at_builtin; go_loud (refine wpList_append_own_at _ rfl _ _ 26 rfl lo 23 i0 (.slice none 0 0) 1 24 Tryd.underlying26 hi hz0 hz1 hz2 rfl (by decide) _ _ _ rfl OV.out ⟨w15.heap.size, 0, none⟩ 1 1 [.slice none 0 0] rfl rfl (lit1CW _ _ _) (by simp [Value.oneCell']) (by unfold maxLen; omega) (by omega) (by have := S2.out.hls; simp; omega) ?_; intro v5 w6 o5 g5 x5 l5; have HP := hid (HEM.out v5 w6 o5 g5 l5); obtain ⟨a5, c5, zss, rfl, S7⟩ := HP.out; have S7 := hid S7; have B6 := hid (bk_grownW (S2.out.hk.alloc _) g5 (fun j e => by have := S2.out.ho.ob j e; have := S2.out.hlo; omega)); have k6 := B6.out.c (i := 1) rfl; have f6 := frozen_of_row _ _ 1 _ _ B6.out; have e0 := S7.out.hk.c (i := 0) rfl; have e1 := S7.out.hk.c (i := 1) rfl; have r0 := S7.out.hr.c (i := 0) rfl; have r1 := S7.out.hr.c (i := 1) rfl; have t0 := frozen_of_row _ _ 0 _ _ S7.out.hr; have t1 := frozen_of_row _ _ 1 _ _ S7.out.hr; clear o5 g5 x5 l5 HP)))
        have q0 := (bk_put1W (bk_put0W S7.out.hr (.bool o)) (.slice a5 (j + 1) c5)).c (i := 0) rfl
        have q1 := (bk_put1W (bk_put0W S7.out.hr (.bool o)) (.slice a5 (j + 1) c5)).c (i := 1) rfl
        refine bodyPost_ret (v := .agg #[.bool o, .slice a5 (j + 1) c5]) (by simp [results, Tryd.results24, go_sem, q0, q1]) rfl ?_
        exact S7.out.ends (by omega) (by omega)
end Go.Proofs.YtglbegbhekcddaaDoor
/- Proved: contracts of the draws of a space and two rows over it: nothing panics, and nothing that was there changes. -/
namespace Go.Proofs.YtglbegbhekcddaaDoor
open Go.ChangeShapes Go.WideShapes Go.ChangeAt Go.RowKit
set_option linter.unusedVariables false
set_option linter.unusedSimpArgs false
def ThR (w : World) (e : Ending) (w' : World) : Prop :=
  ∃ n p cp ls ah a ca xss bh b cb yss, e = .returned (.tuple #[.agg #[.int .i64 n, .slice p ls.length cp], .agg #[.bool ah, .slice a xss.length ca], .agg #[.bool bh, .slice b yss.length cb]]) ∧ Old w w' ∧ szD n ∧ (1 ≤ ls.length ∧ ls.length ≤ 4) ∧ (∀ x ∈ ls, PrB x) ∧ ls.length ≤ cp ∧ (xss.length ≤ 5 ∧ yss.length ≤ 5) ∧ (∀ r ∈ xss, r.length ≤ 33) ∧ (∀ r ∈ yss, r.length ≤ 33) ∧ RwB (w.heap.size + 3) w'.heap.size w' (.slice p ls.length cp) ls ∧ OwS xss w' (w.heap.size + 3) w'.heap.size (.slice a xss.length ca) ∧ OwS yss w' (w.heap.size + 3) w'.heap.size (.slice b yss.length cb)
theorem ThR.drewX {w w' : World} {e : Ending} (h : ThR w e w') (k : Nat) : ThR w e (w'.drewN k) := by
  obtain ⟨n, p, cp, ls, ah, a, ca, xss, bh, b, cb, yss, e1, g, h1, h2, h3, h4, h5, h6, h7, h8, h9, h10⟩ := h
  have q : Old w' (w'.drewN k) := (Old.refl w').drewN k
  exact ⟨n, p, cp, ls, ah, a, ca, xss, bh, b, cb, yss, e1, Old.trans g q, h1, h2, h3, h4, h5, h6, h7, (h8.old q).mono (Nat.le_refl _) q.size, ((far_OwS xss).old h9 q (Nat.le_refl _)).high q.size (Nat.le_refl _), ((far_OwS yss).old h10 q (Nat.le_refl _)).high q.size (Nat.le_refl _)⟩
structure ThC (w : World) (n : Int) (p : Option Addr) (lp cp : Nat) (ls : List Int) (ah : Bool) (a : Option Addr) (la ca : Nat) (xss : List (List Int)) (bh : Bool) (b : Option Addr) (lb cb : Nat) (yss : List (List Int)) (W : World) : Prop where
  r0 : Bk W w.heap.size #[.int .i64 0, .slice none 0 0] 25
  r1 : Bk W (w.heap.size + 1) #[.bool false, .slice none 0 0] 28
  r2 : Bk W (w.heap.size + 2) #[.bool false, .slice none 0 0] 28
  rp : RwB (w.heap.size + 3) W.heap.size W (.slice p lp cp) ls
  oa : OwS xss W (w.heap.size + 3) W.heap.size (.slice a la ca)
  ob : OwS yss W (w.heap.size + 3) W.heap.size (.slice b lb cb)
  go : Old w W
  hn : szD n
  hp : ls.length = lp ∧ (1 ≤ lp ∧ lp ≤ 4) ∧ (∀ x ∈ ls, PrB x) ∧ lp ≤ cp
  ha : xss.length = la ∧ la ≤ 5 ∧ ∀ r ∈ xss, r.length ≤ 33
  hb : yss.length = lb ∧ lb ≤ 5 ∧ ∀ r ∈ yss, r.length ≤ 33
structure ThB (w : World) (ks ka kb : Nat) (n : Int) (p : Option Addr) (lp cp : Nat) (ls : List Int) (ah : Bool) (a : Option Addr) (la ca : Nat) (xss : List (List Int)) (bh : Bool) (b : Option Addr) (lb cb : Nat) (yss : List (List Int)) (W : World) : Prop extends ThC w n p lp cp ls ah a la ca xss bh b lb cb yss W where
  ps : Bk W ks #[.int .i64 n, .slice p lp cp] 25
  pa : Bk W ka #[.bool ah, .slice a la ca] 28
  pb : Bk W kb #[.bool bh, .slice b lb cb] 28
theorem ThC.ends {w W : World} {n : Int} {p : Option Addr} {lp cp : Nat} {ls : List Int} {ah : Bool} {a : Option Addr} {la ca : Nat} {xss : List (List Int)} {bh : Bool} {b : Option Addr} {lb cb : Nat} {yss : List (List Int)} (h : ThC w n p lp cp ls ah a la ca xss bh b lb cb yss W) : Bk ((((((W.setCell ⟨w.heap.size, 0, none⟩ (.int .i64 n)).setCell ⟨w.heap.size, 1, none⟩ (.slice p lp cp)).setCell ⟨w.heap.size + 1, 0, none⟩ (.bool ah)).setCell ⟨w.heap.size + 1, 1, none⟩ (.slice a la ca)).setCell ⟨w.heap.size + 2, 0, none⟩ (.bool bh)).setCell ⟨w.heap.size + 2, 1, none⟩ (.slice b lb cb)) w.heap.size #[.int .i64 n, .slice p lp cp] 25 ∧ Bk ((((((W.setCell ⟨w.heap.size, 0, none⟩ (.int .i64 n)).setCell ⟨w.heap.size, 1, none⟩ (.slice p lp cp)).setCell ⟨w.heap.size + 1, 0, none⟩ (.bool ah)).setCell ⟨w.heap.size + 1, 1, none⟩ (.slice a la ca)).setCell ⟨w.heap.size + 2, 0, none⟩ (.bool bh)).setCell ⟨w.heap.size + 2, 1, none⟩ (.slice b lb cb)) (w.heap.size + 1) #[.bool ah, .slice a la ca] 28 ∧ Bk ((((((W.setCell ⟨w.heap.size, 0, none⟩ (.int .i64 n)).setCell ⟨w.heap.size, 1, none⟩ (.slice p lp cp)).setCell ⟨w.heap.size + 1, 0, none⟩ (.bool ah)).setCell ⟨w.heap.size + 1, 1, none⟩ (.slice a la ca)).setCell ⟨w.heap.size + 2, 0, none⟩ (.bool bh)).setCell ⟨w.heap.size + 2, 1, none⟩ (.slice b lb cb)) (w.heap.size + 2) #[.bool bh, .slice b lb cb] 28 ∧ ThR w (.returned (.tuple #[.agg #[.int .i64 n, .slice p lp cp], .agg #[.bool ah, .slice a la ca], .agg #[.bool bh, .slice b lb cb]])) ((((((W.setCell ⟨w.heap.size, 0, none⟩ (.int .i64 n)).setCell ⟨w.heap.size, 1, none⟩ (.slice p lp cp)).setCell ⟨w.heap.size + 1, 0, none⟩ (.bool ah)).setCell ⟨w.heap.size + 1, 1, none⟩ (.slice a la ca)).setCell ⟨w.heap.size + 2, 0, none⟩ (.bool bh)).setCell ⟨w.heap.size + 2, 1, none⟩ (.slice b lb cb)) := by
  have n1 : ∀ k, k ≠ w.heap.size + 1 → w.heap.size + 1 ≠ k := fun k h => Ne.symm h
  have s0 := bk_put1W (bk_put0W h.r0 (.int .i64 n)) (.slice p lp cp)
  have s1 := bk_put1W (bk_put0W (bk_other (bk_other h.r1 (p := ⟨w.heap.size, 0, none⟩) (by show w.heap.size + 1 ≠ w.heap.size; omega) (.int .i64 n)) (p := ⟨w.heap.size, 1, none⟩) (by show w.heap.size + 1 ≠ w.heap.size; omega) (.slice p lp cp)) (.bool ah)) (.slice a la ca)
  have s2 := bk_put1W (bk_put0W (bk_other (bk_other (bk_other (bk_other h.r2 (p := ⟨w.heap.size, 0, none⟩) (by show w.heap.size + 2 ≠ w.heap.size; omega) (.int .i64 n)) (p := ⟨w.heap.size, 1, none⟩) (by show w.heap.size + 2 ≠ w.heap.size; omega) (.slice p lp cp)) (p := ⟨w.heap.size + 1, 0, none⟩) (by show w.heap.size + 2 ≠ w.heap.size + 1; omega) (.bool ah)) (p := ⟨w.heap.size + 1, 1, none⟩) (by show w.heap.size + 2 ≠ w.heap.size + 1; omega) (.slice a la ca)) (.bool bh)) (.slice b lb cb)
  have t0 := bk_other (bk_other (bk_other (bk_other s0 (p := ⟨w.heap.size + 1, 0, none⟩) (by show w.heap.size ≠ w.heap.size + 1; omega) (.bool ah)) (p := ⟨w.heap.size + 1, 1, none⟩) (by show w.heap.size ≠ w.heap.size + 1; omega) (.slice a la ca)) (p := ⟨w.heap.size + 2, 0, none⟩) (by show w.heap.size ≠ w.heap.size + 2; omega) (.bool bh)) (p := ⟨w.heap.size + 2, 1, none⟩) (by show w.heap.size ≠ w.heap.size + 2; omega) (.slice b lb cb)
  have t1 := bk_other (bk_other s1 (p := ⟨w.heap.size + 2, 0, none⟩) (by show w.heap.size + 1 ≠ w.heap.size + 2; omega) (.bool bh)) (p := ⟨w.heap.size + 2, 1, none⟩) (by show w.heap.size + 1 ≠ w.heap.size + 2; omega) (.slice b lb cb)
  have hz : ((((((W.setCell ⟨w.heap.size, 0, none⟩ (.int .i64 n)).setCell ⟨w.heap.size, 1, none⟩ (.slice p lp cp)).setCell ⟨w.heap.size + 1, 0, none⟩ (.bool ah)).setCell ⟨w.heap.size + 1, 1, none⟩ (.slice a la ca)).setCell ⟨w.heap.size + 2, 0, none⟩ (.bool bh)).setCell ⟨w.heap.size + 2, 1, none⟩ (.slice b lb cb)).heap.size = W.heap.size := by simp [World.size_setCell]
  have hq : ∀ xs' v', OwS xs' W (w.heap.size + 3) W.heap.size v' → OwS xs' ((((((W.setCell ⟨w.heap.size, 0, none⟩ (.int .i64 n)).setCell ⟨w.heap.size, 1, none⟩ (.slice p lp cp)).setCell ⟨w.heap.size + 1, 0, none⟩ (.bool ah)).setCell ⟨w.heap.size + 1, 1, none⟩ (.slice a la ca)).setCell ⟨w.heap.size + 2, 0, none⟩ (.bool bh)).setCell ⟨w.heap.size + 2, 1, none⟩ (.slice b lb cb)) (w.heap.size + 3) W.heap.size v' := fun xs' v' ho => OwS.put (OwS.put (OwS.put (OwS.put (OwS.put (OwS.put ho (Or.inl (by omega))) (Or.inl (by omega))) (Or.inl (by omega))) (Or.inl (by omega))) (Or.inl (by omega))) (Or.inl (by omega))
  have hr : RwB (w.heap.size + 3) W.heap.size ((((((W.setCell ⟨w.heap.size, 0, none⟩ (.int .i64 n)).setCell ⟨w.heap.size, 1, none⟩ (.slice p lp cp)).setCell ⟨w.heap.size + 1, 0, none⟩ (.bool ah)).setCell ⟨w.heap.size + 1, 1, none⟩ (.slice a la ca)).setCell ⟨w.heap.size + 2, 0, none⟩ (.bool bh)).setCell ⟨w.heap.size + 2, 1, none⟩ (.slice b lb cb)) (.slice p lp cp) ls := (((((h.rp.set (p := ⟨w.heap.size, 0, none⟩) (Or.inl (by show w.heap.size < w.heap.size + 3; omega)) _).set (p := ⟨w.heap.size, 1, none⟩) (Or.inl (by show w.heap.size < w.heap.size + 3; omega)) _).set (p := ⟨w.heap.size + 1, 0, none⟩) (Or.inl (by show w.heap.size + 1 < w.heap.size + 3; omega)) _).set (p := ⟨w.heap.size + 1, 1, none⟩) (Or.inl (by show w.heap.size + 1 < w.heap.size + 3; omega)) _).set (p := ⟨w.heap.size + 2, 0, none⟩) (Or.inl (by show w.heap.size + 2 < w.heap.size + 3; omega)) _).set (p := ⟨w.heap.size + 2, 1, none⟩) (Or.inl (by show w.heap.size + 2 < w.heap.size + 3; omega)) _
  refine ⟨t0, t1, s2, n, p, cp, ls, ah, a, ca, xss, bh, b, cb, yss, by rw [h.hp.1, h.ha.1, h.hb.1], ?_, h.hn, by rw [h.hp.1]; exact h.hp.2.1, h.hp.2.2.1, by rw [h.hp.1]; exact h.hp.2.2.2, by rw [h.ha.1, h.hb.1]; exact ⟨h.ha.2.1, h.hb.2.1⟩, h.ha.2.2, h.hb.2.2, ?_, ?_, ?_⟩
  · exact (((((h.go.own (p := ⟨w.heap.size, 0, none⟩) (by show w.heap.size ≤ w.heap.size; omega) _).own (p := ⟨w.heap.size, 1, none⟩) (by show w.heap.size ≤ w.heap.size; omega) _).own (p := ⟨w.heap.size + 1, 0, none⟩) (by show w.heap.size ≤ w.heap.size + 1; omega) _).own (p := ⟨w.heap.size + 1, 1, none⟩) (by show w.heap.size ≤ w.heap.size + 1; omega) _).own (p := ⟨w.heap.size + 2, 0, none⟩) (by show w.heap.size ≤ w.heap.size + 2; omega) _).own (p := ⟨w.heap.size + 2, 1, none⟩) (by show w.heap.size ≤ w.heap.size + 2; omega) _
  · rw [hz, h.hp.1]; exact hr
  · rw [hz, h.ha.1]; exact hq _ _ h.oa
  · rw [hz, h.hb.1]; exact hq _ _ h.ob
set_option maxRecDepth 100000 in
set_option maxHeartbeats 8000000 in
theorem drawAddRows_c (w : World) (code : Value) (len : Nat) (h : BysW w code len) (hl : len ≤ 9223372036854775807) :
    Calls Tryd.prog 12 #[code] w (ThR w) := by
  obtain ⟨ca0, ccap, hcode⟩ : ∃ ca ccap, code = .slice ca len ccap := by
    rcases h with ⟨a, cap, e, e2⟩ | ⟨b, o, cap, e, _⟩
    · exact ⟨a, cap, by rw [e, e2]⟩
    · exact ⟨_, cap, e⟩
  subst hcode
  obtain ⟨A, hA⟩ : ∃ A, (((w.alloc (.cells #[.int .i64 0, .slice none 0 0] 25)).alloc (.cells #[.bool false, .slice none 0 0] 28)).alloc (.cells #[.bool false, .slice none 0 0] 28)) = A := ⟨_, rfl⟩
  have szA : A.heap.size = w.heap.size + 3 := by rw [← hA]; simp
  have gA : Old w A := by rw [← hA]; exact (((Old.refl w).alloc _).alloc _).alloc _
  have C0 := Cu.new (bysW_oldX h gA)
  obtain ⟨A1, hA1⟩ : ∃ A1, A.alloc (.cells #[.slice ca0 len ccap, .int .i64 0, .int .u64 0] 51) = A1 := ⟨_, rfl⟩
  rw [hA1, szA] at C0
  have szB : A1.heap.size = w.heap.size + 4 := by rw [← hA1]; simp [szA]
  have HO0 : Hid (Old w A1) := by rw [← hA1]; exact gA.alloc _
  have P0 : Hid (Bk A1 w.heap.size #[.int .i64 0, .slice none 0 0] 25) := by rw [← hA1, ← hA]; exact (((Bk.new' w _ _ rfl).alloc _).alloc _).alloc _
  have P1 : Hid (Bk A1 (w.heap.size + 1) #[.bool false, .slice none 0 0] 28) := by rw [← hA1, ← hA]; exact ((Bk.new' _ _ _ (by simp)).alloc _).alloc _
  have P2 : Hid (Bk A1 (w.heap.size + 2) #[.bool false, .slice none 0 0] 28) := by rw [← hA1, ← hA]; exact (Bk.new' _ _ _ (by simp)).alloc _
  have c1 := space_c C0 (by omega) hl
  have HSB : Hid (A1.heap.size = w.heap.size + 4) := szB
  have HC : Hid (A1 = (((w.alloc (.cells #[.int .i64 0, .slice none 0 0] 25)).alloc (.cells #[.bool false, .slice none 0 0] 28)).alloc (.cells #[.bool false, .slice none 0 0] 28)).alloc (.cells #[.slice ca0 len ccap, .int .i64 0, .int .u64 0] 51)) := by show _ = _; rw [hA]; exact hA1.symm
  clear h C0 gA szA hA hA1 szB
  go_enter Tryd.func12, Tryd.ntmps12
  go_wp2_with fail
  rw [← HC.out]
  clear HC
  refine c1.mono ?_
  rintro e w1 ⟨n, p, cp, ls, rfl, hn, hl4, hpr, g1, C1, o1⟩
  obtain ⟨lp, hlp⟩ : ∃ lp, ls.length = lp := ⟨_, rfl⟩
  have hcp := own_cap o1
  have szB := HSB.out
  have HP : Hid (szD n ∧ ls.length = lp ∧ (1 ≤ lp ∧ lp ≤ 4) ∧ (∀ x ∈ ls, PrB x) ∧ lp ≤ cp) := ⟨hn, hlp, by omega, hpr, by omega⟩
  have RP0 := RwB.own o1
  rw [hlp] at RP0 ⊢
  have sz1 := g1.size
  obtain ⟨W1, hW1⟩ : ∃ W1, w1.alloc (.cells #[.int .i64 n, .slice p lp cp] 25) = W1 := ⟨_, rfl⟩
  have HO1 : Hid (Old w W1) := by rw [← hW1]; exact (HO0.out.chg g1 (by omega)).alloc _
  have Q0 : Hid (Bk W1 w.heap.size #[.int .i64 0, .slice none 0 0] 25) := by rw [← hW1]; exact (P0.out.chg g1 (Or.inl (by omega))).alloc _
  have Q1 : Hid (Bk W1 (w.heap.size + 1) #[.bool false, .slice none 0 0] 28) := by rw [← hW1]; exact (P1.out.chg g1 (Or.inl (by omega))).alloc _
  have Q2 : Hid (Bk W1 (w.heap.size + 2) #[.bool false, .slice none 0 0] 28) := by rw [← hW1]; exact (P2.out.chg g1 (Or.inl (by omega))).alloc _
  have QS : Hid (Bk W1 w1.heap.size #[.int .i64 n, .slice p lp cp] 25) := by rw [← hW1]; exact Bk.new' w1 _ _ rfl
  have RP : Hid (RwB (w.heap.size + 4) w1.heap.size W1 (.slice p lp cp) ls) := by rw [← hW1]; exact (RP0.mono (by omega) (Nat.le_refl _)).old ((Old.refl w1).alloc _)
  have HC1 : Hid (Cu W1 (.slice ca0 len ccap) len (w.heap.size + 3) (0 + 1000)) := by rw [← hW1]; exact C1.old ((Old.refl w1).alloc _)
  have zz1 : W1.heap.size = w1.heap.size + 1 := by rw [← hW1]; simp
  obtain ⟨ks, hks⟩ : ∃ ks, w1.heap.size = ks := ⟨_, rfl⟩
  have hw1 : w.heap.size + 4 ≤ ks := by omega
  have HNR : Hid (0 ≤ n ∧ n ≤ 32) := by unfold szD at hn; show _ ∧ _; omega
  have HPR : Hid (∀ x ∈ ls, PrB x) := hpr
  rw [hks] at QS RP zz1
  have KR := fun (W : World) (B' : Nat) (hB' : B' ≤ 30000000000) (C : Cu W (.slice ca0 len ccap) len (w.heap.size + 3) B') (r : RwB (w.heap.size + 4) ks W (.slice p lp cp) ls) (hk : ks ≤ W.heap.size) => rows_c C hB' hl n HNR.out p lp cp ls hlp (by omega) r (by omega) hk HPR.out
  have HKR := hid KR
  clear g1 C1 o1 c1 HO0 P0 P1 P2 RP0 KR hpr hn hcp hl4 hlp sz1 szB HSB
  have x0 := QS.out.c (i := 0) rfl
  have x1 := QS.out.c (i := 1) rfl
  go_wp2_with fail
  refine (HKR.out W1 _ (by omega) HC1.out RP.out (by omega)).mono ?_
  rintro e w2 ⟨ah, a, ca, xss, rfl, hx5, hxr, g2, C2, o2⟩
  obtain ⟨la, hla⟩ : ∃ la, xss.length = la := ⟨_, rfl⟩
  have HAX : Hid (xss.length = la ∧ la ≤ 5 ∧ ∀ r ∈ xss, r.length ≤ 33) := ⟨hla, by have := HP.out; omega, hxr⟩
  rw [hla] at o2 ⊢
  have sz2 := g2.size
  obtain ⟨W2, hW2⟩ : ∃ W2, w2.alloc (.cells #[.bool ah, .slice a la ca] 28) = W2 := ⟨_, rfl⟩
  have HO2 : Hid (Old w W2) := by rw [← hW2]; exact (HO1.out.chg g2 (by omega)).alloc _
  have T0 : Hid (Bk W2 w.heap.size #[.int .i64 0, .slice none 0 0] 25) := by rw [← hW2]; exact (Q0.out.chg g2 (Or.inl (by omega))).alloc _
  have T1 : Hid (Bk W2 (w.heap.size + 1) #[.bool false, .slice none 0 0] 28) := by rw [← hW2]; exact (Q1.out.chg g2 (Or.inl (by omega))).alloc _
  have T2 : Hid (Bk W2 (w.heap.size + 2) #[.bool false, .slice none 0 0] 28) := by rw [← hW2]; exact (Q2.out.chg g2 (Or.inl (by omega))).alloc _
  have TS : Hid (Bk W2 ks #[.int .i64 n, .slice p lp cp] 25) := by rw [← hW2]; exact (QS.out.chg g2 (Or.inr (by omega))).alloc _
  have TA : Hid (Bk W2 w2.heap.size #[.bool ah, .slice a la ca] 28) := by rw [← hW2]; exact Bk.new' w2 _ _ rfl
  have RP2 : Hid (RwB (w.heap.size + 4) ks W2 (.slice p lp cp) ls) := by rw [← hW2]; exact (RP.out.chg g2 (Or.inl (by omega))).old ((Old.refl w2).alloc _)
  have OA2 : Hid (OwS xss W2 (w.heap.size + 4) w2.heap.size (.slice a la ca)) := by rw [← hW2]; exact ((far_OwS xss).old o2 ((Old.refl w2).alloc _) (Nat.le_refl _)).low (by omega)
  have HC2 : Hid (Cu W2 (.slice ca0 len ccap) len (w.heap.size + 3) (0 + 1000 + 20000)) := by rw [← hW2]; exact C2.old ((Old.refl w2).alloc _)
  have zz2 : W2.heap.size = w2.heap.size + 1 := by rw [← hW2]; simp
  obtain ⟨ka, hka⟩ : ∃ ka, w2.heap.size = ka := ⟨_, rfl⟩
  rw [hka] at TA OA2 zz2 sz2
  have hw2 : ks < ka := by omega
  clear g2 C2 o2 HO1 Q0 Q1 Q2 QS RP HC1 hx5 hxr hla x0 x1 hW1 hks zz1 sz2
  have x0 := TS.out.c (i := 0) rfl
  have x1 := TS.out.c (i := 1) rfl
  go_wp2_with fail
  refine (HKR.out W2 _ (by omega) HC2.out RP2.out (by omega)).mono ?_
  rintro e w3 ⟨bh, b, cb, yss, rfl, hy5, hyr, g3, C3, o3⟩
  obtain ⟨lb, hlb⟩ : ∃ lb, yss.length = lb := ⟨_, rfl⟩
  have HBX : Hid (yss.length = lb ∧ lb ≤ 5 ∧ ∀ r ∈ yss, r.length ≤ 33) := ⟨hlb, by have := HP.out; omega, hyr⟩
  rw [hlb] at o3 ⊢
  have sz3 := g3.size
  obtain ⟨W3, hW3⟩ : ∃ W3, w3.alloc (.cells #[.bool bh, .slice b lb cb] 28) = W3 := ⟨_, rfl⟩
  have HO3 : Hid (Old w W3) := by rw [← hW3]; exact (HO2.out.chg g3 (by omega)).alloc _
  have U0 : Hid (Bk W3 w.heap.size #[.int .i64 0, .slice none 0 0] 25) := by rw [← hW3]; exact (T0.out.chg g3 (Or.inl (by omega))).alloc _
  have U1 : Hid (Bk W3 (w.heap.size + 1) #[.bool false, .slice none 0 0] 28) := by rw [← hW3]; exact (T1.out.chg g3 (Or.inl (by omega))).alloc _
  have U2 : Hid (Bk W3 (w.heap.size + 2) #[.bool false, .slice none 0 0] 28) := by rw [← hW3]; exact (T2.out.chg g3 (Or.inl (by omega))).alloc _
  have US : Hid (Bk W3 ks #[.int .i64 n, .slice p lp cp] 25) := by rw [← hW3]; exact (TS.out.chg g3 (Or.inr (by omega))).alloc _
  have UA : Hid (Bk W3 ka #[.bool ah, .slice a la ca] 28) := by rw [← hW3]; exact (TA.out.chg g3 (Or.inr (by omega))).alloc _
  have UB : Hid (Bk W3 w3.heap.size #[.bool bh, .slice b lb cb] 28) := by rw [← hW3]; exact Bk.new' w3 _ _ rfl
  have RP3 : Hid (RwB (w.heap.size + 4) ks W3 (.slice p lp cp) ls) := by rw [← hW3]; exact (RP2.out.chg g3 (Or.inl (by omega))).old ((Old.refl w3).alloc _)
  have OA3 : Hid (OwS xss W3 (w.heap.size + 4) ka (.slice a la ca)) := by rw [← hW3]; exact (far_OwS xss).old (far_OwS xss _ _ _ _ _ OA2.out (fun b' h1 h2 => g3.block b' (by omega) (Or.inr (by omega))) g3.size) ((Old.refl w3).alloc _) (by omega)
  have OB3 : Hid (OwS yss W3 (w.heap.size + 4) w3.heap.size (.slice b lb cb)) := by rw [← hW3]; exact ((far_OwS yss).old o3 ((Old.refl w3).alloc _) (Nat.le_refl _)).low (by omega)
  have C3' : Cu W3 (.slice ca0 len ccap) len (w.heap.size + 3) (0 + 1000 + 20000 + 20000) := by rw [← hW3]; exact C3.old ((Old.refl w3).alloc _)
  have zz3 : W3.heap.size = w3.heap.size + 1 := by rw [← hW3]; simp
  obtain ⟨kb, hkb⟩ : ∃ kb, w3.heap.size = kb := ⟨_, rfl⟩
  rw [hkb] at UB OB3 zz3 sz3
  have hw3 : ka < kb := by omega
  have c4 := one_c C3' (by omega) hl 8 (by omega) (by omega)
  clear g3 C3 C3' o3 HO2 T0 T1 T2 TS TA RP2 OA2 HC2 hy5 hyr hlb x0 x1 hW2 hka zz2 sz3
  go_wp2_with fail
  refine c4.mono ?_
  rintro e w4 ⟨⟨o, rfl⟩, g4, C4⟩
  have sz4 := g4.size
  have U : Hid (ThB w ks ka kb n p lp cp ls ah a la ca xss bh b lb cb yss w4) := ⟨⟨U0.out.chg g4 (Or.inl (by omega)), U1.out.chg g4 (Or.inl (by omega)), U2.out.chg g4 (Or.inl (by omega)), (RP3.out.chg g4 (Or.inl (by omega))).mono (by omega) (by omega), ((far_OwS xss _ _ _ _ _ OA3.out (fun b' h1 h2 => g4.block b' (by omega) (Or.inr (by omega))) g4.size).low (by omega)).high (by omega) (Nat.le_refl _), ((far_OwS yss _ _ _ _ _ OB3.out (fun b' h1 h2 => g4.block b' (by omega) (Or.inr (by omega))) g4.size).low (by omega)).high (by omega) (Nat.le_refl _), HO3.out.chg g4 (by omega), HP.out.1, HP.out.2, HAX.out, HBX.out⟩, US.out.chg g4 (Or.inr (by omega)), UA.out.chg g4 (Or.inr (by omega)), UB.out.chg g4 (Or.inr (by omega))⟩
  have OB4 : Hid (OwS yss w4 (w.heap.size + 3) kb (.slice b lb cb)) := (far_OwS yss _ _ _ _ _ OB3.out (fun b' h1 h2 => g4.block b' (by omega) (Or.inr (by omega))) g4.size).low (by omega)
  have OA4 : Hid (OwS xss w4 (w.heap.size + 3) kb (.slice a la ca)) := ((far_OwS xss _ _ _ _ _ OA3.out (fun b' h1 h2 => g4.block b' (by omega) (Or.inr (by omega))) g4.size).low (by omega)).high (by omega) (by omega)
  have RP4 : Hid (RwB (w.heap.size + 3) kb w4 (.slice p lp cp) ls) := (RP3.out.chg g4 (Or.inl (by omega))).mono (by omega) (by omega)
  have hk4 : kb < w4.heap.size := by omega
  clear g4 C4 c4 HO3 U0 U1 U2 US UA UB RP3 OA3 OB3 hW3 hkb zz3 sz4 HKR HP HAX HBX HNR HPR
  cases o
  · have v0 := U.out.pa.c (i := 0) rfl
    have v1 := U.out.pb.c (i := 0) rfl
    have v2 := frozen_of_row _ _ 0 _ _ U.out.pb
    have V : Hid (ThB w ks ka kb n p lp cp ls ah a la ca xss ah b lb cb yss (w4.setCell ⟨kb, 0, none⟩ (.bool ah))) := ⟨⟨bk_other U.out.r0 (by show w.heap.size ≠ kb; omega) _, bk_other U.out.r1 (by show w.heap.size + 1 ≠ kb; omega) _, bk_other U.out.r2 (by show w.heap.size + 2 ≠ kb; omega) _, (RP4.out.set (p := ⟨kb, 0, none⟩) (Or.inr (Nat.le_refl _)) _).mono (Nat.le_refl _) (by rw [World.size_setCell]; omega), (OA4.out.put (Or.inr (Nat.le_refl _))).high (by rw [World.size_setCell]; omega) (Nat.le_refl _), (OB4.out.put (Or.inr (Nat.le_refl _))).high (by rw [World.size_setCell]; omega) (Nat.le_refl _), U.out.go.own (p := ⟨kb, 0, none⟩) (by show w.heap.size ≤ kb; omega) _, U.out.hn, U.out.hp, U.out.ha, U.out.hb⟩, bk_other U.out.ps (by show ks ≠ kb; omega) _, bk_other U.out.pa (by show ka ≠ kb; omega) _, bk_put0W U.out.pb _⟩
    clear U OA4 OB4 RP4
    have x00 := V.out.ps.c (i := 0) rfl
    have x01 := V.out.ps.c (i := 1) rfl
    have x10 := V.out.pa.c (i := 0) rfl
    have x11 := V.out.pa.c (i := 1) rfl
    have x20 := V.out.pb.c (i := 0) rfl
    have x21 := V.out.pb.c (i := 1) rfl
    have x30 := V.out.r0.c (i := 0) rfl
    have x31 := V.out.r0.c (i := 1) rfl
    have x40 := V.out.r1.c (i := 0) rfl
    have x41 := V.out.r1.c (i := 1) rfl
    have x50 := V.out.r2.c (i := 0) rfl
    have x51 := V.out.r2.c (i := 1) rfl
    have z00 := frozen_of_row _ _ 0 _ _ V.out.r0
    have z01 := frozen_of_row _ _ 1 _ _ V.out.r0
    have z10 := frozen_of_row _ _ 0 _ _ V.out.r1
    have z11 := frozen_of_row _ _ 1 _ _ V.out.r1
    have z20 := frozen_of_row _ _ 0 _ _ V.out.r2
    have z21 := frozen_of_row _ _ 1 _ _ V.out.r2
    have HE := hid V.out.toThC.ends
    go_wp2_with fail
    go_region
    all_goals
      go_wp2_with fail
      have q00 := HE.out.1.c (i := 0) rfl
      have q01 := HE.out.1.c (i := 1) rfl
      have q10 := HE.out.2.1.c (i := 0) rfl
      have q11 := HE.out.2.1.c (i := 1) rfl
      have q20 := HE.out.2.2.1.c (i := 0) rfl
      have q21 := HE.out.2.2.1.c (i := 1) rfl
      refine bodyPost_ret (v := .tuple #[.agg #[.int .i64 n, .slice p lp cp], .agg #[.bool ah, .slice a la ca], .agg #[.bool ah, .slice b lb cb]]) (by simp [results, Tryd.results12, go_sem, q00, q01, q10, q11, q20, q21]) rfl ?_
      exact HE.out.2.2.2.drewX 1
  · clear OA4 OB4 RP4
    have x00 := U.out.ps.c (i := 0) rfl
    have x01 := U.out.ps.c (i := 1) rfl
    have x10 := U.out.pa.c (i := 0) rfl
    have x11 := U.out.pa.c (i := 1) rfl
    have x20 := U.out.pb.c (i := 0) rfl
    have x21 := U.out.pb.c (i := 1) rfl
    have x30 := U.out.r0.c (i := 0) rfl
    have x31 := U.out.r0.c (i := 1) rfl
    have x40 := U.out.r1.c (i := 0) rfl
    have x41 := U.out.r1.c (i := 1) rfl
    have x50 := U.out.r2.c (i := 0) rfl
    have x51 := U.out.r2.c (i := 1) rfl
    have z00 := frozen_of_row _ _ 0 _ _ U.out.r0
    have z01 := frozen_of_row _ _ 1 _ _ U.out.r0
    have z10 := frozen_of_row _ _ 0 _ _ U.out.r1
    have z11 := frozen_of_row _ _ 1 _ _ U.out.r1
    have z20 := frozen_of_row _ _ 0 _ _ U.out.r2
    have z21 := frozen_of_row _ _ 1 _ _ U.out.r2
    have HE := hid U.out.toThC.ends
    go_wp2_with fail
    go_region
    all_goals
      go_wp2_with fail
      have q00 := HE.out.1.c (i := 0) rfl
      have q01 := HE.out.1.c (i := 1) rfl
      have q10 := HE.out.2.1.c (i := 0) rfl
      have q11 := HE.out.2.1.c (i := 1) rfl
      have q20 := HE.out.2.2.1.c (i := 0) rfl
      have q21 := HE.out.2.2.1.c (i := 1) rfl
      refine bodyPost_ret (v := .tuple #[.agg #[.int .i64 n, .slice p lp cp], .agg #[.bool ah, .slice a la ca], .agg #[.bool bh, .slice b lb cb]]) (by simp [results, Tryd.results12, go_sem, q00, q01, q10, q11, q20, q21]) rfl ?_
      exact HE.out.2.2.2.drewX 1
set_option maxRecDepth 100000 in
set_option maxHeartbeats 8000000 in
theorem drawMulRows_c (w : World) (code : Value) (len : Nat) (h : BysW w code len) (hl : len ≤ 9223372036854775807) :
    Calls Tryd.prog 4 #[code] w (ThR w) := by
  have HO0 : Hid (Old w (((w.alloc (.cells #[.int .i64 0, .slice none 0 0] 25)).alloc (.cells #[.bool false, .slice none 0 0] 28)).alloc (.cells #[.bool false, .slice none 0 0] 28))) := (((Old.refl w).alloc _).alloc _).alloc _
  have P0 : Hid (Bk (((w.alloc (.cells #[.int .i64 0, .slice none 0 0] 25)).alloc (.cells #[.bool false, .slice none 0 0] 28)).alloc (.cells #[.bool false, .slice none 0 0] 28)) w.heap.size #[.int .i64 0, .slice none 0 0] 25) := ((Bk.new' w _ _ rfl).alloc _).alloc _
  have P1 : Hid (Bk (((w.alloc (.cells #[.int .i64 0, .slice none 0 0] 25)).alloc (.cells #[.bool false, .slice none 0 0] 28)).alloc (.cells #[.bool false, .slice none 0 0] 28)) (w.heap.size + 1) #[.bool false, .slice none 0 0] 28) := (Bk.new' _ _ _ (by simp)).alloc _
  have P2 : Hid (Bk (((w.alloc (.cells #[.int .i64 0, .slice none 0 0] 25)).alloc (.cells #[.bool false, .slice none 0 0] 28)).alloc (.cells #[.bool false, .slice none 0 0] 28)) (w.heap.size + 2) #[.bool false, .slice none 0 0] 28) := Bk.new' _ _ _ (by simp)
  have sz0 : (((w.alloc (.cells #[.int .i64 0, .slice none 0 0] 25)).alloc (.cells #[.bool false, .slice none 0 0] 28)).alloc (.cells #[.bool false, .slice none 0 0] 28)).heap.size = w.heap.size + 3 := by simp
  have c1 := drawAddRows_c (((w.alloc (.cells #[.int .i64 0, .slice none 0 0] 25)).alloc (.cells #[.bool false, .slice none 0 0] 28)).alloc (.cells #[.bool false, .slice none 0 0] 28)) code len (bysW_oldX h HO0.out) hl
  clear h
  go_enter Tryd.func4, Tryd.ntmps4
  go_wp2_with fail
  refine c1.mono ?_
  rintro e w1 ⟨n, p, cp, ls, ah, a, ca, xss, bh, b, cb, yss, rfl, g1, hn, hl4, hpr, hcp, ⟨hx5, hy5⟩, hxr, hyr, rp, oa, ob⟩
  rw [sz0] at rp oa ob
  obtain ⟨lp, hlp⟩ : ∃ lp, ls.length = lp := ⟨_, rfl⟩
  obtain ⟨la, hla⟩ : ∃ la, xss.length = la := ⟨_, rfl⟩
  obtain ⟨lb, hlb⟩ : ∃ lb, yss.length = lb := ⟨_, rfl⟩
  rw [hlp] at rp hcp hl4
  rw [hla] at oa hx5
  rw [hlb] at ob hy5
  rw [hlp, hla, hlb]
  have U : Hid (ThC w n p lp cp ls ah a la ca xss bh b lb cb yss w1) := ⟨P0.out.old g1, P1.out.old g1, P2.out.old g1, rp.mono (by omega) (Nat.le_refl _), oa.low (by omega), ob.low (by omega), Old.trans HO0.out g1, hn, ⟨hlp, hl4, hpr, hcp⟩, ⟨hla, hx5, hxr⟩, ⟨hlb, hy5, hyr⟩⟩
  clear c1 g1 hn hl4 hpr hcp hx5 hy5 hxr hyr rp oa ob hlp hla hlb P0 P1 P2 HO0 sz0
  have x00 := U.out.r0.c (i := 0) rfl
  have x01 := U.out.r0.c (i := 1) rfl
  have x10 := U.out.r1.c (i := 0) rfl
  have x11 := U.out.r1.c (i := 1) rfl
  have x20 := U.out.r2.c (i := 0) rfl
  have x21 := U.out.r2.c (i := 1) rfl
  have z00 := frozen_of_row _ _ 0 _ _ U.out.r0
  have z01 := frozen_of_row _ _ 1 _ _ U.out.r0
  have z10 := frozen_of_row _ _ 0 _ _ U.out.r1
  have z11 := frozen_of_row _ _ 1 _ _ U.out.r1
  have z20 := frozen_of_row _ _ 0 _ _ U.out.r2
  have z21 := frozen_of_row _ _ 1 _ _ U.out.r2
  have HE := hid U.out.ends
  go_wp2_with fail
  have q00 := HE.out.1.c (i := 0) rfl
  have q01 := HE.out.1.c (i := 1) rfl
  have q10 := HE.out.2.1.c (i := 0) rfl
  have q11 := HE.out.2.1.c (i := 1) rfl
  have q20 := HE.out.2.2.1.c (i := 0) rfl
  have q21 := HE.out.2.2.1.c (i := 1) rfl
  refine bodyPost_ret (v := .tuple #[.agg #[.int .i64 n, .slice p lp cp], .agg #[.bool ah, .slice a la ca], .agg #[.bool bh, .slice b lb cb]]) (by simp [results, Tryd.results4, go_sem, q00, q01, q10, q11, q20, q21]) rfl ?_
  exact HE.out.2.2.2
end Go.Proofs.YtglbegbhekcddaaDoor
