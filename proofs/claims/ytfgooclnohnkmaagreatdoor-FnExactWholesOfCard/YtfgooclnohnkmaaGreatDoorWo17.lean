/- Proved: several texts in one: what each proves is said ahead of it. -/
import Derived.Deep.RegionHeld3
import Derived.Test.YtfgooclnohnkmaaGreatDoorWo16
/- Proved: the program's eachRow. -/
namespace Go.Proofs.YtfgooclnohnkmaaGreatDoor
open Go.ChangeShapes Go.WideShapes Go.ChangeAt Go.RowKit
open M1
set_option linter.unusedVariables false
set_option linter.unusedSimpArgs false
set_option maxRecDepth 100000 in
set_option maxHeartbeats 4000000 in
theorem eachRow_back_no (N : Int) (ps : List Int) (a ah : Bool) (xss : List (List Int)) (Rf : Nat → Int) (us1 : Nat → Option Addr) (v : Value) (a1 : Option Addr) (cap1 : Nat) (w : World) (hP : PrsW w) (hT : TabW w) (hv : Row w v ps)
    (c1 : ∀ W, PrsW W → TabW W → Old w W → Calls Tryz.prog 102 #[.agg #[.int .i64 N, v], .agg #[.bool a, .slice a1 xss.length cap1]] W fun e w' => Old W w' ∧ ((grB N ps xss = false ∧ e = .returned (.tuple #[.slice none 0 0, .bool false])) ∨ (grB N ps xss = true ∧ ∃ g, W.heap.size ≤ g ∧ e = .returned (.tuple #[.slice (some ⟨g, 0, none⟩) ps.length ps.length, .bool true]) ∧ RRs w' g N a ps Rf us1 ps.length))) (hno : grB N ps xss = false) :
    Calls Tryz.prog 156 #[.agg #[.int .i64 N, v], .agg #[.bool a, .slice a1 xss.length cap1], .bool ah, .func (.func 157) #[] #[]] w (Rs w false [] false) := by
  have HP : Hid (PrsW w) := hP
  have HT : Hid (TabW w) := hT
  obtain ⟨a0, cap0, ev⟩ := hv.slice
  subst ev
  have HA : Hid (Old w (((w.alloc (.cells #[.int .i64 N, .slice a0 ps.length cap0] 56)).alloc (.cells #[.bool a, .slice a1 xss.length cap1] 58)).alloc (.cells #[.bool false, .slice none 0 0] 58))) := (((Old.refl w).alloc _).alloc _).alloc _
  have HS : Hid (StW (((w.alloc (.cells #[.int .i64 N, .slice a0 ps.length cap0] 56)).alloc (.cells #[.bool a, .slice a1 xss.length cap1] 58)).alloc (.cells #[.bool false, .slice none 0 0] 58)) (w.heap.size + 1 + 1) (.bool false) (.slice none 0 0) 58) := by
    have := StW.new ((w.alloc (.cells #[.int .i64 N, .slice a0 ps.length cap0] 56)).alloc (.cells #[.bool a, .slice a1 xss.length cap1] 58)) (.bool false) (.slice none 0 0) 58
    simp at this
    exact this
  clear hv hP hT
  go_enter Tryz.func156, Tryz.ntmps156
  go_wp2_with fail
  refine (c1 _ (HP.out.old HA.out) (HT.out.old HA.out) HA.out).mono ?_
  rintro e w2 ⟨g1, hl⟩
  have HG2 : Hid (Old w w2) := Old.trans HA.out g1
  have S2 : Hid (StW w2 (w.heap.size + 1 + 1) (.bool false) (.slice none 0 0) 58) := HS.out.old g1
  have hs2 : w.heap.size + 1 + 1 < w2.heap.size := S2.out.lt
  clear g1
  rcases hl with ⟨hB, rfl⟩ | ⟨hB, g, hg, rfl, hrr⟩
  · have q0 := S2.out.c0
    have q1 := S2.out.c1
    have f0 := S2.out.f0
    have f1 := S2.out.f1
    clear hB hno
    go_wp2_with fail
    refine bodyPost_ret (ret_rb (x := .bool false) (y := .slice none 0 0) (z := .bool false) Tryz.results156 _ _ rfl rfl (st_put2 S2.out _ _)) rfl ⟨_, rfl, ?_, XR.nil _ _ _ _ (Nat.le_refl _)⟩
    exact (HG2.out.own (p := ⟨w.heap.size + 1 + 1, 0, none⟩) (by simp; omega) _).own (p := ⟨w.heap.size + 1 + 1, 1, none⟩) (by simp; omega) _
  · rw [hno] at hB
    cases hB
set_option maxRecDepth 100000 in
set_option maxHeartbeats 8000000 in
theorem eachRow_back_yes (Nn : Nat) (ps : List Int) (a ah : Bool) (xss : List (List Int)) (Rf : Nat → Int) (us1 : Nat → Option Addr) (v : Value) (a1 : Option Addr) (cap1 : Nat) (w : World) (hP : PrsW w) (hT : TabW w) (hv : Row w v ps)
    (c1 : ∀ W, PrsW W → TabW W → Old w W → Calls Tryz.prog 102 #[.agg #[.int .i64 Nn, v], .agg #[.bool a, .slice a1 xss.length cap1]] W fun e w' => Old W w' ∧ ((grB Nn ps xss = false ∧ e = .returned (.tuple #[.slice none 0 0, .bool false])) ∨ (grB Nn ps xss = true ∧ ∃ g, W.heap.size ≤ g ∧ e = .returned (.tuple #[.slice (some ⟨g, 0, none⟩) ps.length ps.length, .bool true]) ∧ RRs w' g Nn a ps Rf us1 ps.length))) (hx : grB Nn ps xss = true) (zss : List (List Int)) (hzl : zss.length = ps.length) (hps : ps.length ≤ 6)
    (cj : ∀ k, k < ps.length → (zss.getD k []).length = Nn ∧ ∀ W, Old w W → Calls Tryz.prog 157 #[.agg #[.int .i64 (ps.getD k 0), .int .i64 Nn, .int .i64 (Rf k), .bool a, .slice (us1 k) Nn Nn]] W fun e w' => ∃ g cp, e = .returned (.slice (some ⟨g, 0, none⟩) Nn cp) ∧ Nn ≤ cp ∧ Old W w' ∧ Own w' W.heap.size (.slice (some ⟨g, 0, none⟩) Nn cp) (zss.getD k [])) :
    Calls Tryz.prog 156 #[.agg #[.int .i64 Nn, v], .agg #[.bool a, .slice a1 xss.length cap1], .bool ah, .func (.func 157) #[] #[]] w (Rs w ah zss true) := by
  have HZL : Hid (zss.length = ps.length) := hzl
  have HCJ : Hid (∀ k, k < ps.length → (zss.getD k []).length = Nn ∧ ∀ W, Old w W → Calls Tryz.prog 157 #[.agg #[.int .i64 (ps.getD k 0), .int .i64 Nn, .int .i64 (Rf k), .bool a, .slice (us1 k) Nn Nn]] W fun e w' => ∃ g cp, e = .returned (.slice (some ⟨g, 0, none⟩) Nn cp) ∧ Nn ≤ cp ∧ Old W w' ∧ Own w' W.heap.size (.slice (some ⟨g, 0, none⟩) Nn cp) (zss.getD k [])) := cj
  have HPS : Hid (ps.length ≠ 0) := fun h0 => by
    have hsp : spB Nn ps = true := (Bool.and_eq_true_iff.1 hx).1
    have h1 := (bas_at (sp_ring hsp).2.1).1
    omega
  clear hzl cj
  have HP : Hid (PrsW w) := hP
  have HT : Hid (TabW w) := hT
  obtain ⟨a0, cap0, ev⟩ := hv.slice
  subst ev
  have HA : Hid (Old w (((w.alloc (.cells #[.int .i64 Nn, .slice a0 ps.length cap0] 56)).alloc (.cells #[.bool a, .slice a1 xss.length cap1] 58)).alloc (.cells #[.bool false, .slice none 0 0] 58))) := (((Old.refl w).alloc _).alloc _).alloc _
  have HS : Hid (StW (((w.alloc (.cells #[.int .i64 Nn, .slice a0 ps.length cap0] 56)).alloc (.cells #[.bool a, .slice a1 xss.length cap1] 58)).alloc (.cells #[.bool false, .slice none 0 0] 58)) (w.heap.size + 1 + 1) (.bool false) (.slice none 0 0) 58) := by
    have := StW.new ((w.alloc (.cells #[.int .i64 Nn, .slice a0 ps.length cap0] 56)).alloc (.cells #[.bool a, .slice a1 xss.length cap1] 58)) (.bool false) (.slice none 0 0) 58
    simp at this
    exact this
  clear hv hP hT
  go_enter Tryz.func156, Tryz.ntmps156
  go_wp2_with fail
  refine (c1 _ (HP.out.old HA.out) (HT.out.old HA.out) HA.out).mono ?_
  rintro e w2 ⟨g1, hl⟩
  have HG2 : Hid (Old w w2) := Old.trans HA.out g1
  have S2 : Hid (StW w2 (w.heap.size + 1 + 1) (.bool false) (.slice none 0 0) 58) := HS.out.old g1
  have hs2 : w.heap.size + 1 + 1 < w2.heap.size := S2.out.lt
  clear g1
  rcases hl with ⟨hB, rfl⟩ | ⟨hB, g, hg, rfl, hrr⟩
  · rw [hx] at hB
    cases hB
  · have HLB : Hid (RRs w2 g Nn a ps Rf us1 ps.length) := hrr
    clear hrr hg hB hx
    have hpos : 1 ≤ ps.length := Nat.pos_of_ne_zero HPS.out
    have KC := changed_back (Nn : Int) a ps Rf (fun k => .slice (us1 k) (Nn : Int).toNat (Nn : Int).toNat) (.slice (some ⟨g, 0, none⟩) ps.length ps.length) ps.length w2 HLB.out.rd (fun k hk => ⟨_, _, _, rfl⟩) ⟨hpos, by omega⟩ zss (fun k hk W q => by
      rw [Int.toNat_natCast]
      exact ((HCJ.out k hk).2 W (Old.trans HG2.out q)).mono fun e w' h => by
        obtain ⟨g, cp, h1, h2, h3, h4⟩ := h
        exact ⟨_, h1, h3, h4⟩)
    have HKC : Hid (Calls Tryz.prog 188 #[.slice (some ⟨g, 0, none⟩) ps.length ps.length, .func (.func 157) #[] #[]] w2 fun e w' => e = .returned (.slice (some ⟨w2.heap.size, 0, none⟩) ps.length ps.length) ∧ Old w2 w' ∧ Ows (TS 153 5 ps.length (elR (Nn : Int) a ps Rf zss)) w' w2.heap.size w'.heap.size [.slice (some ⟨w2.heap.size, 0, none⟩) ps.length ps.length]) := KC
    have HKN : Hid (∀ W lo, Ows (TS 153 5 ps.length (elR (Nn : Int) a ps Rf zss)) W lo W.heap.size [.slice (some ⟨w2.heap.size, 0, none⟩) ps.length ps.length] → lo ≤ W.heap.size → Calls Tryz.prog 111 #[.slice (some ⟨w2.heap.size, 0, none⟩) ps.length ps.length] W fun e w' => e = .returned (.slice (some ⟨W.heap.size, 0, none⟩) ps.length ps.length) ∧ Old W w' ∧ OwS zss w' lo w'.heap.size (.slice (some ⟨W.heap.size, 0, none⟩) ps.length ps.length)) := fun W lo h hlo => numbersOf_any (Nn : Int) a ps Rf zss ps.length lo _ W ⟨hpos, by omega⟩ HZL.out h hlo
    clear KC HLB
    go_wp2_with fail
    refine HKC.out.mono ?_
    rintro e w3 ⟨rfl, g3, o3⟩
    have O3 : Hid (Ows (TS 153 5 ps.length (elR (Nn : Int) a ps Rf zss)) w3 w2.heap.size w3.heap.size [.slice (some ⟨w2.heap.size, 0, none⟩) ps.length ps.length]) := o3
    have G3 : Hid (Old w2 w3) := g3
    clear g3 o3 HKC
    go_wp2_with fail
    refine (HKN.out w3 w2.heap.size O3.out G3.out.size).mono ?_
    rintro e w4 ⟨rfl, g4, o4⟩
    have G4 : Hid (Old w2 w4) := Old.trans G3.out g4
    have O4 : Hid (OwS zss w4 w2.heap.size w4.heap.size (.slice (some ⟨w3.heap.size, 0, none⟩) ps.length ps.length)) := o4
    have SF : Hid (StW w4 (w.heap.size + 1 + 1) (.bool false) (.slice none 0 0) 58) := S2.out.old G4.out
    clear g4 o4 HKN O3
    have q0 := SF.out.c0
    have q1 := SF.out.c1
    have f0 := SF.out.f0
    have f1 := SF.out.f1
    go_wp2_with fail
    refine bodyPost_ret (ret_rb Tryz.results156 _ _ rfl rfl (st_put2 SF.out _ _)) rfl ⟨_, rfl, ?_, some ⟨w3.heap.size, 0, none⟩, ps.length, by rw [HZL.out], ?_⟩
    · exact ((Old.trans HG2.out G4.out).own (p := ⟨w.heap.size + 1 + 1, 0, none⟩) (by simp; omega) _).own (p := ⟨w.heap.size + 1 + 1, 1, none⟩) (by simp; omega) _
    · rw [HZL.out]
      have h2 := (O4.out.put (k := w.heap.size + 1 + 1) (j := 0) (x := .bool ah) (by omega)).put (k := w.heap.size + 1 + 1) (j := 1) (x := .slice (some ⟨w3.heap.size, 0, none⟩) ps.length ps.length) (by omega)
      have h3 := h2.low (lo' := w.heap.size) (by omega)
      exact h3.high (by simp) (Nat.le_refl _)
end Go.Proofs.YtfgooclnohnkmaaGreatDoor
/- Proved: the two drawn regions of the program's forward. -/
namespace Go.Proofs.YtfgooclnohnkmaaGreatDoor
open Go.ChangeShapes Go.WideShapes Go.ChangeAt Go.RowKit
set_option linter.unusedVariables false
set_option linter.unusedSimpArgs false
theorem run_storeCells_pw {W : World} {g : Nat} {ls : List Nat} (hs : Pw W g ls) (ls' : List Nat) (hl : ls'.length = 32) : (storeCells ⟨g, 0, none⟩ (pwA ls').toList 0).run Tryz.prog W = .ok () (W.setRow g (pwA ls')) := by
  have := run_storeVar_row (P := Tryz.prog) W g 217 217 (pwA ls) (pwA ls') hs.blk (by rw [pwA_size hl]; exact infoPw) (by rw [pwA_size hs.len, pwA_size hl]) (pwA_one _)
  cases hq : Tryz.prog.info? 217 with
  | none => have h2 := infoPw; rw [hq] at h2; cases h2
  | some i =>
    have h2 := infoPw
    rw [hq] at h2
    have h3 : i.size = 32 := by simpa using h2
    simpa [storeVar, Go.sizeOf, typeInfo, hq, Value.cells, pwA_size hl, h3] using this
theorem upon_pw {o : Oper} {a : Act} {K : Act → World → Prop} {Q : Exit → Act → World → Prop} {f : Unit → World → Result Next} {W : World} {g : Nat} {ls : List Nat} (hs : Pw W g ls) (ls' : List Nat) (hl : ls'.length = 32)
    (h : Oper.upon Tryz.prog o a K Q (f () (W.setRow g (pwA ls')))) : Oper.upon Tryz.prog o a K Q ((Sem.run Tryz.prog (storeCells ⟨g, 0, none⟩ (pwA ls').toList 0) W).andThen f) := by
  rw [run_storeCells_pw hs ls' hl]
  exact h
theorem Pw.drw {w : World} {g : Nat} {ls : List Nat} (h : Pw w g ls) : Pw w.drew g ls := ⟨h.blk, h.len⟩
def regionAtF (n : Nat) : Code → Option Code
  | .region i ops b => if i = n then some (.region i ops b) else none
  | .seq a b => match regionAtF n a with
    | some c => some c
    | none => regionAtF n b
  | .block _ c => regionAtF n c
  | .scope c => regionAtF n c
  | .loop c => regionAtF n c
  | .cond _ a b => match regionAtF n a with
    | some c => some c
    | none => regionAtF n b
  | _ => none
theorem pw_zero (W : World) : Pw (W.alloc (.cells #[.int .i64 0, .int .i64 0, .int .i64 0, .int .i64 0, .int .i64 0, .int .i64 0, .int .i64 0, .int .i64 0, .int .i64 0, .int .i64 0, .int .i64 0, .int .i64 0, .int .i64 0, .int .i64 0, .int .i64 0, .int .i64 0, .int .i64 0, .int .i64 0, .int .i64 0, .int .i64 0, .int .i64 0, .int .i64 0, .int .i64 0, .int .i64 0, .int .i64 0, .int .i64 0, .int .i64 0, .int .i64 0, .int .i64 0, .int .i64 0, .int .i64 0, .int .i64 0] 217)) W.heap.size (List.replicate 32 0) := Pw.new' W (List.replicate 32 0) _ rfl rfl
end Go.Proofs.YtfgooclnohnkmaaGreatDoor
/- Proved: what a join of a part of a row does to the row, in place. -/
namespace Go.Proofs.YtfgooclnohnkmaaGreatDoor
open Go.ChangeShapes Go.WideShapes Go.ChangeAt Go.RowKit
set_option linter.unusedVariables false
set_option linter.unusedSimpArgs false
/-- a join's first i steps: at off and at off + hh -/
def jnS (P w0 off hh : Nat) (fs : List Nat) : Nat → List Nat
  | 0 => fs
  | i + 1 => ((jnS P w0 off hh fs i).set (off + i) (((jnS P w0 off hh fs i).getD (off + i) 0 + (jnS P w0 off hh fs i).getD (off + hh + i) 0) % P)).set (off + hh + i) (((jnS P w0 off hh fs i).getD (off + i) 0 + P - (jnS P w0 off hh fs i).getD (off + hh + i) 0) * w0 % P)
theorem jnS_len (P w0 off hh : Nat) (fs : List Nat) : ∀ i, (jnS P w0 off hh fs i).length = fs.length
  | 0 => rfl
  | i + 1 => by rw [jnS, List.length_set, List.length_set, jnS_len P w0 off hh fs i]
theorem jnS_lt (P w0 off hh : Nat) (fs : List Nat) (hP : 0 < P) (h : ∀ x ∈ fs, x < P) : ∀ i, ∀ x ∈ jnS P w0 off hh fs i, x < P
  | 0 => h
  | i + 1 => by
    rw [jnS]
    exact set_lt (set_lt (jnS_lt P w0 off hh fs hP h i) _ _ (Nat.mod_lt _ hP)) _ _ (Nat.mod_lt _ hP)
set_option maxRecDepth 100000 in
set_option maxHeartbeats 2000000 in
theorem impl_join (P N R w0 off hh cap g base : Nat) (fs : List Nat) (w : World) (hP : 2 ≤ P ∧ P ≤ 268435456) (hw0 : w0 < P) (hN : N ≤ 16) (hof : off + 2 * hh ≤ N) (hO : OwnI w base g N (toZ fs)) (hgl : g < w.heap.size) (lf : fs.length = N) (hf : ∀ x ∈ fs, x < P) :
    Calls Tryz.prog 211 #[.agg #[.int .i64 P, .int .i64 N, .int .i64 R], .slice (some ⟨g, off, none⟩) (2 * hh) cap, .int .i64 w0] w fun e w' => e = .returned (.tuple #[]) ∧ w.grownBy w' (some g) ∧ OwnI w' base g N (toZ (jnS P w0 off hh fs hh)) := by
  have HO : Hid (OwnI w base g N (toZ fs)) := hO
  have HLT : Hid (∀ i j, (jnS P w0 off hh fs i).getD j 0 < P) := fun i j => getD_lt (jnS_lt P w0 off hh fs (by omega) hf i) (by omega) j
  have HLN : Hid (∀ i, (toZ (jnS P w0 off hh fs i)).length = N) := fun i => by rw [toZ_len, jnS_len, lf]
  have HST : Hid (∀ i, toZ (jnS P w0 off hh fs (i + 1)) = ((toZ (jnS P w0 off hh fs i)).set (off + i) (((jnS P w0 off hh fs i).getD (off + i) 0 + (jnS P w0 off hh fs i).getD (off + hh + i) 0) % P : Nat)).set (off + hh + i) (((jnS P w0 off hh fs i).getD (off + i) 0 + P - (jnS P w0 off hh fs i).getD (off + hh + i) 0) * w0 % P : Nat)) := fun i => by rw [jnS, toZ_set, toZ_set]
  have H0 : Hid (jnS P w0 off hh fs 0 = fs) := rfl
  generalize jnS P w0 off hh fs = F at *
  clear hO lf hf
  obtain ⟨ln, hln⟩ : ∃ ln, ln = 2 * hh := ⟨_, rfl⟩
  have el : (ln : Int) / 2 = (hh : Int) := by omega
  rw [← hln]
  have hln2 : off + ln ≤ N := by omega
  have hlb : ln ≤ 16 := by omega
  have HLH : Hid (ln = 2 * hh) := hln
  have hhl : hh ≤ 8 := by omega
  clear hln
  have RC0 : Hid (Rc (w.alloc (.cells #[.int .i64 P, .int .i64 N, .int .i64 R] 151)) w.heap.size P N R) := Rc.new w _ _ _
  have HG0 : Hid (w.grownBy (w.alloc (.cells #[.int .i64 P, .int .i64 N, .int .i64 R] 151)) (some g)) := World.grownBy_alloc _ _ _
  have HO0 : Hid (OwnI (w.alloc (.cells #[.int .i64 P, .int .i64 N, .int .i64 R] 151)) base g N (toZ (F 0))) := by
    show OwnI _ _ _ _ _
    rw [H0.out]
    exact HO.out.old ((Old.refl w).alloc _)
  have hpn : ¬ (P : Int) = 0 := by omega
  have hpn2 : ¬ P = 0 := by omega
  clear HO H0
  go_enter Tryz.func211, Tryz.ntmps211
  go_wp2_with fail
  go_loopw [7, 8, 9, 14] (fun x y z i W => ∃ k : Nat, k ≤ hh ∧ i = .int .i64 k ∧ Hid (OwnI W base g N (toZ (F k))) ∧ Hid (w.grownBy W (some g)) ∧ Hid (Rc W w.heap.size P N R)) (fun _ _ _ i _ => hh - (intOf i).toNat)
  case atStart => exact ⟨0, by omega, rfl, HO0, HG0, RC0⟩
  case round =>
    obtain ⟨k, hk, rfl, HO1, HG1, RC1⟩ := hrel
    clear HO0 HG0 RC0
    by_cases hlt : k < hh
    · have d1 : decide ((k : Int) < (hh : Int)) = true := by simp; omega
      have hk2 : off + k < N := by omega
      have hk3 : off + hh + k < N := by omega
      have i1 : (k : Int) < (ln : Int) := by have := HLH.out; omega
      have z0 := RC1.out.c0
      have c1 := HO1.out.get (HLN.out k) (off + k) hk2
      have c2 := HO1.out.get (HLN.out k) (off + hh + k) hk3
      rw [toZ_get] at c1 c2
      have c3 := HO1.out.free (off + k)
      have c4 := HO1.out.free (off + hh + k)
      have hx := HLT.out k (off + k)
      have hy := HLT.out k (off + hh + k)
      have HS := HST.out k
      generalize (F k).getD (off + k) 0 = x at *
      generalize (F k).getD (off + hh + k) 0 = y at *
      obtain ⟨jj, hjj⟩ : ∃ jj, jj = hh + k := ⟨_, rfl⟩
      have ej : (hh : Int) + (k : Int) = (jj : Int) := by omega
      have i2 : (jj : Int) < (ln : Int) := by have := HLH.out; omega
      have ewj : IntKind.i64.wrap (jj : Int) = (jj : Int) := by rw [IntKind.wrap_i64]; omega
      rw [show off + hh + k = off + jj by omega] at c2 c4 HS
      have hne : off + k ≠ off + jj := by omega
      have HJ : Hid (jj = hh + k) := hjj
      have HSS : Hid (toZ (F (k + 1)) = _) := HS
      clear hjj HS
      go_wp2_with fail
      go_quiet (fail)
      have HO2 : Hid (OwnI (wr.drewN nq) base g N (toZ (F k))) := HO1.out
      have HG2 : Hid (w.grownBy (wr.drewN nq) (some g)) := gby_drewN HG1.out nq
      have RC2 : Hid (Rc (wr.drewN nq) w.heap.size P N R) := RC1.out.old ((Old.refl _).drewN nq)
      have c1' : (wr.drewN nq).cell? ⟨g, off + k, none⟩ = some (.int .i64 (x : Int)) := c1
      have c2' : (wr.drewN nq).cell? ⟨g, off + jj, none⟩ = some (.int .i64 (y : Int)) := c2
      have c3' : (wr.drewN nq).frozen? ⟨g, off + k, none⟩ = false := c3
      have c4' : (wr.drewN nq).frozen? ⟨g, off + jj, none⟩ = false := c4
      have z0' : (wr.drewN nq).cell? ⟨w.heap.size, 0, none⟩ = some (.int .i64 (P : Int)) := z0
      clear c1 c2 c3 c4 z0 HO1 HG1 RC1
      generalize wr.drewN nq = W2 at *
      have e5 : (x : Int) + (y : Int) = ((x + y : Nat) : Int) := by simp
      have ewS : IntKind.i64.wrap ((x : Int) - (y : Int)) = (x : Int) - (y : Int) := by rw [IntKind.wrap_i64]; omega
      have e6 : (x : Int) - (y : Int) + (P : Int) = ((x + P - y : Nat) : Int) := by omega
      have b5 : x + y ≤ 600000000 := by omega
      have b6 : x + P - y ≤ 600000000 := by omega
      generalize x + y = sA at *
      generalize x + P - y = sB at *
      have ewA : IntKind.i64.wrap ((sA : Nat) : Int) = (sA : Int) := by rw [IntKind.wrap_i64]; omega
      have ewB : IntKind.i64.wrap ((sB : Nat) : Int) = (sB : Int) := by rw [IntKind.wrap_i64]; omega
      have b7 : sB * w0 ≤ 161061273600000000 := Nat.le_trans (Nat.mul_le_mul b6 (show w0 ≤ 268435456 by omega)) (by decide)
      have e7 : (sB : Int) * (w0 : Int) = ((sB * w0 : Nat) : Int) := by simp
      generalize sB * w0 = sC at *
      have ewC : IntKind.i64.wrap ((sC : Nat) : Int) = (sC : Int) := by rw [IntKind.wrap_i64]; omega
      have tA : Int.tmod (sA : Int) (P : Int) = ((sA % P : Nat) : Int) := by rw [Int.tmod_eq_emod_of_nonneg (by omega)]; simp
      have tC : Int.tmod (sC : Int) (P : Int) = ((sC % P : Nat) : Int) := by rw [Int.tmod_eq_emod_of_nonneg (by omega)]; simp
      have mA : (sA : Int) % (P : Int) = ((sA % P : Nat) : Int) := by simp
      have mC : (sC : Int) % (P : Int) = ((sC % P : Nat) : Int) := by simp
      generalize sA % P = A at *
      generalize sC % P = B at *
      have HO3 : Hid (OwnI ((W2.setCell ⟨g, off + k, none⟩ (.int .i64 (A : Int))).setCell ⟨g, off + jj, none⟩ (.int .i64 (B : Int))) base g N (toZ (F (k + 1)))) := by
        show OwnI _ _ _ _ _
        rw [HSS.out]
        exact (HO2.out.put (off + k) _).put (off + jj) _
      have HG3 : Hid (w.grownBy ((W2.setCell ⟨g, off + k, none⟩ (.int .i64 (A : Int))).setCell ⟨g, off + jj, none⟩ (.int .i64 (B : Int))) (some g)) := gby_trans HG2.out (gby_trans (HO2.out.gby (off + k) _) ((HO2.out.put (off + k) _).gby (off + jj) _))
      have HR3 : Hid (Rc ((W2.setCell ⟨g, off + k, none⟩ (.int .i64 (A : Int))).setCell ⟨g, off + jj, none⟩ (.int .i64 (B : Int))) w.heap.size P N R) := (RC2.out.by_ (HO2.out.gby (off + k) _) (fun b hb => by injection hb with hb; omega)).by_ ((HO2.out.put (off + k) _).gby (off + jj) _) (fun b hb => by injection hb with hb; omega)
      clear HSS
      go_wp2_with fail
      go_region
      all_goals
        go_wp2_with fail
        exact ⟨⟨k + 1, by omega, by go_num, HO3.out, gby_drewN HG3.out 1, HR3.out.old ((Old.refl _).drewN 1)⟩, by simp [intOf]; omega⟩
    · have d1 : decide ((k : Int) < (hh : Int)) = false := by simp; omega
      obtain rfl : k = hh := by omega
      go_wp2_with fail
      go_end0
      exact ⟨rfl, HG1.out, HO1.out⟩
end Go.Proofs.YtfgooclnohnkmaaGreatDoor
/- Proved: two drawn regions of the program's inverse. -/
namespace Go.Proofs.YtfgooclnohnkmaaGreatDoor
open Go.ChangeShapes Go.WideShapes Go.ChangeAt Go.RowKit
set_option linter.unusedVariables false
set_option linter.unusedSimpArgs false
set_option maxRecDepth 1000000 in
set_option maxHeartbeats 16000000 in
theorem reg_i3 (P N R L : Nat) (LS : List Nat) (kb : Nat) (w2 : World) (HRC : Hid (Rc w2 kb P N R)) (HL : Hid (LS.length = 32))
    (cpw : ∀ W, Calls Tryz.prog 209 #[.agg #[.int .i64 P, .int .i64 N, .int .i64 R]] W fun e w' => e = .returned (.agg (pwA LS)) ∧ Old W w')
    (cno : ∀ W, Old w2 W → Calls Tryz.prog 210 #[.int .i64 (N : Int)] W fun e w' => e = .returned (.int .i64 (L : Int)) ∧ w' = W)
    (Q : Exit → Act → World → Prop) (K : Act → World → Prop) (s0 s1 s3 s4 s5 s6 s7 s8 s9 s10 s11 s12 s13 s14 s15 s16 s17 s18 s19 s20 s21 s22 s23 s24 s25 s26 s27 s28 s29 s30 s31 s32 s33 s34 s35 s36 s37 s38 s39 s40 s41 s42 s43 s44 s45 s46 s47 s48 s49 s50 s51 s52 s53 s54 s55 s56 s57 s58 s59 s60 s61 s62 s63 s64 s65 s66 s67 s68 s69 s70 s71 s72 s73 s74 s75 s76 s77 s78 s79 s80 : Value)
    (HK : Hid (∀ (kp : Nat) (W : World) (u19 u20 u21 u22 u23 : Value), Old w2 W → Pw W kp LS → w2.heap.size ≤ kp → K ⟨#[s0, s1, .pointer (some ⟨kb, 0, none⟩), s3, s4, s5, .pointer (some ⟨kp, 0, none⟩), .int .i64 (L : Int), s8, s9, s10, s11, s12, s13, s14, s15, s16, s17, s18, u19, u20, u21, u22, u23, s24, s25, s26, s27, s28, s29, s30, s31, s32, s33, s34, s35, s36, s37, s38, s39, s40, s41, s42, s43, s44, s45, s46, s47, s48, s49, s50, s51, s52, s53, s54, s55, s56, s57, s58, s59, s60, s61, s62, s63, s64, s65, s66, s67, s68, s69, s70, s71, s72, s73, s74, s75, s76, s77, s78, s79, s80], []⟩ W)) :
    Code.wp Tryz.prog ((Tryz.f189.body.bind (regionAtF 3)).getD .skip) (Exit.then K Q) ⟨#[s0, s1, .pointer (some ⟨kb, 0, none⟩), s3, s4, s5, s6, s7, s8, s9, s10, s11, s12, s13, s14, s15, s16, s17, s18, s19, s20, s21, s22, s23, s24, s25, s26, s27, s28, s29, s30, s31, s32, s33, s34, s35, s36, s37, s38, s39, s40, s41, s42, s43, s44, s45, s46, s47, s48, s49, s50, s51, s52, s53, s54, s55, s56, s57, s58, s59, s60, s61, s62, s63, s64, s65, s66, s67, s68, s69, s70, s71, s72, s73, s74, s75, s76, s77, s78, s79, s80], []⟩ w2 := by
  conv => arg 2; whnf
  obtain ⟨M, hM, HM⟩ : ∃ M, (∀ W, Sem.run Tryz.prog (Go.sizeOf 217) W = .ok M W) ∧ Hid (M = 32) := ⟨32, Tryz.sizeOf217, rfl⟩
  have hzs : (pwA LS).size = M := by rw [HM.out]; exact pwA_size HL.out
  have HAS : Hid (∀ W', Old w2 W' → (W'.cell? ⟨kb, 0, none⟩ = some (.int .i64 (P : Int)) ∧ W'.cell? ⟨kb, 1, none⟩ = some (.int .i64 (N : Int)) ∧ W'.cell? ⟨kb, 2, none⟩ = some (.int .i64 (R : Int)))) := fun W' g => ⟨(HRC.out.old g).c0, (HRC.out.old g).c1, (HRC.out.old g).c2⟩
  obtain ⟨z0, z1, z2⟩ := HAS.out w2 (Old.refl _)
  obtain ⟨x0, x1, x2⟩ := HAS.out (w2.alloc (.cells #[.int .i64 0, .int .i64 0, .int .i64 0, .int .i64 0, .int .i64 0, .int .i64 0, .int .i64 0, .int .i64 0, .int .i64 0, .int .i64 0, .int .i64 0, .int .i64 0, .int .i64 0, .int .i64 0, .int .i64 0, .int .i64 0, .int .i64 0, .int .i64 0, .int .i64 0, .int .i64 0, .int .i64 0, .int .i64 0, .int .i64 0, .int .i64 0, .int .i64 0, .int .i64 0, .int .i64 0, .int .i64 0, .int .i64 0, .int .i64 0, .int .i64 0, .int .i64 0] 217)) ((Old.refl w2).alloc _)
  have tt : True := trivial
  refine wp_region_noPanic ?_
  go_region_with (first
    | (go_at_call 209; refine (cpw _).mono ?_; rintro e w3 ⟨rfl, g3⟩; first
      | (have HZ4 : Old (w2.alloc (.cells #[.int .i64 0, .int .i64 0, .int .i64 0, .int .i64 0, .int .i64 0, .int .i64 0, .int .i64 0, .int .i64 0, .int .i64 0, .int .i64 0, .int .i64 0, .int .i64 0, .int .i64 0, .int .i64 0, .int .i64 0, .int .i64 0, .int .i64 0, .int .i64 0, .int .i64 0, .int .i64 0, .int .i64 0, .int .i64 0, .int .i64 0, .int .i64 0, .int .i64 0, .int .i64 0, .int .i64 0, .int .i64 0, .int .i64 0, .int .i64 0, .int .i64 0, .int .i64 0] 217)).drew w3 := (by with_reducible exact g3); have HZ3 : Hid (Old (w2.alloc (.cells #[.int .i64 0, .int .i64 0, .int .i64 0, .int .i64 0, .int .i64 0, .int .i64 0, .int .i64 0, .int .i64 0, .int .i64 0, .int .i64 0, .int .i64 0, .int .i64 0, .int .i64 0, .int .i64 0, .int .i64 0, .int .i64 0, .int .i64 0, .int .i64 0, .int .i64 0, .int .i64 0, .int .i64 0, .int .i64 0, .int .i64 0, .int .i64 0, .int .i64 0, .int .i64 0, .int .i64 0, .int .i64 0, .int .i64 0, .int .i64 0, .int .i64 0, .int .i64 0] 217)).drew w3) := HZ4; clear HZ4; have PZ : Hid (Pw w3 w2.heap.size (List.replicate 32 0)) := (Pw.drw (pw_zero w2)).old HZ3.out; have G1 : Hid (Old w2 w3) := Old.trans (Below.drew ((Old.refl w2).alloc _)) HZ3.out; obtain ⟨y0, y1, y2⟩ := HAS.out w3 G1.out; clear g3 HZ3)
      | (have HZ4 : Old w2.drew w3 := (by with_reducible exact g3); have HZ3 : Hid (Old w2.drew w3) := HZ4; clear HZ4; have G1 : Hid (Old w2 w3) := Old.trans (Below.drew (Old.refl w2)) HZ3.out; obtain ⟨y0, y1, y2⟩ := HAS.out w3 G1.out; obtain ⟨v0, v1, v2⟩ := HAS.out (w3.alloc (.cells #[.int .i64 0, .int .i64 0, .int .i64 0, .int .i64 0, .int .i64 0, .int .i64 0, .int .i64 0, .int .i64 0, .int .i64 0, .int .i64 0, .int .i64 0, .int .i64 0, .int .i64 0, .int .i64 0, .int .i64 0, .int .i64 0, .int .i64 0, .int .i64 0, .int .i64 0, .int .i64 0, .int .i64 0, .int .i64 0, .int .i64 0, .int .i64 0, .int .i64 0, .int .i64 0, .int .i64 0, .int .i64 0, .int .i64 0, .int .i64 0, .int .i64 0, .int .i64 0] 217)) (G1.out.alloc _); clear g3 HZ3))
    | (go_at_call 210; refine (cno _ (by first | with_reducible exact G1.out | with_reducible exact G1.out.alloc _)).mono ?_; rintro e w4 ⟨rfl, hw4⟩; replace hw4 := hw4.symm; subst hw4)
    | (with_reducible refine upon_pw PZ.out LS HL.out ?_; go_simp)
    | (with_reducible refine upon_pw (pw_zero w3) LS HL.out ?_; go_simp)
    | fail)
  all_goals
    refine NoPanic.normal ?_
    go_wp2_with fail
    first
      | exact HK.out _ _ _ _ _ _ _ (Old.rowP G1.out (Nat.le_refl _) _) (PZ.out.row _ HL.out) (Nat.le_refl _)
      | exact HK.out _ _ _ _ _ _ _ (Old.rowP (G1.out.alloc _) G1.out.size _) ((pw_zero w3).row _ HL.out) G1.out.size
set_option maxRecDepth 1000000 in
set_option maxHeartbeats 16000000 in
theorem reg_i11 (P N R L parts part bb w0 : Nat) (LS : List Nat) (fa pa : Option Addr) (pn pc : Nat) (kb kp : Nat) (w2 : World) (HRC : Hid (Rc w2 kb P N R)) (HPW : Hid (Pw w2 kp LS)) (hN16 : N ≤ 16) (hbb : bb ≤ N) (hw0 : LS.getD (2 * N - bb) 0 = w0) (hb32 : 2 * N - bb < 32) (hpp : parts + part ≤ 1000)
    (cpa : ∀ W, Calls Tryz.prog 212 #[.slice fa N N, .int .i64 (part : Int), .int .i64 (parts : Int)] W fun e w' => e = .returned (.slice pa pn pc) ∧ w' = W)
    (cbb : ∀ W, Calls Tryz.prog 213 #[.int .i64 ((parts + part : Nat) : Int), .int .i64 (L : Int)] W fun e w' => e = .returned (.int .i64 (bb : Int)) ∧ w' = W)
    (PS : World → Prop) (csp : Calls Tryz.prog 211 #[.agg #[.int .i64 P, .int .i64 N, .int .i64 R], .slice pa pn pc, .int .i64 (w0 : Int)] w2.drew fun e w' => e = .returned (.tuple #[]) ∧ PS w')
    (Q : Exit → Act → World → Prop) (K : Act → World → Prop) (s0 s1 s3 s4 s8 s11 s12 s13 s14 s15 s16 s17 s18 s19 s20 s21 s22 s23 s24 s25 s26 s27 s28 s29 s30 s31 s32 s33 s34 s35 s36 s37 s38 s39 s40 s41 s42 s43 s44 s45 s46 s47 s48 s49 s50 s51 s52 s53 s54 s55 s56 s57 s58 s59 s60 s61 s62 s63 s64 s65 s66 s67 s68 s69 s70 s71 s72 s73 s74 s75 s76 s77 s78 s79 s80 : Value)
    (HK : Hid (∀ (W : World) (u38 u39 u40 u41 u42 u43 u44 u45 u46 u47 u48 u49 u50 u51 u52 u53 u54 : Value), PS W → K ⟨#[s0, s1, .pointer (some ⟨kb, 0, none⟩), s3, s4, .slice fa N N, .pointer (some ⟨kp, 0, none⟩), .int .i64 (L : Int), s8, .int .i64 (parts : Int), .int .i64 (part : Int), s11, s12, s13, s14, s15, s16, s17, s18, s19, s20, s21, s22, s23, s24, s25, s26, s27, s28, s29, s30, s31, s32, s33, s34, s35, s36, s37, u38, u39, u40, u41, u42, u43, u44, u45, u46, u47, u48, u49, u50, u51, u52, u53, u54, s55, s56, s57, s58, s59, s60, s61, s62, s63, s64, s65, s66, s67, s68, s69, s70, s71, s72, s73, s74, s75, s76, s77, s78, s79, s80], []⟩ W)) :
    Code.wp Tryz.prog ((Tryz.f189.body.bind (regionAtF 11)).getD .skip) (Exit.inBlock 3 (Exit.then K Q)) ⟨#[s0, s1, .pointer (some ⟨kb, 0, none⟩), s3, s4, .slice fa N N, .pointer (some ⟨kp, 0, none⟩), .int .i64 (L : Int), s8, .int .i64 (parts : Int), .int .i64 (part : Int), s11, s12, s13, s14, s15, s16, s17, s18, s19, s20, s21, s22, s23, s24, s25, s26, s27, s28, s29, s30, s31, s32, s33, s34, s35, s36, s37, s38, s39, s40, s41, s42, s43, s44, s45, s46, s47, s48, s49, s50, s51, s52, s53, s54, s55, s56, s57, s58, s59, s60, s61, s62, s63, s64, s65, s66, s67, s68, s69, s70, s71, s72, s73, s74, s75, s76, s77, s78, s79, s80], []⟩ w2 := by
  conv => arg 2; whnf
  have z0 := HRC.out.c0
  have z1 := HRC.out.c1
  have z2 := HRC.out.c2
  have c1 := HPW.out.at hb32
  rw [hw0] at c1
  have tpp : IntKind.i64.wrap ((parts : Int) + (part : Int)) = ((parts + part : Nat) : Int) := by rw [← Int.natCast_add, IntKind.wrap_i64]; omega
  have t2 : IntKind.i64.wrap (2 * (N : Int)) = 2 * (N : Int) := by rw [IntKind.wrap_i64]; omega
  have t3 : IntKind.i64.wrap (2 * (N : Int) - (bb : Int)) = ((2 * N - bb : Nat) : Int) := by rw [IntKind.wrap_i64]; omega
  generalize 2 * N - bb = b2 at *
  have ib : (b2 : Int) < 32 := by omega
  have tt : True := trivial
  refine wp_region_noPanic ?_
  go_region_with (first
    | (go_at_call 212; refine (cpa _).mono ?_; rintro e w3 ⟨rfl, hw3⟩; replace hw3 := hw3.symm; subst hw3)
    | (go_at_call 213; refine (cbb _).mono ?_; rintro e w4 ⟨rfl, hw4⟩; replace hw4 := hw4.symm; subst hw4)
    | (go_at_call 211; refine csp.mono ?_; rintro e w5 ⟨rfl, g5⟩; have G5 : Hid (PS w5) := g5; clear g5)
    | fail)
  all_goals
    refine NoPanic.normal ?_
    go_wp2_with fail
    exact HK.out _ _ _ _ _ _ _ _ _ _ _ _ _ _ _ _ _ _ G5.out
end Go.Proofs.YtfgooclnohnkmaaGreatDoor
/- Proved: the contract of the program's inverse: its joins, step by step, and the inverse of N. -/
namespace Go.Proofs.YtfgooclnohnkmaaGreatDoor
open Go.ChangeShapes Go.WideShapes Go.ChangeAt Go.RowKit
set_option linter.unusedVariables false
set_option linter.unusedSimpArgs false
/-- a step's first J parts joined -/
def ipS (P N R t : Nat) (fs : List Nat) : Nat → List Nat
  | 0 => fs
  | J + 1 => jnS P (R ^ (2 * N - backN (lg N) (N / 2 ^ (t + 1) + J) 0) % P) (J * (2 * 2 ^ t)) (2 ^ t) (ipS P N R t fs J) (2 ^ t)
/-- the first steps -/
def isS (P N R : Nat) (xs : List Nat) : Nat → List Nat
  | 0 => xs
  | t + 1 => ipS P N R t (isS P N R xs t) (N / 2 ^ (t + 1))
theorem ipS_len (P N R t : Nat) (fs : List Nat) : ∀ J, (ipS P N R t fs J).length = fs.length
  | 0 => rfl
  | J + 1 => by rw [ipS, jnS_len, ipS_len P N R t fs J]
theorem isS_len (P N R : Nat) (xs : List Nat) : ∀ t, (isS P N R xs t).length = xs.length
  | 0 => rfl
  | t + 1 => by rw [isS, ipS_len, isS_len P N R xs t]
theorem ipS_lt (P N R t : Nat) (fs : List Nat) (hP : 0 < P) (h : ∀ x ∈ fs, x < P) : ∀ J, ∀ x ∈ ipS P N R t fs J, x < P
  | 0 => h
  | J + 1 => by rw [ipS]; exact jnS_lt P _ _ _ _ hP (ipS_lt P N R t fs hP h J) _
theorem isS_lt (P N R : Nat) (xs : List Nat) (hP : 0 < P) (h : ∀ x ∈ xs, x < P) : ∀ t, ∀ x ∈ isS P N R xs t, x < P
  | 0 => h
  | t + 1 => by rw [isS]; exact ipS_lt P N R t _ hP (isS_lt P N R xs hP h t) _
theorem inv_parts {N : Nat} (h : Sz4 N) (t : Nat) (ht : t < lg N) : (N / 2 ^ (t + 1)) * (2 * 2 ^ t) = N ∧ 1 ≤ N / 2 ^ (t + 1) ∧ N / 2 ^ (t + 1) + N / 2 ^ (t + 1) ≤ N ∧ 1 ≤ 2 ^ t := by
  have key : ∀ N ∈ [2, 4, 8, 16], ∀ t, t < lg N → (N / 2 ^ (t + 1)) * (2 * 2 ^ t) = N ∧ 1 ≤ N / 2 ^ (t + 1) ∧ N / 2 ^ (t + 1) + N / 2 ^ (t + 1) ≤ N ∧ 1 ≤ 2 ^ t := by decide
  exact key N (by rcases h with rfl | rfl | rfl | rfl <;> decide) t ht
/-- the first k numbers times iv -/
def mS (iv P : Nat) (fs : List Nat) : Nat → List Nat
  | 0 => fs
  | k + 1 => (mS iv P fs k).set k (fs.getD k 0 * iv % P)
theorem mS_len (iv P : Nat) (fs : List Nat) : ∀ k, (mS iv P fs k).length = fs.length
  | 0 => rfl
  | k + 1 => by rw [mS, List.length_set, mS_len iv P fs k]
theorem mS_get (iv P : Nat) (fs : List Nat) : ∀ k j, k ≤ fs.length → (mS iv P fs k).getD j 0 = if j < k then fs.getD j 0 * iv % P else fs.getD j 0
  | 0, j, _ => by simp [mS]
  | k + 1, j, h => by
    rw [mS]
    by_cases hj : j = k
    · subst hj
      rw [if_pos (by omega)]
      simp [List.getD, mS_len, show j < fs.length by omega]
    · have e : ((mS iv P fs k).set k (fs.getD k 0 * iv % P)).getD j 0 = (mS iv P fs k).getD j 0 := by simp [List.getD, List.getElem?_set, Ne.symm hj]
      rw [e, mS_get iv P fs k j (by omega)]
      by_cases h1 : j < k
      · rw [if_pos h1, if_pos (by omega)]
      · rw [if_neg h1, if_neg (by omega)]
theorem mS_all (iv P : Nat) (fs : List Nat) : mS iv P fs fs.length = fs.map (fun x => x * iv % P) := by
  apply List.ext_getElem
  · rw [mS_len, List.length_map]
  · intro j h1 h2
    have hj : j < fs.length := by rwa [mS_len] at h1
    have := mS_get iv P fs fs.length j (Nat.le_refl _)
    rw [if_pos hj] at this
    simp only [List.getD_eq_getElem?_getD, List.getElem?_eq_getElem h1, List.getElem?_eq_getElem hj, Option.getD_some] at this
    rw [this, List.getElem_map]
theorem invM_ltI (a m : Nat) (hm : 0 < m) : M1.invM a m < m := by
  unfold M1.invM
  cases h : (List.range m).find? (fun i => a * i % m == 1) with
  | none => exact hm
  | some i =>
    have := List.mem_of_find?_eq_some h
    simpa using this
theorem back_pos {N : Nat} (h : Sz4 N) (k : Nat) (h0 : 0 < k) (hk : k < N) : 0 < backN (lg N) k 0 := by
  have key : ∀ N ∈ [2, 4, 8, 16], ∀ k, k < N → 0 < k → 0 < backN (lg N) k 0 := by decide +kernel
  exact key N (by rcases h with rfl | rfl | rfl | rfl <;> decide) k hk h0
set_option maxRecDepth 100000 in
set_option maxHeartbeats 8000000 in
theorem impl_inverse0 (P N R : Nat) (xs : List Nat) (v : Value) (w : World) (hT : TabW w) (hv : Row w v (toZ xs)) (hP : 2 ≤ P ∧ P ≤ 268435456) (h : Sz4 N) (hR : R < P) (la : xs.length = N) (ha : ∀ x ∈ xs, x < P) :
    Calls Tryz.prog 189 #[.agg #[.int .i64 P, .int .i64 N, .int .i64 R], v] w fun e w' => ∃ v', e = .returned v' ∧ Old w w' ∧ Own w' w.heap.size v' (toZ ((isS P N R xs (lg N)).map (fun x => x * M1.invM (N % P) P % P))) := by
  obtain ⟨i0, hi, hz0, hz1, hz2⟩ := info_parts Tryz.infoInt
  have hs := sz_bd h
  obtain ⟨b0, o0, cap0, rfl, hb0, hc0⟩ := hv.atZ (by omega)
  rw [la] at hc0 ⊢
  have HC0 : Hid (∀ j, j < N → w.cell? ⟨b0, o0 + j, none⟩ = some (.int .i64 ((toZ xs).getD j 0))) := fun j hj => by rw [hc0 j hj, toZ_get]
  have hlx : (toZ xs).length = N := by rw [toZ_len, la]
  have HT : Hid (TabW w) := hT
  have cpw := fun W => impl_powers P N R W hP hs hR
  have cno := fun W (hT : TabW W) => impl_noughts N W h hT
  have RC0 : Hid (Rc (w.alloc (.cells #[.int .i64 P, .int .i64 N, .int .i64 R] 151)) w.heap.size P N R) := Rc.new w _ _ _
  clear hc0 hv hT
  go_enter Tryz.func189, Tryz.ntmps189
  go_wp2_with (first
    | (at_make; refine wpList_make_full _ rfl _ _ 23 rfl (w.heap.size + 1) 3 i0 (.int .i64 0) 1 Tryz.underlying23 hi hz0 hz1 .i64 .i64 _ _ N rfl rfl rfl rfl (by rw [hz2]; omega) (by unfold maxLen; omega) (by simp) ?_; intro w1 hown hgrow; have HO1 : Hid (OwnI w1 (w.heap.size + 1) (w.heap.size + 1) N (List.replicate N 0)) := (by have e : (w.alloc (.cells #[.int .i64 P, .int .i64 N, .int .i64 R] 151)).heap.size = w.heap.size + 1 := (by simp); rw [made_ints, e] at hown; exact hown); have HG1 : Hid (Old (w.alloc (.cells #[.int .i64 P, .int .i64 N, .int .i64 R] 151)) w1) := Old.by_ (Old.refl _) hgrow (fun b hb => by cases hb); clear hown hgrow)
    | ((with_reducible refine copy_row (w.heap.size + 1) (w.heap.size + 1) N b0 o0 cap0 (List.replicate N 0) (toZ xs) ?_ ?_ HO1.out ?_ hlx ?_ ?_); exact rfl; exact rfl; (simp); (intro j hj; exact ((Old.trans ((Old.refl w).alloc _) HG1.out).cell (p := ⟨b0, o0 + j, none⟩) hb0).trans (HC0.out j hj)); intro w2 ho2 hbe2; have HO2 : Hid (OwnI w2 (w.heap.size + 1) (w.heap.size + 1) N (toZ xs)) := ho2; have HG2 : Hid (Old (w.alloc (.cells #[.int .i64 P, .int .i64 N, .int .i64 R] 151)) w2) := Below.trans HG1.out (hbe2.mono (by simp)); clear ho2 hbe2))
  have hlg := lg_pow h
  obtain ⟨FS, HFZ', HFSS', hFN', hFL', hEnd⟩ : ∃ FS : Nat → List Nat, FS 0 = xs ∧ (∀ t, FS (t + 1) = ipS P N R t (FS t) (N / 2 ^ (t + 1))) ∧ (∀ t, (FS t).length = N) ∧ (∀ t, ∀ x ∈ FS t, x < P) ∧ isS P N R xs (lg N) = FS (lg N) :=
    ⟨isS P N R xs, rfl, fun _ => rfl, fun s => by rw [isS_len, la], fun s => isS_lt P N R xs (by omega) ha s, rfl⟩
  have HFZ : Hid (toZ (FS 0) = toZ xs) := by show _ = _; rw [HFZ']
  have HFSS : Hid (∀ t, FS (t + 1) = ipS P N R t (FS t) (N / 2 ^ (t + 1))) := HFSS'
  have hFN : Hid (∀ t, (FS t).length = N) := hFN'
  have hFL : Hid (∀ t, ∀ x ∈ FS t, x < P) := hFL'
  have HEnd : Hid (isS P N R xs (lg N) = FS (lg N)) := hEnd
  clear HFZ' HFSS' hFN' hFL' hEnd
  have HLS : Hid ((pwS P R (2 * N)).length = 32) := pwS_len P R (2 * N)
  have RC2 : Hid (Rc w2 w.heap.size P N R) := RC0.out.old HG2.out
  have HGw2 : Hid (Old w w2) := Old.trans ((Old.refl w).alloc _) HG2.out
  refine reg_i3 P N R (lg N) (pwS P R (2 * N)) w.heap.size w2 RC2 HLS cpw (fun W g => cno W (HT.out.old (Old.trans HGw2.out g))) _ _ _ _ _ _ _ _ _ _ _ _ _ _ _ _ _ _ _ _ _ _ _ _ _ _ _ _ _ _ _ _ _ _ _ _ _ _ _ _ _ _ _ _ _ _ _ _ _ _ _ _ _ _ _ _ _ _ _ _ _ _ _ _ _ _ _ _ _ _ _ _ _ _ _ _ _ _ _ _ _ _ ?_
  intro kp W u19 u20 u21 u22 u23 gW hPw hkp0
  have HPW : Hid (Pw W kp (pwS P R (2 * N))) := hPw
  have HOW : Hid (OwnI W (w.heap.size + 1) (w.heap.size + 1) N (toZ xs)) := HO2.out.old gW
  have HRW : Hid (Rc W w.heap.size P N R) := RC2.out.old gW
  have HGW : Hid (Old w W) := Old.trans HGw2.out gW
  have hkp : w.heap.size + 1 < kp := by
    have h1 := (World.ownsRow.lt HO2.out (w.heap.size + 1) rfl).2
    omega
  clear gW hPw hkp0 RC2 HGw2 HO2 HG2
  go_wp2_with fail
  go_loopw [25] (fun i V => ∃ t : Nat, t ≤ lg N ∧ i = .int .i64 t ∧ Hid (OwnI V (w.heap.size + 1) (w.heap.size + 1) N (toZ (FS t))) ∧ Hid (Pw V kp (pwS P R (2 * N))) ∧ Hid (Rc V w.heap.size P N R) ∧ Hid (Old w V)) (fun i _ => lg N - (intOf i).toNat)
  case atStart => exact ⟨0, by omega, rfl, (by show OwnI _ _ _ _ _; rw [HFZ.out]; exact HOW.out), HPW, HRW, HGW⟩
  case round =>
    obtain ⟨t, htl, rfl, HO5, HP5, HR5, HG5⟩ := hrel
    clear HOW HPW HRW HGW
    have z1 := HR5.out.c1
    have z0 := HR5.out.c0
    by_cases hlt : t < lg N
    · have d1 : decide ((t : Int) < ((lg N : Nat) : Int)) = true := by simp; omega
      obtain ⟨p1, p2, p3, p4⟩ := inv_parts h t hlt
      obtain ⟨FP, HF0', HFS', HFE', HFP', HFQ'⟩ : ∃ FP : Nat → List Nat, FP 0 = FS t ∧ (∀ J, FP (J + 1) = jnS P (R ^ (2 * N - backN (lg N) (N / 2 ^ (t + 1) + J) 0) % P) (J * (2 * 2 ^ t)) (2 ^ t) (FP J) (2 ^ t)) ∧ FP (N / 2 ^ (t + 1)) = FS (t + 1) ∧ (∀ J, (FP J).length = N) ∧ (∀ J, ∀ x ∈ FP J, x < P) :=
        ⟨ipS P N R t (FS t), rfl, fun J => rfl, (HFSS.out t).symm, fun J => by rw [ipS_len]; exact hFN.out t, fun J => ipS_lt P N R t _ (by omega) (hFL.out t) J⟩
      have hqi : (N : Int) / 2 ^ (t + 1) = ((N / 2 ^ (t + 1) : Nat) : Int) := by push_cast; rfl
      obtain ⟨q, hq⟩ : ∃ q, N / 2 ^ (t + 1) = q := ⟨_, rfl⟩
      obtain ⟨hh, hhh⟩ : ∃ hh, 2 ^ t = hh := ⟨_, rfl⟩
      rw [hq] at p1 p2 p3 hqi HFE'
      rw [hhh] at p1 p4
      have HFS : Hid (∀ J, toZ (FP (J + 1)) = toZ (jnS P (R ^ (2 * N - backN (lg N) (q + J) 0) % P) (J * (2 * hh)) hh (FP J) hh)) := fun J => by rw [HFS' J, hq, hhh]
      have HF0 : Hid (toZ (FP 0) = toZ (FS t)) := by show _ = _; rw [HF0']
      have HFE : Hid (toZ (FP q) = toZ (FS (t + 1))) := by show _ = _; rw [HFE']
      have HFP : Hid (∀ J, (FP J).length = N) := HFP'
      have HFQ : Hid (∀ J, ∀ x ∈ FP J, x < P) := HFQ'
      clear HF0' HFS' HFE' HFP' HFQ' hq hhh
      go_wp2_with fail
      try rw [hqi]
      clear hqi
      go_loopw [35] (fun j V => ∃ J : Nat, J ≤ q ∧ j = .int .i64 J ∧ Hid (OwnI V (w.heap.size + 1) (w.heap.size + 1) N (toZ (FP J))) ∧ Hid (Pw V kp (pwS P R (2 * N))) ∧ Hid (Rc V w.heap.size P N R) ∧ Hid (Old w V)) (fun j _ => q - (intOf j).toNat)
      case atStart => exact ⟨0, by omega, rfl, (by show OwnI _ _ _ _ _; rw [HF0.out]; exact HO5.out), HP5, HR5, HG5⟩
      case round =>
        obtain ⟨J, hJ, rfl, HO6, HP6, HR6, HG6⟩ := hrel
        clear HO5 HP5 HR5 HG5 z0 z1
        by_cases hjl : J < q
        · have d2 : decide ((J : Int) < (q : Int)) = true := by simp; omega
          have hNX := HFS.out J
          have hbl := back_lt0 h (q + J)
          have hbp := back_pos h (q + J) (by omega) (by omega)
          have hw0 : (pwS P R (2 * N)).getD (2 * N - backN (lg N) (q + J) 0) 0 = R ^ (2 * N - backN (lg N) (q + J) 0) % P := pwS_get P R (2 * N) _ (by omega) (by omega)
          have hwl : R ^ (2 * N - backN (lg N) (q + J) 0) % P < P := Nat.mod_lt _ (by omega)
          have hof : J * (2 * hh) + 2 * hh ≤ N := by
            have h1 : (J + 1) * (2 * hh) ≤ q * (2 * hh) := Nat.mul_le_mul_right _ hjl
            rw [Nat.add_mul, Nat.one_mul, p1] at h1
            exact h1
          have cpa := fun W => impl_partOf (w.heap.size + 1) N J q (2 * hh) W hs p1.symm (by omega) (by omega) hjl
          have cbb := fun W => impl_backN N (q + J) W h (by omega)
          have hgl : w.heap.size + 1 < wr.heap.size := (World.ownsRow.lt HO6.out (w.heap.size + 1) rfl).2
          have csp := impl_join P N R (R ^ (2 * N - backN (lg N) (q + J) 0) % P) (J * (2 * hh)) hh (N - J * (2 * hh)) (w.heap.size + 1) (w.heap.size + 1) (FP J) wr.drew hP hwl (by omega) hof (HO6.out.old (Below.drew (Old.refl wr))) hgl (HFP.out J) (HFQ.out J)
          rw [← hNX] at csp
          clear hNX
          generalize R ^ (2 * N - backN (lg N) (q + J) 0) % P = w0 at *
          generalize backN (lg N) (q + J) 0 = bb at *
          go_wp2_with fail
          refine reg_i11 P N R (lg N) q J bb w0 (pwS P R (2 * N)) (some ⟨w.heap.size + 1, 0, none⟩) (some ⟨w.heap.size + 1, J * (2 * hh), none⟩) (2 * hh) (N - J * (2 * hh)) w.heap.size kp wr HR6 HP6 (by omega) (by omega) hw0 (by omega) (by omega) cpa cbb (fun w' => wr.drew.grownBy w' (some (w.heap.size + 1)) ∧ OwnI w' (w.heap.size + 1) (w.heap.size + 1) N (toZ (FP (J + 1)))) csp _ _ _ _ _ _ _ _ _ _ _ _ _ _ _ _ _ _ _ _ _ _ _ _ _ _ _ _ _ _ _ _ _ _ _ _ _ _ _ _ _ _ _ _ _ _ _ _ _ _ _ _ _ _ _ _ _ _ _ _ _ _ _ _ _ _ _ _ _ _ _ _ _ _ _ _ _ ?_
          intro V u38 u39 u40 u41 u42 u43 u44 u45 u46 u47 u48 u49 u50 u51 u52 u53 u54 hPS
          have HO7 : Hid (OwnI V (w.heap.size + 1) (w.heap.size + 1) N (toZ (FP (J + 1)))) := hPS.2
          have HP7 : Hid (Pw V kp (pwS P R (2 * N))) := (HP6.out.old (Below.drew (Old.refl wr))).by_ hPS.1 (fun k hk => by cases hk; omega)
          have HR7 : Hid (Rc V w.heap.size P N R) := (HR6.out.old (Below.drew (Old.refl wr))).by_ hPS.1 (fun k hk => by cases hk; omega)
          have HG7 : Hid (Old w V) := Old.by_ (Below.drew HG6.out) hPS.1 (fun k hk => by cases hk; omega)
          clear hPS HO6 HP6 HR6 HG6
          go_wp2_with fail
          exact ⟨⟨J + 1, by omega, by go_num, HO7, HP7, HR7, HG7⟩, by simp [intOf]; omega⟩
        · have d2 : decide ((J : Int) < (q : Int)) = false := by simp; omega
          obtain rfl : J = q := by omega
          have HO8 : Hid (OwnI wr (w.heap.size + 1) (w.heap.size + 1) N (toZ (FS (t + 1)))) := by
            have := HO6.out
            rw [HFE.out] at this
            exact this
          go_wp2_with fail
          exact ⟨⟨t + 1, by omega, by go_num, HO8, HP6, HR6, HG6⟩, by simp [intOf]; omega⟩
    · have d1 : decide ((t : Int) < ((lg N : Nat) : Int)) = false := by simp; omega
      obtain rfl : t = lg N := by omega
      have ci := fun W => impl_InvMod_yes (N : Int) (P : Int) W (by omega) (decide_eq_true ⟨by omega, by omega⟩)
      have ei : ((N : Int) % (P : Int)).toNat = N % P := by rw [← Int.natCast_emod, Int.toNat_natCast]
      rw [ei, Int.toNat_natCast] at ci
      go_wp2_with fail
      refine (ci _).mono ?_
      rintro e w3 ⟨rfl, hw3⟩
      replace hw3 := hw3.symm
      subst hw3
      have hfl := hFN.out (lg N)
      have hft := hFL.out (lg N)
      have HFT : Hid (∀ j, (FS (lg N)).getD j 0 < P) := fun j => getD_lt hft (by omega) j
      have HFN : Hid ((FS (lg N)).length = N) := hfl
      have HME : Hid (toZ (mS (M1.invM (N % P) P) P (FS (lg N)) N) = toZ ((isS P N R xs (lg N)).map (fun x => x * M1.invM (N % P) P % P))) := by
        show _ = _
        have e3 := mS_all (M1.invM (N % P) P) P (FS (lg N))
        rw [hfl] at e3
        rw [HEnd.out, e3]
      have hil := invM_ltI (N % P) P (by omega)
      have HMG : Hid (∀ k j, k ≤ N → (mS (M1.invM (N % P) P) P (FS (lg N)) k).getD j 0 = if j < k then (FS (lg N)).getD j 0 * M1.invM (N % P) P % P else (FS (lg N)).getD j 0) := fun k j hk => mS_get _ _ _ k j (by omega)
      have HML : Hid (∀ k, (toZ (mS (M1.invM (N % P) P) P (FS (lg N)) k)).length = N) := fun k => by rw [toZ_len, mS_len, hfl]
      have HMS : Hid (∀ k, toZ (mS (M1.invM (N % P) P) P (FS (lg N)) (k + 1)) = (toZ (mS (M1.invM (N % P) P) P (FS (lg N)) k)).set k (((FS (lg N)).getD k 0 * M1.invM (N % P) P % P : Nat) : Int)) := fun k => by rw [mS, toZ_set]
      have HM0 : Hid (toZ (mS (M1.invM (N % P) P) P (FS (lg N)) 0) = toZ (FS (lg N))) := rfl
      clear hfl hft
      generalize mS (M1.invM (N % P) P) P (FS (lg N)) = MS at *
      generalize FS (lg N) = fs at *
      have HZZ : Hid (∃ zz, zz = toZ ((isS P N R xs (lg N)).map (fun x => x * M1.invM (N % P) P % P))) := ⟨_, rfl⟩
      obtain ⟨zz, hzz⟩ := HZZ.out
      rw [← hzz] at HME
      have HZE : Hid (zz = toZ ((isS P N R xs (lg N)).map (fun x => x * M1.invM (N % P) P % P))) := hzz
      clear hzz HZZ
      obtain ⟨iv, hiv⟩ : ∃ iv, M1.invM (N % P) P = iv := ⟨_, rfl⟩
      rw [hiv] at hil HMG HMS ⊢
      clear hiv
      go_wp2_with fail
      go_loopw [64] (fun i V => ∃ k : Nat, k ≤ N ∧ i = .int .i64 k ∧ Hid (OwnI V (w.heap.size + 1) (w.heap.size + 1) N (toZ (MS k))) ∧ Hid (Rc V w.heap.size P N R) ∧ Hid (Old w V)) (fun i _ => N - (intOf i).toNat)
      case atStart => exact ⟨0, by omega, rfl, (by show OwnI _ _ _ _ _; rw [HM0.out]; exact HO5.out), HR5, HG5⟩
      case round =>
        obtain ⟨k, hk, rfl, HO6, HR6, HG6⟩ := hrel
        clear HO5 HP5 HR5 HG5 z0 z1
        by_cases hkl : k < N
        · have d2 : decide ((k : Int) < (N : Int)) = true := by simp; omega
          have i1 : (k : Int) < (N : Int) := by omega
          have z0 := HR6.out.c0
          have c1 := HO6.out.get (HML.out k) k hkl
          rw [toZ_get, HMG.out k k hk, if_neg (by omega)] at c1
          have c2 := HO6.out.free k
          have hx := HFT.out k
          have HS := HMS.out k
          generalize fs.getD k 0 = x at *
          have b1 : x * iv ≤ 72057594037927936 := Nat.le_trans (Nat.mul_le_mul (show x ≤ 268435456 by omega) (show iv ≤ 268435456 by omega)) (by decide)
          have e1 : IntKind.i64.wrap ((x : Int) * (iv : Int)) = ((x * iv : Nat) : Int) := by rw [← Int.natCast_mul, IntKind.wrap_i64]; omega
          have e2 : Int.tmod ((x * iv : Nat) : Int) (P : Int) = ((x * iv % P : Nat) : Int) := by rw [Int.tmod_eq_emod_of_nonneg (by omega)]; rfl
          have hp0 : ¬ P = 0 := by omega
          generalize x * iv % P = y at *
          generalize x * iv = m at *
          have HO7 : Hid (OwnI (wr.setCell ⟨w.heap.size + 1, k, none⟩ (.int .i64 (y : Int))) (w.heap.size + 1) (w.heap.size + 1) N (toZ (MS (k + 1)))) := by
            show OwnI _ _ _ _ _
            rw [HS]
            exact HO6.out.put k _
          have HR7 : Hid (Rc (wr.setCell ⟨w.heap.size + 1, k, none⟩ (.int .i64 (y : Int))) w.heap.size P N R) := HR6.out.by_ (HO6.out.gby k _) (fun b hb => by injection hb with hb; omega)
          have HG7 : Hid (Old w (wr.setCell ⟨w.heap.size + 1, k, none⟩ (.int .i64 (y : Int)))) := HG6.out.own (p := ⟨w.heap.size + 1, k, none⟩) (by show _ ≤ w.heap.size + 1; omega) _
          clear HS
          go_wp2_with fail
          go_region
          all_goals
            go_wp2_with fail
            exact ⟨⟨k + 1, by omega, by go_num, HO7.out, HR7.out.old ((Old.refl _).drewN 1), HG7.out.drewN 1⟩, by simp [intOf]; omega⟩
        · have d2 : decide ((k : Int) < (N : Int)) = false := by simp; omega
          obtain rfl : k = N := by omega
          have HF : Hid (Own wr w.heap.size (.slice (some ⟨w.heap.size + 1, 0, none⟩) k k) (toZ ((isS P k R xs (lg k)).map (fun x => x * M1.invM (k % P) P % P)))) := by
            have := HO6.out.own (HML.out k)
            rw [HME.out, HZE.out] at this
            exact this.low (by omega)
          go_wp2_with fail
          go_ret
          exact ⟨_, rfl, HG6.out, HF.out⟩
end Go.Proofs.YtfgooclnohnkmaaGreatDoor
