/- Proved: the walk of the statement FnFast: a fast conversion is the number and fewer products than there are primes. -/
import Derived.Test.YtfcdfielbpdloaaGreatDoorF05
import Derived.Test.YtfcdfielbpdloaaGreatDoorF21
import Derived.Test.YtfcdfielbpdloaaGreatDoorF16
import Derived.Test.YtfcdfielbpdloaaGreatDoorF23
import Derived.Test.YtfcdfielbpdloaaGreatDoorF26
import Derived.Test.YtfcdfielbpdloaaGreatDoorF19
import Derived.Test.YtfcdfielbpdloaaGreatDoorF22
import Derived.Test.YtfcdfielbpdloaaGreatDoorF18
namespace Go.Proofs.YtfcdfielbpdloaaGreatDoor
open Go.ChangeShapes Go.WideShapes Go.ChangeAt Go.RowKit
open M2
set_option linter.unusedVariables false
set_option linter.unusedSimpArgs false
theorem nat_toIF (xs : List Nat) : nat (toI xs) = xs := by
  apply List.ext_getElem
  · simp [nat, toI]
  · intro i h1 h2
    simp [nat, toI]
theorem add_dig (x q : Nat) (hx : cnt x ≤ 20) (hq : cnt q ≤ 20) : addW false false (toI (dig x)) (toI (dig q)) = (false, dig (x + q), true) := by
  have gd : ∀ k : Nat, cnt k ≤ 20 → Good false (toI (dig k)) := fun k hk => gw_good6 (dig_nrm _) (fun h => by cases h) (by unfold cnt at hk; omega)
  unfold addW
  rw [if_pos ⟨gd x hx, gd q hq⟩, nat_toIF, nat_toIF]
  have e : sv false (dig x) + sv false (dig q) = ((x + q : Nat) : Int) := by
    show (val (dig x) : Int) + (val (dig q) : Int) = _
    rw [val_dig, val_dig]
    omega
  rw [e]
  have hd : dg ((x + q : Nat) : Int) = dig (x + q) := by unfold dg; congr 1
  have hn : ng ((x + q : Nat) : Int) = false := by unfold ng; exact decide_eq_false (by omega)
  have hl : (dig (x + q)).length ≤ 40 := by
    have h1 : x + q < LB ^ 21 := by
      have a1 := cnt_lt x
      have a2 := cnt_lt q
      have b1 : LB ^ cnt x ≤ LB ^ 20 := Nat.pow_le_pow_right (by decide) hx
      have b2 : LB ^ cnt q ≤ LB ^ 20 := Nat.pow_le_pow_right (by decide) hq
      have b3 : LB ^ 20 + LB ^ 20 ≤ LB ^ 21 := by decide +kernel
      omega
    have := cnt_le h1
    unfold cnt at this
    omega
  unfold told
  rw [hd, hn, if_pos hl]
def RnB (k : Nat) (W : World) (v : Value) (xs : List Int) : Prop := Row W v xs ∧ ∀ b o n cap, v = .slice (some ⟨b, o, none⟩) n cap → n = 0 ∨ b ≠ k
theorem RnB.of {lo hi k : Nat} {W : World} {v : Value} {xs : List Int} (h : RwB lo hi W v xs) (hk : k < lo ∨ hi ≤ k) : RnB k W v xs := ⟨h.1, fun b o n cap e => (h.2 b o n cap e).imp id (fun h1 => by omega)⟩
theorem RnB.old {k : Nat} {W W' : World} {v : Value} {xs : List Int} (h : RnB k W v xs) (g : Old W W') : RnB k W' v xs := ⟨h.1.old g, h.2⟩
theorem RnB.set {k : Nat} {W : World} {v : Value} {xs : List Int} (h : RnB k W v xs) {p : Addr} (hp : p.block = k) (x : Value) : RnB k (W.setCell p x) v xs := by
  refine ⟨?_, h.2⟩
  rcases h.1 with h1 | ⟨b, o, cap, e, hb, h0, hc⟩
  · exact .inl h1
  · have hne := h.2 b o _ cap e
    refine .inr ⟨b, o, cap, e, by rw [World.size_setCell]; exact hb, h0, fun j hj => ?_⟩
    rw [← hc j hj]
    unfold World.cell?
    simp only [heap_setCell_other W p b x (by omega)]
structure FsI (w6 : World) (bx bq N Q : Nat) (qa : Option Addr) (qc : Nat) (xa : Option Addr) (xc : Nat) (W : World) : Prop where
  old : Old w6 W
  px : Bk W bx #[.bool false, .slice xa (dig N).length xc] 27
  pq : Bk W bq #[.bool false, .slice qa (dig Q).length qc] 27
  rx : RnB bx W (.slice xa (dig N).length xc) (toI (dig N))
  rq : RnB bx W (.slice qa (dig Q).length qc) (toI (dig Q))
  hb : w6.heap.size ≤ bx
  hq : bx < bq
theorem FsI.step {w6 W W' : World} {bx bq N Q : Nat} {qa xa : Option Addr} {qc xc : Nat} (h : FsI w6 bx bq N Q qa qc xa xc W) (g : Old W W') (ya : Option Addr) (yc M : Nat) (o : Own W' W.heap.size (.slice ya (dig M).length yc) (toI (dig M))) :
    FsI w6 bx bq M Q qa qc ya yc ((W'.setCell ⟨bx, 0, none⟩ (.bool false)).setCell ⟨bx, 1, none⟩ (.slice ya (dig M).length yc)) := by
  have hlt := h.px.lt
  have := h.hq
  refine ⟨((Old.trans h.old g).own (p := ⟨bx, 0, none⟩) h.hb _).own (p := ⟨bx, 1, none⟩) h.hb _, bk_put1W (bk_put0W (h.px.old g) _) _, bk_other (bk_other (h.pq.old g) (by show bq ≠ bx; omega) _) (by show bq ≠ bx; omega) _, ?_, ?_, h.hb, h.hq⟩
  · exact ((RnB.of (RwB.own o) (Or.inl (by omega))).set (p := ⟨bx, 0, none⟩) rfl (.bool false)).set (p := ⟨bx, 1, none⟩) rfl _
  · exact ((h.rq.old g).set (p := ⟨bx, 0, none⟩) rfl (.bool false)).set (p := ⟨bx, 1, none⟩) rfl _
set_option maxRecDepth 100000 in
set_option maxHeartbeats 8000000 in
theorem law_Fast (w : World) (code : Value) (len : Nat) (h : BysW w code len) (hl : len ≤ 9223372036854775807) (hP : PrsW w) (hT : TabW w) :
    Calls Tryz.prog 4 #[code] w fun e w' => e = .returned (.bool true) ∧ Old w w' := by
  have KD : Hid (Calls Tryz.prog 16 #[code] w (ThrW w)) := drawFast_c w code len h hl
  obtain ⟨ca0, ccap, hcode⟩ : ∃ ca ccap, code = .slice ca len ccap := by
    rcases h with ⟨a, cap, e, e2⟩ | ⟨b, o, cap, e, _⟩
    · exact ⟨a, cap, by rw [e, e2]⟩
    · exact ⟨_, cap, e⟩
  subst hcode
  have HP := hid hP
  have HT := hid hT
  clear h hP hT
  by_cases hb : (1048576 : Int) < (len : Int)
  · have d1 : decide ((1048576 : Int) < (len : Int)) = true := decide_eq_true hb
    have d2 : decide (1048576 < len) = true := decide_eq_true (by omega)
    go_enter Tryz.func4, Tryz.ntmps4
    go_wp2_with fail
    go_ret
    exact ⟨rfl, Old.refl _⟩
  have d1 : decide ((1048576 : Int) < (len : Int)) = false := decide_eq_false hb
  have d2 : decide (1048576 < len) = false := decide_eq_false (by omega)
  clear hb
  go_enter Tryz.func4, Tryz.ntmps4
  go_wp2_with fail
  refine KD.out.mono ?_
  rintro e w1 ⟨r, cr, zs, a, ca, xs, b, cb, ys, rfl, g1, ⟨hz4, hx3, hy3⟩, ⟨hca, hcb⟩, hxb, hyb, rz, ra, rb⟩
  have O1 := hid g1
  have HRZ := hid rz
  have HRA := hid ra
  have HRB := hid rb
  have bx64 : ∀ x ∈ xs, -9223372036854775808 ≤ x ∧ x ≤ 9223372036854775807 := fun x hx => by have := hxb x hx; omega
  have by64 : ∀ x ∈ ys, -9223372036854775808 ≤ x ∧ x ≤ 9223372036854775807 := fun x hx => by have := hyb x hx; omega
  obtain ⟨lx, hlx⟩ : ∃ lx, xs.length = lx := ⟨_, rfl⟩
  obtain ⟨ly, hly⟩ : ∃ ly, ys.length = ly := ⟨_, rfl⟩
  obtain ⟨lz, hlz⟩ : ∃ lz, zs.length = lz := ⟨_, rfl⟩
  rw [hlx] at HRA hca
  rw [hly] at HRB hcb
  rw [hlz] at HRZ
  rw [hlx, hly, hlz]
  have fA : Fit (.slice a lx ca) := hca
  have fB : Fit (.slice b ly cb) := hcb
  clear KD d1 d2 g1 rz ra rb hxb hyb
  cases hB : ((basB xs && basB ys) && rsB zs xs)
  · have KI := fun W (q : Old w1 W) => impl_FastConvert_no zs xs ys (.slice r lz cr) (.slice a lx ca) (.slice b ly cb) W (HP.out.old (Old.trans O1.out q)) (HT.out.old (Old.trans O1.out q)) (HRZ.out.old q) (HRA.out.old q) fA (HRB.out.old q) fB (by omega) (by omega) hB
    have KS := fun W (q : Old w1 W) => spec_FastConvert_no zs xs ys (.slice r lz cr) (.slice a lx ca) (.slice b ly cb) W (HRZ.out.old q) (HRA.out.old q) fA (HRB.out.old q) fB (by omega) (by omega) (by omega) bx64 by64 hB
    have HKI := hid KI
    have HKS := hid KS
    clear KI KS hB
    go_wp2_with fail
    refine (HKI.out _ (Old.refl _)).mono ?_
    rintro e w2 ⟨v2, rfl, g2, o2⟩
    obtain ⟨fa, fc, rfl⟩ := (Own.row o2).slice
    have O2 : Hid (Old w1 w2) := g2
    have RF : Hid (Row w2 (.slice fa ([] : List Int).length fc) []) := Own.row o2
    clear g2 o2 HKI
    go_wp2_with fail
    refine (HKS.out _ O2.out).mono ?_
    rintro e w3 ⟨v3, rfl, g3, o3⟩
    obtain ⟨sa, sc, rfl⟩ := (Own.row o3).slice
    have O3 : Hid (Old w1 w3) := Old.trans O2.out g3
    have KE := same_yes [] (.slice fa ([] : List Int).length fc) (.slice sa ([] : List Int).length sc) w3 (RF.out.old g3) (Own.row o3) (by simp)
    have HKE := hid KE
    clear g3 o3 KE HKS
    go_wp2_with fail
    refine HKE.out.mono ?_
    rintro e w4 ⟨rfl, g4⟩
    have O4 : Hid (Old w w4) := Old.trans O1.out (Old.trans O3.out g4)
    clear g4
    go_wp2_with fail
    go_ret
    exact ⟨rfl, O4.out⟩
  have hB' := hB
  simp only [Bool.and_eq_true] at hB'
  obtain ⟨⟨b1, b2⟩, b3⟩ := hB'
  obtain ⟨ps, exs, hbp⟩ := basB_yes b1
  obtain ⟨ts, eys, hbt⟩ := basB_yes b2
  obtain ⟨qs, ezs, hR⟩ := rsB_yes exs hbp b3
  subst exs eys ezs
  have lps : ps.length = lx := by rw [← hlx]; simp [toZ]
  have lts : ts.length = ly := by rw [← hly]; simp [toZ]
  have KI := fun W (q : Old w1 W) => impl_FastConvert_yes qs ps ts (.slice r lz cr) (.slice a lx ca) (.slice b ly cb) W (HP.out.old (Old.trans O1.out q)) (HT.out.old (Old.trans O1.out q)) (HRZ.out.old q) (HRA.out.old q) fA (HRB.out.old q) fB hR hbt hB
  have KS := fun W (q : Old w1 W) => spec_FastConvert_yes qs ps ts (.slice r lz cr) (.slice a lx ca) (.slice b ly cb) W (HRZ.out.old q) (HRA.out.old q) fA (HRB.out.old q) fB hR hbt b1 b2 b3
  have KO := fun W (q : Old w1 W) => impl_OverOf_yes qs ps (.slice r lz cr) (.slice a lx ca) W (HP.out.old (Old.trans O1.out q)) (HT.out.old (Old.trans O1.out q)) (HRZ.out.old q) (HRA.out.old q) fA hR b1 b3
  have KC := fun W (q : Old w1 W) => spec_ComposeWhole_yes qs ps (.slice r lz cr) (.slice a lx ca) W (HRZ.out.old q) (HRA.out.old q) fA hR b1 b3
  have KQ := fun W (q : Old w1 W) => spec_ProductOf_yes ps (.slice a lx ca) W (HRA.out.old q) fA hbp b1
  obtain ⟨hov, hmd⟩ := over_lt (rs := qs) hbp
  rw [hmd] at KO
  have hco := co_over (rs := qs) hbp
  have hfc := fc_eq qs ps ts hbt
  have hsg := sum_good hR
  have hcs := sumN_cnt (rs := qs) hbp ps.length (Nat.le_refl _)
  have hcp : cnt (prodN ps) ≤ 7 := by
    have := prodN_cnt ps hbp.hi ps.length (Nat.le_refl _)
    rw [List.take_length] at this
    have := hbp.len6
    omega
  have hlf : (toZ (fcL ps (yL qs ps) ts)).length ≤ 1048576 := by
    have : (toZ (fcL ps (yL qs ps) ts)).length = ts.length := by simp [toZ, fcL]
    have := hbt.len6
    omega
  unfold coN at KC
  obtain ⟨SM, hSM⟩ : ∃ SM, sumN qs ps ps.length = SM := ⟨_, rfl⟩
  obtain ⟨Q, hQ⟩ : ∃ Q, prodN ps = Q := ⟨_, rfl⟩
  obtain ⟨FL, hFL⟩ : ∃ FL, toZ (fcL ps (yL qs ps) ts) = FL := ⟨_, rfl⟩
  rw [hSM] at KO KC hov hco hfc hsg hcs
  rw [hQ] at KO KC KQ hov hco hcp
  rw [hFL] at KI KS hfc hlf
  have KR := fun W (v : Value) (rv : Row W v (toI (dig SM))) (q : Old w1 W) => spec_ResiduesOf_yes false (toI (dig SM)) ts v (.slice b ly cb) W rv (HRB.out.old q) fB (by rw [toI_len]; unfold cnt at hcs; omega) hsg hbt b2
  rw [hfc] at KR
  obtain ⟨OV, hOV⟩ : ∃ OV, SM / Q = OV := ⟨_, rfl⟩
  obtain ⟨CO, hCO⟩ : ∃ CO, SM % Q = CO := ⟨_, rfl⟩
  rw [hOV] at KO hov hco
  rw [hCO] at KC hco
  rw [lps] at hov
  have hOv6 : OV ≤ 6 := by omega
  have HKI := hid KI
  have HKS := hid KS
  have HKO := hid KO
  have HKC := hid KC
  have HKQ := hid KQ
  have HKR := hid KR
  have HCO : Hid (CO + OV * Q = SM) := hco
  have HCS : Hid (cnt SM ≤ 7) := hcs
  have HCP : Hid (cnt Q ≤ 7) := hcp
  have HLF : Hid (FL.length ≤ 1048576) := hlf
  clear KI KS KO KC KQ KR hco hcs hcp hlf hfc hsg hmd hB b1 b2 b3 hbp hbt hR hSM hQ hFL hOV hCO lps lts hlx hly hlz bx64 by64 hz4 hx3 hy3
  go_wp2_with fail
  refine (HKI.out _ (Old.refl _)).mono ?_
  rintro e w2 ⟨v2, rfl, g2, o2⟩
  obtain ⟨fa, fc, rfl⟩ := (Own.row o2).slice
  have O2 : Hid (Old w1 w2) := g2
  have RF : Hid (Row w2 (.slice fa FL.length fc) FL) := Own.row o2
  clear g2 o2 HKI
  go_wp2_with fail
  refine (HKS.out _ O2.out).mono ?_
  rintro e w3 ⟨v3, rfl, g3, o3⟩
  obtain ⟨sa, sc, rfl⟩ := (Own.row o3).slice
  have O3 : Hid (Old w1 w3) := Old.trans O2.out g3
  have P3 : Hid (Old w2 w3) := g3
  have KE := same_yes FL (.slice fa FL.length fc) (.slice sa FL.length sc) w3 (RF.out.old g3) (Own.row o3) HLF.out
  have HKE := hid KE
  clear g3 o3 KE HKS
  go_wp2_with fail
  refine HKE.out.mono ?_
  rintro e w4 ⟨rfl, g4⟩
  have O4 : Hid (Old w1 w4) := Old.trans O3.out g4
  have P4 : Hid (Old w2 w4) := Old.trans P3.out g4
  clear g4 HKE O3 P3
  go_wp2_with fail
  refine (HKO.out _ O4.out).mono ?_
  rintro e w5 ⟨rfl, g5⟩
  have O5 : Hid (Old w1 w5) := Old.trans O4.out g5
  have P5 : Hid (Old w2 w5) := Old.trans P4.out g5
  have d3 : decide ((OV : Int) < 0) = false := decide_eq_false (by omega)
  have d4 : decide ((lx : Int) ≤ (OV : Int)) = false := decide_eq_false (by omega)
  have d5 : decide (lx ≤ OV) = false := decide_eq_false (by omega)
  clear g5 HKO O4 P4
  go_wp2_with fail
  refine (HKC.out _ O5.out).mono ?_
  rintro e w6 ⟨v6, rfl, g6, o6⟩
  obtain ⟨xa, xc, rfl⟩ := (Own.row o6).sliceN
  obtain ⟨B6, hB6⟩ : ∃ B6 : World, w6.alloc (.cells #[.bool false, .slice xa (dig CO).length xc] 27) = B6 := ⟨_, rfl⟩
  have O6 : Hid (Old w1 B6) := by rw [← hB6]; exact (Old.trans O5.out g6).alloc _
  have P6 : Hid (Old w2 B6) := by rw [← hB6]; exact (Old.trans P5.out g6).alloc _
  have U6 : Hid (Old w6 B6) := by rw [← hB6]; exact (Old.refl w6).alloc _
  have V16 : Hid (Old w1 w6) := Old.trans O5.out g6
  have V26 : Hid (Old w2 w6) := Old.trans P5.out g6
  have X6 : Hid (Bk B6 w6.heap.size #[.bool false, .slice xa (dig CO).length xc] 27) := by rw [← hB6]; exact Bk.new' w6 _ _ rfl
  have R6 : Hid (RwB w5.heap.size w6.heap.size w6 (.slice xa (dig CO).length xc) (toI (dig CO))) := RwB.own o6
  have s56 := g6.size
  have sB6 : B6.heap.size = w6.heap.size + 1 := by rw [← hB6]; simp
  clear g6 o6 HKC O5 P5 d3 d4 d5
  go_wp2_with fail
  refine (HKQ.out _ O6.out).mono ?_
  rintro e w7 ⟨v7, rfl, g7, o7⟩
  obtain ⟨qa, qc, rfl⟩ := (Own.row o7).sliceN
  obtain ⟨B7, hB7⟩ : ∃ B7 : World, w7.alloc (.cells #[.bool false, .slice qa (dig Q).length qc] 27) = B7 := ⟨_, rfl⟩
  have s67 := g7.size
  have F7 : Hid (FsI w6 w6.heap.size w7.heap.size CO Q qa qc xa xc B7) := by
    rw [← hB7]
    refine ⟨(Old.trans U6.out g7).alloc _, (X6.out.old g7).alloc _, Bk.new' w7 _ _ rfl, ?_, ?_, Nat.le_refl _, by omega⟩
    · exact (RnB.of R6.out (Or.inr (Nat.le_refl _))).old ((Old.trans U6.out g7).alloc _)
    · exact (RnB.of (RwB.own o7) (Or.inl (by omega))).old ((Old.refl w7).alloc _)
  obtain ⟨bx, hbx⟩ : ∃ bx, w6.heap.size = bx := ⟨_, rfl⟩
  obtain ⟨bq, hbq⟩ : ∃ bq, w7.heap.size = bq := ⟨_, rfl⟩
  rw [hbx, hbq] at F7
  rw [hbx]
  clear g7 o7 HKQ O6 P6 U6 X6 R6
  go_wp2_with fail
  go_loopw [10] (fun ov W' => ∃ (j : Nat) (ya : Option Addr) (yc : Nat), j ≤ OV ∧ ov = .int .i64 ((OV : Int) - (j : Int)) ∧ Hid (FsI w6 bx bq (CO + j * Q) Q qa qc ya yc W')) (fun ov _ => (intOf ov).toNat)
  case atStart => exact ⟨0, xa, xc, by omega, by simp, by simpa using F7⟩
  case round =>
    obtain ⟨j, ya, yc, hj, rfl, F1⟩ := hrel
    clear F7
    by_cases hlt : j < OV
    · have d1 : decide ((0 : Int) < (OV : Int) - (j : Int)) = true := decide_eq_true (by omega)
      have hle : CO + j * Q + Q ≤ SM := by
        have h1 := HCO.out
        have h2 : (j + 1) * Q ≤ OV * Q := Nat.mul_le_mul_right _ (by omega)
        rw [Nat.add_mul, Nat.one_mul] at h2
        omega
      have hcx : cnt (CO + j * Q) ≤ 7 := Nat.le_trans (cnt_mono (by omega)) HCS.out
      have KA := spec_add false false (toI (dig (CO + j * Q))) (toI (dig Q)) (.slice ya (dig (CO + j * Q)).length yc) (.slice qa (dig Q).length qc) wr F1.out.rx.1 F1.out.rq.1 (by rw [toI_len]; unfold cnt at hcx; omega) (by rw [toI_len]; have := HCP.out; unfold cnt at this; omega) _ (add_dig (CO + j * Q) Q (by omega) (by have := HCP.out; omega))
      have eN : CO + j * Q + Q = CO + (j + 1) * Q := by rw [Nat.add_mul, Nat.one_mul, Nat.add_assoc]
      rw [eN] at KA
      have p0 := F1.out.px.c (i := 0) rfl
      have p1 := F1.out.px.c (i := 1) rfl
      have p2 := F1.out.pq.c (i := 0) rfl
      have p3 := F1.out.pq.c (i := 1) rfl
      have HKA := hid KA
      clear KA hle hcx eN
      go_wp2_with fail
      refine HKA.out.mono ?_
      rintro e w8 ⟨v8, rfl, g8, o8⟩
      obtain ⟨za, zc, rfl⟩ := (Own.row o8).sliceN
      have F2 := hid (F1.out.step g8 za zc _ o8)
      have F1x := hid (F1.out.px.old g8)
      have p0 := F1x.out.c (i := 0) rfl
      have p1 := F1x.out.c (i := 1) rfl
      have t0 := frozen_of_row _ _ 0 _ _ F1x.out
      have t1 := frozen_of_row _ _ 1 _ _ F1x.out
      have u1 := (bk_put0W F1x.out (.bool false)).c (i := 1) rfl
      have u0 := frozen_of_row _ _ 1 _ _ (bk_put0W F1x.out (.bool false))
      clear g8 o8 HKA F1
      go_wp2_with fail
      exact ⟨⟨j + 1, za, zc, by omega, by go_num, F2⟩, by simp [intOf]; omega⟩
    · have d1 : decide ((0 : Int) < (OV : Int) - (j : Int)) = false := decide_eq_false (by omega)
      obtain rfl : j = OV := by omega
      rw [HCO.out] at F1
      have O9 : Hid (Old w1 wr) := Old.trans V16.out F1.out.old
      have P9 : Hid (Old w2 wr) := Old.trans V26.out F1.out.old
      have RX := hid F1.out.rx.1
      have p0 := F1.out.px.c (i := 0) rfl
      have p1 := F1.out.px.c (i := 1) rfl
      clear hlt
      go_wp2_with fail
      refine (HKR.out _ _ RX.out O9.out).mono ?_
      rintro e w9 ⟨v9, rfl, g9, o9⟩
      obtain ⟨ga, gc, rfl⟩ := (Own.row o9).slice
      have KE := same_yes FL (.slice ga FL.length gc) (.slice fa FL.length fc) w9 (Own.row o9) (RF.out.old (Old.trans P9.out g9)) HLF.out
      have HKE := hid KE
      have OX : Hid (Old w w9) := Old.trans O1.out (Old.trans O9.out g9)
      clear g9 o9 KE HKR
      go_wp2_with fail
      refine HKE.out.mono ?_
      rintro e w10 ⟨rfl, g10⟩
      have OY : Hid (Old w w10) := Old.trans OX.out g10
      clear g10
      go_wp2_with fail
      go_ret
      exact ⟨rfl, OY.out⟩
end Go.Proofs.YtfcdfielbpdloaaGreatDoor
