/- Proved: ciphers as a law carries them: marks, and marks that are held still. -/
import Derived.Test.YtakleianimcmdaaGreatDoorP16
namespace Go.Proofs.YtakleianimcmdaaGreatDoor
open Go.ChangeShapes Go.WideShapes Go.ChangeAt Go.RowKit
set_option linter.unusedVariables false
set_option linter.unusedSimpArgs false
def mkSS : Int → List (List Int) → List (List Int)
  | _, [] => []
  | k, r :: rs => marks k r.length :: mkSS (k + r.length) rs
theorem mkSS_len : ∀ (xss : List (List Int)) (k : Int), (mkSS k xss).length = xss.length
  | [], k => rfl
  | r :: rs, k => by
    show (mkSS (k + r.length) rs).length + 1 = rs.length + 1
    rw [mkSS_len rs]
theorem mkSS_get : ∀ (xss : List (List Int)) (k : Int) (j : Nat), j < xss.length → (mkSS k xss).getD j [] = marks (k + offL xss j) (xss.getD j []).length
  | [], k, j, h => by simp at h
  | r :: rs, k, 0, h => by
    show marks k r.length = marks (k + ((offL (r :: rs) 0 : Nat) : Int)) _
    rw [offL_zero]
    simp
  | r :: rs, k, j + 1, h => by
    have := mkSS_get rs (k + r.length) j (by simpa using h)
    show (mkSS (k + r.length) rs).getD j [] = marks (k + ((r.length + offL rs j : Nat) : Int)) (rs.getD j []).length
    rw [this]
    congr 1
    omega
def mkT : Int → List (List (List Int)) → List (List (List Int))
  | _, [] => []
  | k, r :: rs => mkSS k r :: mkT (k + offL r r.length) rs
theorem mkT_len : ∀ (xsss : List (List (List Int))) (k : Int), (mkT k xsss).length = xsss.length
  | [], k => rfl
  | r :: rs, k => by
    show (mkT (k + offL r r.length) rs).length + 1 = rs.length + 1
    rw [mkT_len rs]
theorem mkT_get : ∀ (xsss : List (List (List Int))) (k : Int) (j : Nat), j < xsss.length → (mkT k xsss).getD j [] = mkSS (k + offT xsss j) (xsss.getD j [])
  | [], k, j, h => by simp at h
  | r :: rs, k, 0, h => by
    show mkSS k r = mkSS (k + ((offT (r :: rs) 0 : Nat) : Int)) _
    rw [offT_zero]
    simp
  | r :: rs, k, j + 1, h => by
    have := mkT_get rs (k + offL r r.length) j (by simpa using h)
    show (mkT (k + offL r r.length) rs).getD j [] = mkSS (k + ((offL r r.length + offT rs j : Nat) : Int)) (rs.getD j [])
    rw [this]
    congr 1
    omega
structure ChB (w w' : World) (B : Nat → Prop) : Prop where
  os : w'.os = w.os
  tape : w'.tape = w.tape
  output : w'.output = w.output
  size : w.heap.size ≤ w'.heap.size
  block : ∀ b, b < w.heap.size → ¬ B b → w'.heap[b]? = w.heap[b]?
theorem ChB.refl (w : World) (B : Nat → Prop) : ChB w w B := ⟨rfl, rfl, rfl, Nat.le_refl _, fun _ _ _ => rfl⟩
theorem ChB.trans {a b c : World} {B : Nat → Prop} (h : ChB a b B) (k : ChB b c B) : ChB a c B :=
  ⟨k.os.trans h.os, k.tape.trans h.tape, k.output.trans h.output, Nat.le_trans h.size k.size, fun i hi ho => (k.block i (Nat.lt_of_lt_of_le hi h.size) ho).trans (h.block i hi ho)⟩
theorem ChB.sub {w w' : World} {B C : Nat → Prop} (h : ChB w w' B) (hs : ∀ b, B b → C b) : ChB w w' C :=
  ⟨h.os, h.tape, h.output, h.size, fun b hb hn => h.block b hb (fun hx => hn (hs b hx))⟩
theorem ChB.chg {w w' : World} {B : Nat → Prop} {lo hi : Nat} (h : ChB w w' B) (hb : ∀ b, B b → lo ≤ b ∧ b < hi) : Chg w w' lo hi :=
  ⟨h.os, h.tape, h.output, h.size, fun b hl ho => h.block b hl (fun hx => by have := hb b hx; omega)⟩
theorem ChB.by_ {w w' : World} {B : Nat → Prop} {ob : Option Nat} (g : w.grownBy w' ob) (hb : ∀ b, ob = some b → B b) : ChB w w' B :=
  ⟨g.os, g.tape, g.output, g.size, fun b hl ho => g.block b hl (fun h => ho (hb b h.symm))⟩
set_option maxRecDepth 100000 in
set_option maxHeartbeats 4000000 in
theorem markIntSS_B (xss : List (List Int)) (v : Value) (k : Int) (B : Nat → Prop) (w : World) (hv : TSS xss w B [v]) (hl : xss.length ≤ 1048576) (hr : ∀ r ∈ xss, r.length ≤ 1048576) (hk : 0 ≤ k) (hs : k + (offL xss xss.length : Int) ≤ 1073741824) :
    Calls Tryz.prog 130 #[v, .int .i64 k] w fun e w' => e = .returned (.int .i64 (k + offL xss xss.length)) ∧ ChB w w' B ∧ TSS (mkSS k xss) w' B [v] := by
  rcases Nat.eq_zero_or_pos xss.length with h0 | h0
  · obtain rfl := List.length_eq_zero_iff.1 h0
    have HF : Hid (TSS (mkSS k []) w B [v]) := hv
    obtain ⟨a, c, rfl⟩ := TSS.slice hv
    clear hv h0
    go_enter Tryz.func130, Tryz.ntmps130
    go_wp2_with fail
    go_loopw [5, 1] (fun i l W => i = .int .i64 0 ∧ l = .int .i64 k ∧ W = w) (fun _ _ _ => 0)
    case atStart => exact ⟨rfl, rfl, rfl⟩
    case round =>
      obtain ⟨rfl, rfl, hW⟩ := hrel
      obtain rfl : w = wr := hW.symm
      go_wp2_with fail
      go_ret
      exact ⟨by simp [offL], ChB.refl w B, HF.out⟩
  rcases hv with ⟨h1, _, _⟩ | ⟨p, cap, vs, Bs, e, hc, hb⟩
  · omega
  simp at e
  subst e
  have HR : Hid (∀ r ∈ xss, r.length ≤ 1048576) := hr
  have HS : Hid (k + (offL xss xss.length : Int) ≤ 1073741824) := hs
  have HBB : Hid (∀ j b, j < xss.length → Bs j b → B b) := fun j b hj h => (hb b).2 (.inr ⟨j, hj, h⟩)
  have HI : Hid (TSc 22 1 xss.length xss.length (fun q => if q < 0 then TI (marks (k + offL xss q) (xss.getD q []).length) else TI (xss.getD q [])) w p cap vs Bs) := hc.ext (fun j _ => by simp)
  have HF : Hid (∀ w', TSc 22 1 xss.length xss.length (fun q => if q < xss.length then TI (marks (k + offL xss q) (xss.getD q []).length) else TI (xss.getD q [])) w' p cap vs Bs → TSS (mkSS k xss) w' B [.slice (some ⟨p, 0, none⟩) xss.length cap]) := fun w' h => by
    refine .inr ⟨p, cap, vs, Bs, by rw [mkSS_len], ?_, fun b => by rw [mkSS_len]; exact hb b⟩
    rw [mkSS_len]
    exact h.ext (fun j hj => by simp only [hj, if_true]; rw [mkSS_get xss k j hj])
  have HGD : Hid (∀ n j, GoodT (if j < n then TI (marks (k + offL xss j) (xss.getD j []).length) else TI (xss.getD j []))) := fun n j => by
    split
    · exact good_TI _
    · exact good_TI _
  have HC0 : Hid (ChB w w B) := ChB.refl w B
  clear hc hb hr hs
  go_enter Tryz.func130, Tryz.ntmps130
  go_wp2_with fail
  go_loopw [5, 1] (fun i l W => ∃ j : Nat, j ≤ xss.length ∧ i = .int .i64 j ∧ l = .int .i64 (k + offL xss j) ∧ Hid (TSc 22 1 xss.length xss.length (fun q => if q < j then TI (marks (k + offL xss q) (xss.getD q []).length) else TI (xss.getD q [])) W p cap vs Bs) ∧ Hid (ChB w W B)) (fun i _ _ => xss.length - (intOf i).toNat)
  case atStart => exact ⟨0, by omega, rfl, by rw [offL_zero]; simp, HI, HC0⟩
  case round =>
    obtain ⟨j, hj, rfl, rfl, H1, HC⟩ := hrel
    clear HI HC0
    by_cases hlt : j < xss.length
    · have d1 : decide ((j : Int) < (xss.length : Int)) = true := by simp; omega
      have hvl : vs.length = xss.length := by have := H1.out.row.1; omega
      have hel := H1.out.el j hlt
      simp only [Nat.lt_irrefl, if_false] at hel
      rw [one_get (by omega)] at hel
      obtain ⟨a', c', ex⟩ := hel.slice
      have hfit : (xss.getD j []).length ≤ c' := by
        obtain ⟨a3, c3, e3, _, f3, _⟩ := hel
        simp at e3
        rw [ex] at e3
        simp at e3
        rw [e3.2]
        exact f3
      rw [ex] at hel
      have hbl : ∀ b, Bs j b ↔ (Value.slice a' (xss.getD j []).length c').ownBlock = some b := hel.blocks
      have q1 : wr.cell? ⟨p, j, none⟩ = some (.slice a' (xss.getD j []).length c') := by
        rw [World.ownsRow.cellAt H1.out.row j (by omega), ← ex]
        exact List.getElem?_eq_getElem _
      have hm : xss.getD j [] ∈ xss := by simp [List.getD, hlt]
      have hrl := HR.out _ hm
      have hoj := offL_le xss (j + 1)
      have hos := offL_succ xss j hlt
      have hsum := HS.out
      have hkb : 0 ≤ k + (offL xss j : Int) ∧ k + (offL xss j : Int) ≤ 1073741824 := by omega
      have HN4 : Hid (k + (offL xss (j + 1) : Int) = k + (offL xss j : Int) + ((xss.getD j []).length : Int)) := by show _ = _; rw [hos]; omega
      have HX : Hid (∀ w2, wr.grownBy w2 (Value.slice a' (xss.getD j []).length c').ownBlock → Own w2 0 (.slice a' (xss.getD j []).length c') (marks (k + offL xss j) (xss.getD j []).length) → ChB w w2 B ∧ TSc 22 1 xss.length xss.length (fun q => if q < j + 1 then TI (marks (k + offL xss q) (xss.getD q []).length) else TI (xss.getD q [])) w2 p cap vs Bs) := fun w2 gr o => by
        refine ⟨HC.out.trans (ChB.by_ gr (fun b hb => HBB.out j b hlt ((hbl b).2 hb))), (H1.out.sub (HGD.out j) j hlt (E' := TI (marks (k + offL xss j) (xss.getD j []).length)) (fun b h1 h2 => gr.block b h1 (fun e => h2 ((hbl b).2 e.symm))) ?_).ext (fun q hq => ?_)⟩
        · rw [one_get (by omega), ex]
          refine ⟨a', c', by rw [marks_len], ?_, ?_, ?_⟩
          · rw [marks_len]
            exact o
          · rw [marks_len]
            exact hfit
          · rw [marks_len]
            exact hbl
        · by_cases h1 : q = j
          · subst h1
            simp
          · by_cases h2 : q < j
            · have h3 : q < j + 1 := by omega
              simp [h1, h2, h3]
            · have h3 : ¬ q < j + 1 := by omega
              simp [h1, h2, h3]
      have HOI : Hid (Own wr 0 (.slice a' (xss.getD j []).length c') (xss.getD j [])) := hel.own (fun b _ => Nat.zero_le _)
      clear hel ex hbl hfit H1 hos hoj hsum hm hvl
      generalize hnn : (offL xss (j + 1)) = nxt at *
      generalize (offL xss j : Nat) = off at *
      generalize xss.getD j [] = xs at *
      have cm := fun W (h : Own W 0 (.slice a' xs.length c') xs) => markInts_any xs _ (k + off) 0 W h (by omega) (by omega) (by omega)
      go_wp2_with fail
      refine (cm _ HOI.out).mono ?_
      rintro e w2 ⟨rfl, g2, o2⟩
      obtain ⟨n1, n2⟩ := HX.out w2 g2 o2
      have N1 : Hid (ChB w w2 B) := n1
      have N2 : Hid (TSc 22 1 xss.length xss.length (fun q => if q < j + 1 then TI (marks (k + offL xss q) (xss.getD q []).length) else TI (xss.getD q [])) w2 p cap vs Bs) := n2
      clear n1 n2 g2 o2 cm HX HOI
      go_wp2_with fail
      refine ⟨⟨j + 1, by omega, by go_num, ?_, N2, N1⟩, by simp [intOf]; omega⟩
      rw [hnn, HN4.out]
    · have d1 : decide ((j : Int) < (xss.length : Int)) = false := by simp; omega
      obtain rfl : j = xss.length := by omega
      have HE : Hid (TSS (mkSS k xss) wr B [.slice (some ⟨p, 0, none⟩) xss.length cap]) := HF.out wr H1.out
      clear H1 HF
      go_wp2_with fail
      go_ret
      exact ⟨rfl, HC.out, HE.out⟩
set_option maxRecDepth 100000 in
set_option maxHeartbeats 4000000 in
theorem markIntSSS_B (xsss : List (List (List Int))) (v : Value) (k : Int) (B : Nat → Prop) (w : World) (hv : TTT xsss w B [v]) (hl : xsss.length ≤ 1048576) (hr : ∀ r ∈ xsss, r.length ≤ 1048576 ∧ ∀ q ∈ r, q.length ≤ 1048576) (hk : 0 ≤ k) (hs : k + (offT xsss xsss.length : Int) ≤ 1073741824) :
    Calls Tryz.prog 69 #[v, .int .i64 k] w fun e w' => e = .returned (.int .i64 (k + offT xsss xsss.length)) ∧ ChB w w' B ∧ TTT (mkT k xsss) w' B [v] := by
  rcases Nat.eq_zero_or_pos xsss.length with h0 | h0
  · obtain rfl := List.length_eq_zero_iff.1 h0
    have HF : Hid (TTT (mkT k []) w B [v]) := hv
    obtain ⟨a, c, rfl⟩ := (TTT.rowT hv).slice
    clear hv h0
    go_enter Tryz.func69, Tryz.ntmps69
    go_wp2_with fail
    go_loopw [5, 1] (fun i l W => i = .int .i64 0 ∧ l = .int .i64 k ∧ W = w) (fun _ _ _ => 0)
    case atStart => exact ⟨rfl, rfl, rfl⟩
    case round =>
      obtain ⟨rfl, rfl, hW⟩ := hrel
      obtain rfl : w = wr := hW.symm
      go_wp2_with fail
      go_ret
      exact ⟨by simp [offT], ChB.refl w B, HF.out⟩
  rcases hv with ⟨h1, _, _⟩ | ⟨p, cap, vs, Bs, e, hc, hb⟩
  · omega
  simp at e
  subst e
  have HR : Hid (∀ r ∈ xsss, r.length ≤ 1048576 ∧ ∀ q ∈ r, q.length ≤ 1048576) := hr
  have HS : Hid (k + (offT xsss xsss.length : Int) ≤ 1073741824) := hs
  have HBB : Hid (∀ j b, j < xsss.length → Bs j b → B b) := fun j b hj h => (hb b).2 (.inr ⟨j, hj, h⟩)
  have HI : Hid (TSc 93 1 xsss.length xsss.length (fun q => if q < 0 then TSS (mkSS (k + offT xsss q) (xsss.getD q [])) else TSS (xsss.getD q [])) w p cap vs Bs) := hc.ext (fun j _ => by simp)
  have HF : Hid (∀ w', TSc 93 1 xsss.length xsss.length (fun q => if q < xsss.length then TSS (mkSS (k + offT xsss q) (xsss.getD q [])) else TSS (xsss.getD q [])) w' p cap vs Bs → TTT (mkT k xsss) w' B [.slice (some ⟨p, 0, none⟩) xsss.length cap]) := fun w' h => by
    refine .inr ⟨p, cap, vs, Bs, by rw [mkT_len], ?_, fun b => by rw [mkT_len]; exact hb b⟩
    rw [mkT_len]
    exact h.ext (fun j hj => by simp only [hj, if_true]; rw [mkT_get xsss k j hj])
  have HGD : Hid (∀ n j, GoodT (if j < n then TSS (mkSS (k + offT xsss j) (xsss.getD j [])) else TSS (xsss.getD j []))) := fun n j => by
    split
    · exact good_TSS _
    · exact good_TSS _
  have HC0 : Hid (ChB w w B) := ChB.refl w B
  clear hc hb hr hs
  go_enter Tryz.func69, Tryz.ntmps69
  go_wp2_with fail
  go_loopw [5, 1] (fun i l W => ∃ j : Nat, j ≤ xsss.length ∧ i = .int .i64 j ∧ l = .int .i64 (k + offT xsss j) ∧ Hid (TSc 93 1 xsss.length xsss.length (fun q => if q < j then TSS (mkSS (k + offT xsss q) (xsss.getD q [])) else TSS (xsss.getD q [])) W p cap vs Bs) ∧ Hid (ChB w W B)) (fun i _ _ => xsss.length - (intOf i).toNat)
  case atStart => exact ⟨0, by omega, rfl, by rw [offT_zero]; simp, HI, HC0⟩
  case round =>
    obtain ⟨j, hj, rfl, rfl, H1, HC⟩ := hrel
    clear HI HC0
    by_cases hlt : j < xsss.length
    · have d1 : decide ((j : Int) < (xsss.length : Int)) = true := by simp; omega
      have hvl : vs.length = xsss.length := by have := H1.out.row.1; omega
      have hel := H1.out.el j hlt
      simp only [Nat.lt_irrefl, if_false] at hel
      rw [one_get (by omega)] at hel
      obtain ⟨a', c', ex⟩ := TSS.slice hel
      rw [ex] at hel
      have q1 : wr.cell? ⟨p, j, none⟩ = some (.slice a' (xsss.getD j []).length c') := by
        rw [World.ownsRow.cellAt H1.out.row j (by omega), ← ex]
        exact List.getElem?_eq_getElem _
      have hm : xsss.getD j [] ∈ xsss := by simp [List.getD, hlt]
      have hrl := HR.out _ hm
      have hoj := offT_le xsss (j + 1)
      have hos := offT_succ xsss j hlt
      have hsum := HS.out
      have hkb : 0 ≤ k + (offT xsss j : Int) ∧ k + (offT xsss j : Int) + (offL (xsss.getD j []) (xsss.getD j []).length : Int) ≤ 1073741824 := by omega
      have HN4 : Hid (k + (offT xsss (j + 1) : Int) = k + (offT xsss j : Int) + (offL (xsss.getD j []) (xsss.getD j []).length : Int)) := by show _ = _; rw [hos]; omega
      have HX : Hid (∀ w2, ChB wr w2 (Bs j) → TSS (mkSS (k + offT xsss j) (xsss.getD j [])) w2 (Bs j) [.slice a' (xsss.getD j []).length c'] → ChB w w2 B ∧ TSc 93 1 xsss.length xsss.length (fun q => if q < j + 1 then TSS (mkSS (k + offT xsss q) (xsss.getD q [])) else TSS (xsss.getD q [])) w2 p cap vs Bs) := fun w2 gr o => by
        refine ⟨HC.out.trans (gr.sub (fun b hb => HBB.out j b hlt hb)), (H1.out.sub (HGD.out j) j hlt (E' := TSS (mkSS (k + offT xsss j) (xsss.getD j []))) (fun b h1 h2 => gr.block b h1 h2) ?_).ext (fun q hq => ?_)⟩
        · rw [one_get (by omega), ex]
          exact o
        · by_cases h1 : q = j
          · subst h1
            simp
          · by_cases h2 : q < j
            · have h3 : q < j + 1 := by omega
              simp [h1, h2, h3]
            · have h3 : ¬ q < j + 1 := by omega
              simp [h1, h2, h3]
      have HOI : Hid (TSS (xsss.getD j []) wr (Bs j) [.slice a' (xsss.getD j []).length c']) := hel
      clear hel ex H1 hos hoj hsum hm hvl
      generalize hnn : (offT xsss (j + 1)) = nxt at *
      generalize (offT xsss j : Nat) = off at *
      generalize xsss.getD j [] = xss at *
      have cm := fun W (h : TSS xss W (Bs j) [.slice a' xss.length c']) => markIntSS_B xss _ (k + off) (Bs j) W h hrl.1 hrl.2 (by omega) (by omega)
      generalize offL xss xss.length = ol at *
      go_wp2_with fail
      refine (cm _ HOI.out).mono ?_
      rintro e w2 ⟨rfl, g2, o2⟩
      obtain ⟨n1, n2⟩ := HX.out w2 g2 o2
      have N1 : Hid (ChB w w2 B) := n1
      have N2 : Hid (TSc 93 1 xsss.length xsss.length (fun q => if q < j + 1 then TSS (mkSS (k + offT xsss q) (xsss.getD q [])) else TSS (xsss.getD q [])) w2 p cap vs Bs) := n2
      clear n1 n2 g2 o2 cm HX HOI
      go_wp2_with fail
      refine ⟨⟨j + 1, by omega, by go_num, ?_, N2, N1⟩, by simp [intOf]; omega⟩
      rw [hnn, HN4.out]
    · have d1 : decide ((j : Int) < (xsss.length : Int)) = false := by simp; omega
      obtain rfl : j = xsss.length := by omega
      have HE : Hid (TTT (mkT k xsss) wr B [.slice (some ⟨p, 0, none⟩) xsss.length cap]) := HF.out wr H1.out
      clear H1 HF
      go_wp2_with fail
      go_ret
      exact ⟨rfl, HC.out, HE.out⟩
set_option maxRecDepth 100000 in
set_option maxHeartbeats 2000000 in
theorem heldIntSSS_any (xsss : List (List (List Int))) (v : Value) (k : Int) (B : Nat → Prop) (w : World) (hv : TTT (mkT k xsss) w B [v]) (hl : xsss.length ≤ 1048576) (hr : ∀ r ∈ xsss, r.length ≤ 1048576 ∧ ∀ q ∈ r, q.length ≤ 1048576) (hk : 0 ≤ k) (hs : k + (offT xsss xsss.length : Int) ≤ 1073741824) :
    Calls Tryz.prog 70 #[v, .int .i64 k] w fun e w' => e = .returned (.int .i64 (k + offT xsss xsss.length)) ∧ Old w w' := by
  obtain ⟨a0, cap0, ev⟩ := (TTT.rowT hv).slice
  rw [mkT_len] at ev
  subst ev
  have HR : Hid (∀ r ∈ xsss, r.length ≤ 1048576 ∧ ∀ q ∈ r, q.length ≤ 1048576) := hr
  have HS : Hid (k + (offT xsss xsss.length : Int) ≤ 1073741824) := hs
  have HY : Hid (0 < xsss.length → ∃ p, a0 = some ⟨p, 0, none⟩ ∧ p < w.heap.size ∧ ∀ j, j < xsss.length → ∃ a c, w.cell? ⟨p, j, none⟩ = some (.slice a (xsss.getD j []).length c) ∧ OwM (k + offT xsss j) (xsss.getD j []) w 0 w.heap.size (.slice a (xsss.getD j []).length c)) := fun h0 => by
    rcases hv with ⟨h1, _, _⟩ | ⟨p, cap, vs, Bs, e, hc, hb⟩
    · rw [mkT_len] at h1
      omega
    · simp only [List.cons.injEq, Value.slice.injEq, and_true] at e
      obtain ⟨rfl, _, rfl⟩ := e
      rw [mkT_len] at hc
      have hvl : vs.length = xsss.length := by have := hc.row.1; omega
      refine ⟨p, rfl, ownsRow_lt hc.row, fun j hj => ?_⟩
      have hel := hc.el j hj
      rw [one_get (by omega)] at hel
      have hel2 : TSS (mkSS (k + offT xsss j) (xsss.getD j [])) w (Bs j) [vs[j]'(by omega)] := by
        rw [← mkT_get xsss k j hj]
        exact hel
      obtain ⟨a, c, ex⟩ := TSS.slice hel2
      rw [mkSS_len] at ex
      refine ⟨a, c, ?_, mkSS (k + offT xsss j) (xsss.getD j []), mkSS_len _ _, fun q hq => mkSS_get _ _ q hq, ?_⟩
      · rw [World.ownsRow.cellAt hc.row j (by omega), ← ex]
        exact List.getElem?_eq_getElem _
      · rw [← ex]
        exact TSS.whole hel2
  clear hv hr hs
  go_enter Tryz.func70, Tryz.ntmps70
  go_wp2_with fail
  go_loopw [5, 1] (fun i l W => ∃ j : Nat, j ≤ xsss.length ∧ i = .int .i64 j ∧ l = .int .i64 (k + offT xsss j) ∧ Hid (Old w W)) (fun i _ _ => xsss.length - (intOf i).toNat)
  case atStart => exact ⟨0, by omega, rfl, by rw [offT_zero]; simp, Old.refl _⟩
  case round =>
    obtain ⟨j, hj, rfl, rfl, HG⟩ := hrel
    by_cases hlt : j < xsss.length
    · have d1 : decide ((j : Int) < (xsss.length : Int)) = true := by simp; omega
      obtain ⟨p, rfl, hp, hall⟩ := HY.out (by omega)
      obtain ⟨a, c, c0, om⟩ := hall j hlt
      have q1 := (HG.out.cell (p := ⟨p, j, none⟩) hp).trans c0
      have hm : xsss.getD j [] ∈ xsss := by simp [List.getD, hlt]
      have hrl := HR.out _ hm
      have hoj := offT_le xsss (j + 1)
      have hos := offT_succ xsss j hlt
      have hsum := HS.out
      have HN4 : Hid (k + (offT xsss (j + 1) : Int) = k + (offT xsss j : Int) + (offL (xsss.getD j []) (xsss.getD j []).length : Int)) := by show _ = _; rw [hos]; omega
      have hkb : 0 ≤ k + (offT xsss j : Int) ∧ k + (offT xsss j : Int) + (offL (xsss.getD j []) (xsss.getD j []).length : Int) ≤ 1073741824 := by omega
      have HOM : Hid (OwM (k + offT xsss j) (xsss.getD j []) wr 0 w.heap.size (.slice a (xsss.getD j []).length c)) := (far_OwM _ _).old om HG.out (by obtain ⟨_, _, _, q⟩ := om; exact q.1)
      clear c0 om hm hoj hos hsum hall
      generalize hnn : (offT xsss (j + 1)) = nxt at *
      generalize (offT xsss j : Nat) = off at *
      generalize xsss.getD j [] = xss at *
      have cm := fun W h => heldIntSS_any xss (.slice a xss.length c) (k + off) 0 w.heap.size W h hrl.1 hrl.2 (by omega) (by omega)
      have d2 : decide (k + (off : Int) + ((offL xss xss.length : Nat) : Int) < 0) = false := by simp; omega
      generalize offL xss xss.length = ol at *
      go_wp2_with fail
      refine (cm _ HOM.out).mono ?_
      rintro e w2 ⟨rfl, g2⟩
      have N2 : Hid (Old w w2) := Old.trans HG.out g2
      clear g2 cm
      go_wp2_with fail
      refine ⟨⟨j + 1, by omega, by go_num, ?_, N2⟩, by simp [intOf]; omega⟩
      rw [hnn, HN4.out]
    · have d1 : decide ((j : Int) < (xsss.length : Int)) = false := by simp; omega
      obtain rfl : j = xsss.length := by omega
      go_wp2_with fail
      go_ret
      exact ⟨rfl, HG.out⟩
def XCm (k : Int) (xsss : List (List (List Int))) (W : World) (lo hi : Nat) (g : Array Value) : Prop := ∃ a c, g = #[.slice a xsss.length c] ∧ Ows (TTT (mkT k xsss)) W lo hi [.slice a xsss.length c]
theorem far_XCm (k : Int) (xsss : List (List (List Int))) : Far (XCm k xsss) := fun W W' lo hi v h hf hs => by
  obtain ⟨a, c, e, o⟩ := h
  exact ⟨a, c, e, far_Ows (good_TTT _) W W' lo hi _ o hf hs⟩
theorem shape_XCm {k : Int} {xsss : List (List (List Int))} (W : World) (lo hi : Nat) (g : Array Value) (h : XCm k xsss W lo hi g) : ∃ a c, g = #[.slice a xsss.length c] := by
  obtain ⟨a, c, e, o⟩ := h
  exact ⟨a, c, e⟩
set_option maxHeartbeats 1000000 in
theorem kc_mark (xsss : List (List (List Int))) (k : Int) (w : World) (lo hi : Nat) (g : Array Value) (h : XC xsss w lo hi g) (hl : xsss.length ≤ 1048576) (hr : ∀ r ∈ xsss, r.length ≤ 1048576 ∧ ∀ q ∈ r, q.length ≤ 1048576) (hk : 0 ≤ k) (hs : k + (offT xsss xsss.length : Int) ≤ 1073741824) :
    Calls Tryz.prog 25 #[.agg g, .int .i64 k] w fun e w' => e = .returned (.int .i64 (k + offT xsss xsss.length)) ∧ Chg w w' lo hi ∧ XCm k xsss w' lo hi g := by
  obtain ⟨a0, cap0, rfl, hh, B, hT, hB⟩ := h
  have HO : Hid (TTT xsss (w.alloc (.cells #[.slice a0 xsss.length cap0] 42)) B [.slice a0 xsss.length cap0]) := (good_TTT xsss).far hT (fun b hb => ((Old.refl w).alloc _).block b ((good_TTT xsss).lt hT b hb))
  have HA : Hid (Chg w (w.alloc (.cells #[.slice a0 xsss.length cap0] 42)) lo hi) := ((Old.refl w).alloc _).toChg lo hi
  have HR : Hid (∀ r ∈ xsss, r.length ≤ 1048576 ∧ ∀ q ∈ r, q.length ≤ 1048576) := hr
  have HS : Hid (k + (offT xsss xsss.length : Int) ≤ 1073741824) := hs
  have HB : Hid (∀ b, B b → lo ≤ b ∧ b < hi) := hB
  clear hT hr hs hB
  go_enter Tryz.func25, Tryz.ntmps25
  go_wp2_with fail
  refine (markIntSSS_B xsss _ k B _ HO.out hl HR.out hk HS.out).mono ?_
  rintro e w1 ⟨rfl, g1, o1⟩
  have HG : Hid (Chg w w1 lo hi) := Chg.trans HA.out (g1.chg HB.out)
  have HM : Hid (XCm k xsss w1 lo hi #[.slice a0 xsss.length cap0]) := ⟨a0, cap0, rfl, Nat.le_trans hh HG.out.size, B, o1, HB.out⟩
  clear g1 o1
  go_wp2_with fail
  go_ret
  exact ⟨rfl, HG.out, HM.out⟩
set_option maxHeartbeats 1000000 in
theorem kc_held (xsss : List (List (List Int))) (k : Int) (w : World) (lo hi : Nat) (g : Array Value) (h : XCm k xsss w lo hi g) (hl : xsss.length ≤ 1048576) (hr : ∀ r ∈ xsss, r.length ≤ 1048576 ∧ ∀ q ∈ r, q.length ≤ 1048576) (hk : 0 ≤ k) (hs : k + (offT xsss xsss.length : Int) ≤ 1073741824) :
    Calls Tryz.prog 26 #[.agg g, .int .i64 k] w fun e w' => e = .returned (.int .i64 (k + offT xsss xsss.length)) ∧ Old w w' := by
  obtain ⟨a0, cap0, rfl, hh, B, hT, hB⟩ := h
  have HO : Hid (TTT (mkT k xsss) (w.alloc (.cells #[.slice a0 xsss.length cap0] 42)) B [.slice a0 xsss.length cap0]) := (good_TTT _).far hT (fun b hb => ((Old.refl w).alloc _).block b ((good_TTT _).lt hT b hb))
  have HA : Hid (Old w (w.alloc (.cells #[.slice a0 xsss.length cap0] 42))) := (Old.refl w).alloc _
  have HR : Hid (∀ r ∈ xsss, r.length ≤ 1048576 ∧ ∀ q ∈ r, q.length ≤ 1048576) := hr
  have HS : Hid (k + (offT xsss xsss.length : Int) ≤ 1073741824) := hs
  have d2 : decide (k + ((offT xsss xsss.length : Nat) : Int) < 0) = false := by simp; omega
  clear hT hr hs hB
  go_enter Tryz.func26, Tryz.ntmps26
  go_wp2_with fail
  refine (heldIntSSS_any xsss _ k B _ HO.out hl HR.out hk HS.out).mono ?_
  rintro e w1 ⟨rfl, g1⟩
  have HG : Hid (Old w w1) := Old.trans HA.out g1
  clear g1
  go_wp2_with fail
  go_ret
  exact ⟨rfl, HG.out⟩
theorem offT_bd : ∀ (xsss : List (List (List Int))) (m n : Nat), (∀ r ∈ xsss, r.length ≤ m ∧ ∀ q ∈ r, q.length ≤ n) → offT xsss xsss.length ≤ xsss.length * (m * n)
  | [], m, n, h => by simp [offT]
  | r :: rs, m, n, h => by
    have h1 := offT_bd rs m n (fun r hr => h r (List.mem_cons_of_mem _ hr))
    have h2 := h r (List.mem_cons_self ..)
    have h3 := offL_bd r n h2.2
    have h4 : r.length * n ≤ m * n := Nat.mul_le_mul_right n h2.1
    show offL r r.length + offT rs rs.length ≤ (rs.length + 1) * (m * n)
    rw [Nat.add_mul]
    omega
end Go.Proofs.YtakleianimcmdaaGreatDoor
