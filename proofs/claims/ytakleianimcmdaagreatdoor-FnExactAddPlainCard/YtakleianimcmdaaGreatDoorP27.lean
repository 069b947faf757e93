/- Proved: several texts in one: what each proves is said ahead of it. -/
import Derived.Test.YtakleianimcmdaaGreatDoorP26
import Derived.Test.YtakleianimcmdaaGreatDoorP04
import Derived.Test.YtakleianimcmdaaGreatDoorP15
import Derived.KernelRfl
import Derived.Test.YtakleianimcmdaaGreatDoorP25
import Derived.Test.YtakleianimcmdaaGreatDoorP12
import Derived.Test.YtakleianimcmdaaGreatDoorP17
import Derived.Maps.AppendAt
import Derived.Test.YtakleianimcmdaaGreatDoorP39
/- Proved: the drawn region of the program's lifted: the quotient of the product by T, laid in a box. -/
namespace Go.Proofs.YtakleianimcmdaaGreatDoor
open Go.ChangeShapes Go.WideShapes Go.ChangeAt Go.RowKit
set_option linter.unusedVariables false
set_option linter.unusedSimpArgs false
def slotLf (i : Nat) : Nat := [9, 10, 11, 12, 13, 14, 15, 8, 16, 17, 18, 5, 6].getD i 0
theorem slotLf_lt : ∀ i, i < 13 → slotLf i < 25 := by decide
theorem slotLf_inj : ∀ i, i < 13 → ∀ j, j < 13 → slotLf i = slotLf j → i = j := by decide
theorem slotLf_no : ∀ s, s < 5 → ∀ i, i < 13 → slotLf i ≠ s := by decide
def qLf (rb : Nat) (T : Int) (a6 : Option Addr) (l6 c6 lt ld : Nat) (ts ds : List Int) (base : Nat) (i : Nat) (W : World) (x : Value) : Prop :=
  match i with
  | 0 => x = .pointer (some ⟨rb, 5, none⟩)
  | 1 => x = .agg #[.bool false, .slice a6 l6 c6]
  | 2 => x = .pointer (some ⟨rb, 0, none⟩)
  | 3 => x = .pointer (some ⟨rb, 1, none⟩)
  | 4 => x = .int .i64 T
  | 5 => ∃ a c, x = .agg #[.bool false, .slice a lt c] ∧ Own W base (.slice a lt c) ts
  | 6 => ∃ a1 c1 a2 l2 c2, x = .tuple #[.agg #[.bool false, .slice a1 ld c1], .agg #[.bool false, .slice a2 l2 c2], .bool true] ∧ Own W base (.slice a1 ld c1) ds
  | 7 => ∃ a1 c1 a2 l2 c2, x = .tuple #[.agg #[.bool false, .slice a1 ld c1], .agg #[.bool false, .slice a2 l2 c2], .bool true] ∧ Own W base (.slice a1 ld c1) ds
  | 8 => ∃ a1 c1, x = .agg #[.bool false, .slice a1 ld c1] ∧ Own W base (.slice a1 ld c1) ds
  | 9 => ∃ a2 l2 c2, x = .agg #[.bool false, .slice a2 l2 c2]
  | 10 => x = .bool true
  | 11 => ∃ g, x = .pointer (some ⟨g, 0, none⟩) ∧ base ≤ g ∧ ∃ cs, W.heap[g]? = some (.cells cs 43 (0, 0)) ∧ cs.size = 2
  | 12 => ∃ g, x = .pointer (some ⟨g, 0, none⟩) ∧ base ≤ g ∧ ∃ cs, W.heap[g]? = some (.cells cs 43 (0, 0)) ∧ cs.size = 2
  | _ => True
theorem qLf_old (rb : Nat) (T : Int) (a6 : Option Addr) (l6 c6 lt ld : Nat) (ts ds : List Int) (base : Nat) (i : Nat) (W W' : World) (x : Value) (h : qLf rb T a6 l6 c6 lt ld ts ds base i W x) (q : Old W W') : qLf rb T a6 l6 c6 lt ld ts ds base i W' x := by
  unfold qLf at h ⊢
  split at h
  case h_6 =>
    obtain ⟨a, c, e, o⟩ := h
    exact ⟨a, c, e, o.old q⟩
  case h_7 =>
    obtain ⟨a1, c1, a2, l2, c2, e, o⟩ := h
    exact ⟨a1, c1, a2, l2, c2, e, o.old q⟩
  case h_8 =>
    obtain ⟨a1, c1, a2, l2, c2, e, o⟩ := h
    exact ⟨a1, c1, a2, l2, c2, e, o.old q⟩
  case h_9 =>
    obtain ⟨a1, c1, e, o⟩ := h
    exact ⟨a1, c1, e, o.old q⟩
  case h_12 =>
    obtain ⟨g, e, hb, cs, hg, hc⟩ := h
    exact ⟨g, e, hb, cs, (q.block g (lt_of_some hg)).trans hg, hc⟩
  case h_13 =>
    obtain ⟨g, e, hb, cs, hg, hc⟩ := h
    exact ⟨g, e, hb, cs, (q.block g (lt_of_some hg)).trans hg, hc⟩
  all_goals first | exact h | trivial
theorem own_boxW {W : World} {lo g : Nat} {v : Value} {xs : List Int} {cs : Array Value} {fr : Nat × Nat} (h : Own W lo v xs) (hg : W.heap[g]? = some (.cells cs 43 fr)) (c : Array Value) : Own (W.setRow g c) lo v xs := by
  refine ⟨h.1, ?_⟩
  rcases h.2 with hn | ⟨p, cap, cur, rfl, hb, hgg, rest⟩
  · exact .inl hn
  · refine .inr ⟨p, cap, cur, rfl, hb, ?_, rest⟩
    rw [heap_setRow_other _ _ _ _ (fun e => by rw [e, hg] at hgg; simp at hgg)]
    exact hgg
def boxR (base : Nat) (W W' : World) : Prop := ∃ g cs0 cs, base ≤ g ∧ W.heap[g]? = some (.cells cs0 43 (0, 0)) ∧ cs.size = 2 ∧ W' = W.setRow g cs
theorem qLf_box (rb : Nat) (T : Int) (a6 : Option Addr) (l6 c6 lt ld : Nat) (ts ds : List Int) (base : Nat) (i : Nat) (W W' : World) (x : Value) (h : qLf rb T a6 l6 c6 lt ld ts ds base i W x) (q : boxR base W W') : qLf rb T a6 l6 c6 lt ld ts ds base i W' x := by
  obtain ⟨b, cs0, cs, qb, qg, qs, rfl⟩ := q
  unfold qLf at h ⊢
  split at h
  case h_6 =>
    obtain ⟨a, c, e, o⟩ := h
    exact ⟨a, c, e, own_boxW o qg _⟩
  case h_7 =>
    obtain ⟨a1, c1, a2, l2, c2, e, o⟩ := h
    exact ⟨a1, c1, a2, l2, c2, e, own_boxW o qg _⟩
  case h_8 =>
    obtain ⟨a1, c1, a2, l2, c2, e, o⟩ := h
    exact ⟨a1, c1, a2, l2, c2, e, own_boxW o qg _⟩
  case h_9 =>
    obtain ⟨a1, c1, e, o⟩ := h
    exact ⟨a1, c1, e, own_boxW o qg _⟩
  case h_12 =>
    obtain ⟨g, e, hb, c, hg, hc⟩ := h
    by_cases hgb : g = b
    · subst hgb
      exact ⟨g, e, hb, cs, heap_setRow_same qg, qs⟩
    · exact ⟨g, e, hb, c, (heap_setRow_other _ _ _ _ hgb).trans hg, hc⟩
  case h_13 =>
    obtain ⟨g, e, hb, c, hg, hc⟩ := h
    by_cases hgb : g = b
    · subst hgb
      exact ⟨g, e, hb, cs, heap_setRow_same qg, qs⟩
    · exact ⟨g, e, hb, c, (heap_setRow_other _ _ _ _ hgb).trans hg, hc⟩
  all_goals first | exact h | trivial
def tLf (ld : Nat) (k : Nat) (W : World) (vs : Nat → Value) : Prop := match k with
  | 0 => True
  | _ + 1 => ∃ g a1 c1, vs 11 = .pointer (some ⟨g, 0, none⟩) ∧ vs 8 = .agg #[.bool false, .slice a1 ld c1] ∧ W.heap[g]? = some (.cells #[.bool false, .slice a1 ld c1] 43 (0, 0))
def eLf (k : Nat) : List Nat := if k = 0 then [8, 11] else [8, 9, 11, 12]
theorem eLf_8 (k : Nat) : 8 ∈ eLf k ∧ 11 ∈ eLf k := by
  unfold eLf
  split <;> simp
theorem tLf_old (ld : Nat) (k : Nat) (W W' : World) (vs vs' : Nat → Value) (h : tLf ld (k + 1) W vs) (q : Old W W') (he : ∀ i ∈ eLf k, vs' i = vs i) : tLf ld (k + 1) W' vs' := by
  obtain ⟨g, a1, c1, h1, h2, h3⟩ := h
  exact ⟨g, a1, c1, (he 11 (eLf_8 k).2).trans h1, (he 8 (eLf_8 k).1).trans h2, (q.block g (lt_of_some h3)).trans h3⟩
set_option maxRecDepth 100000 in
set_option maxHeartbeats 8000000 in
theorem reg_lf (w0 : World) (rb : Nat) (T : Int) (a6 : Option Addr) (l6 c6 lt ld : Nat) (ts ds : List Int)
    (cT : w0.cell? ⟨rb, 1, none⟩ = some (.int .i64 T)) (c5 : w0.cell? ⟨rb, 5, none⟩ = some (.bool false)) (c6' : w0.cell? ⟨rb, 6, none⟩ = some (.slice a6 l6 c6))
    (KW : ∀ W, Old w0 W → Calls Tryz.prog 139 #[.int .i64 T] W fun e w' => ∃ v', e = .returned v' ∧ Old W w' ∧ ∃ a c, v' = .agg #[.bool false, .slice a lt c] ∧ Own w' W.heap.size (.slice a lt c) ts)
    (KD : ∀ W a c, Old w0 W → Row W (.slice a lt c) ts → Calls Tryz.prog 138 #[.agg #[.bool false, .slice a6 l6 c6], .agg #[.bool false, .slice a lt c]] W fun e w' => ∃ v', e = .returned v' ∧ Old W w' ∧ ∃ a1 c1 a2 l2 c2, v' = .tuple #[.agg #[.bool false, .slice a1 ld c1], .agg #[.bool false, .slice a2 l2 c2], .bool true] ∧ Own w' W.heap.size (.slice a1 ld c1) ds)
    (Q : Exit → Act → World → Prop) (a0 : Act) (hsz : a0.tmps.size = 25) (ha2 : a0.eval (.tmp 2) = .pointer (some ⟨rb, 0, none⟩))
    (HK : Hid (∀ (us : Nat → Value) W g a1 c1, Old w0 W → w0.heap.size ≤ g → us 11 = .pointer (some ⟨g, 0, none⟩) → W.heap[g]? = some (.cells #[.bool false, .slice a1 ld c1] 43 (0, 0)) → Own W w0.heap.size (.slice a1 ld c1) ds → Q .normal ((putAll a0 ((List.range 13).map fun i => (slotLf i, us i))).put (some 7) (.bool true)) W)) :
    Code.wp Tryz.prog ((Tryz.f80.body.bind (regionAtmul 1)).getD .skip) Q a0 w0 := by
  conv => arg 2; whnf
  have un := slotLf_no
  have pT : ∀ W, Old w0 W → W.cell? ⟨rb, 1, none⟩ = some (.int .i64 T) := fun W q => (q.cell (p := ⟨rb, 1, none⟩) (block_lt_of_cell cT)).trans cT
  have p5 : ∀ W, Old w0 W → W.cell? ⟨rb, 5, none⟩ = some (.bool false) := fun W q => (q.cell (p := ⟨rb, 5, none⟩) (block_lt_of_cell c5)).trans c5
  have p6 : ∀ W, Old w0 W → W.cell? ⟨rb, 6, none⟩ = some (.slice a6 l6 c6) := fun W q => (q.cell (p := ⟨rb, 6, none⟩) (block_lt_of_cell c6')).trans c6'
  refine wp_region_boxes 13 2 rfl rfl (by kernel_rfl) (by kernel_rfl) (by kernel_rfl) (by kernel_rfl) (by kernel_rfl) eLf (by kernel_rfl) slotLf (fun i hi => by rw [hsz]; exact slotLf_lt i hi) (fun i j hi hj => slotLf_inj i hi j hj) (qLf rb T a6 l6 c6 lt ld ts ds w0.heap.size) (boxR w0.heap.size) (qLf_old rb T a6 l6 c6 lt ld ts ds w0.heap.size) (qLf_box rb T a6 l6 c6 lt ld ts ds w0.heap.size) [11, 12] (fun i W v hi h => ?_) (tLf ld) (fun _ _ => trivial) (tLf_old ld) ?_ ?_ ?_
  · have : i = 11 ∨ i = 12 := by simpa using hi
    rcases this with rfl | rfl
    · obtain ⟨g, e, _, cs, hg, _⟩ := h
      exact ⟨g, e, lt_of_some hg⟩
    · obtain ⟨g, e, _, cs, hg, _⟩ := h
      exact ⟨g, e, lt_of_some hg⟩
  · refine ⟨?_, ?_, ?_, ?_, ?_, ?_, ?_, ?_, ?_, ?_, ?_, ?_, ?_, trivial⟩
    · intro a W g hF hd
      have g2 := (hF.same 2 (un 2 (by decide))).trans ha2
      obtain ⟨ρ, hρ⟩ : ∃ ρ, a.eval = ρ := ⟨_, rfl⟩
      rw [hρ] at g2
      refine op_val ρ hρ (.pointer (some ⟨rb, 5, none⟩)) ?_ ⟨_, rfl, Old.refl _, rfl, (fun e => by cases e)⟩
      clear g hF hd hρ ha2 HK un KW KD cT c5 c6' pT p5 p6
      go_simp
    · intro a W g hF hd
      have h0 : a.eval (.tmp 9) = .pointer (some ⟨rb, 5, none⟩) := hd ⟨0, .data⟩ (by simp) rfl
      have k5 := p5 W g
      have k6 := p6 W g
      obtain ⟨ρ, hρ⟩ : ∃ ρ, a.eval = ρ := ⟨_, rfl⟩
      rw [hρ] at h0
      refine op_val ρ hρ (.agg #[.bool false, .slice a6 l6 c6]) ?_ ⟨_, rfl, Old.refl _, rfl, (fun e => by cases e)⟩
      clear g hF hd hρ ha2 HK un KW KD cT c5 c6' pT p5 p6
      go_simp
    · intro a W g hF hd
      have g2 := (hF.same 2 (un 2 (by decide))).trans ha2
      obtain ⟨ρ, hρ⟩ : ∃ ρ, a.eval = ρ := ⟨_, rfl⟩
      rw [hρ] at g2
      refine op_val ρ hρ (.pointer (some ⟨rb, 0, none⟩)) ?_ ⟨_, rfl, Old.refl _, rfl, (fun e => by cases e)⟩
      clear g hF hd hρ ha2 HK un KW KD cT c5 c6' pT p5 p6
      go_simp
    · intro a W g hF hd
      have h2 : a.eval (.tmp 11) = .pointer (some ⟨rb, 0, none⟩) := hd ⟨2, .data⟩ (by simp) rfl
      obtain ⟨ρ, hρ⟩ : ∃ ρ, a.eval = ρ := ⟨_, rfl⟩
      rw [hρ] at h2
      refine op_val ρ hρ (.pointer (some ⟨rb, 1, none⟩)) ?_ ⟨_, rfl, Old.refl _, rfl, (fun e => by cases e)⟩
      clear g hF hd hρ ha2 HK un KW KD cT c5 c6' pT p5 p6
      go_simp
    · intro a W g hF hd
      have h3 : a.eval (.tmp 12) = .pointer (some ⟨rb, 1, none⟩) := hd ⟨3, .data⟩ (by simp) rfl
      have kT := pT W g
      obtain ⟨ρ, hρ⟩ : ∃ ρ, a.eval = ρ := ⟨_, rfl⟩
      rw [hρ] at h3
      refine op_val ρ hρ (.int .i64 T) ?_ ⟨_, rfl, Old.refl _, rfl, (fun e => by cases e)⟩
      clear g hF hd hρ ha2 HK un KW KD cT c5 c6' pT p5 p6
      go_simp
    · intro a W g hF hd
      have h4 : a.eval (.tmp 13) = .int .i64 T := hd ⟨4, .data⟩ (by simp) rfl
      refine op_call_ret Tryz.call139 (vs := #[.int .i64 T]) (by simp [h4]) (KW W g) ?_
      rintro x w' ⟨g', a5, c5', rfl, o'⟩
      exact ⟨_, rfl, g', ⟨a5, c5', rfl, o'.low g.size⟩, (fun e => by cases e)⟩
    · intro a W g hF hd
      have h1 : a.eval (.tmp 10) = .agg #[.bool false, .slice a6 l6 c6] := hd ⟨1, .data⟩ (by simp) rfl
      obtain ⟨a5, c5', h5, o5⟩ : ∃ a' c, a.eval (.tmp 14) = .agg #[.bool false, .slice a' lt c] ∧ Own W w0.heap.size (.slice a' lt c) ts := hd ⟨5, .data⟩ (by simp) rfl
      refine op_call_ret Tryz.call138 (vs := #[.agg #[.bool false, .slice a6 l6 c6], .agg #[.bool false, .slice a5 lt c5']]) (by simp [h1, h5]) (KD W a5 c5' g (Own.row o5)) ?_
      rintro x w' ⟨g', a1, c1, a2, l2, c2, rfl, o'⟩
      exact ⟨_, rfl, g', ⟨a1, c1, a2, l2, c2, rfl, o'.low g.size⟩, (fun e => by cases e)⟩
    · intro a W g hF hd
      have h6 : ∃ a1 c1 a2 l2 c2, a.eval (.tmp 15) = .tuple #[.agg #[.bool false, .slice a1 ld c1], .agg #[.bool false, .slice a2 l2 c2], .bool true] ∧ Own W w0.heap.size (.slice a1 ld c1) ds := hd ⟨6, .data⟩ (by simp) rfl
      refine op_move ?_
      exact ⟨_, rfl, Old.refl _, h6, (fun e => by cases e)⟩
    · intro a W g hF hd
      obtain ⟨a1, c1, a2, l2, c2, h7, o7⟩ : ∃ a1 c1 a2 l2 c2, a.eval (.tmp 8) = .tuple #[.agg #[.bool false, .slice a1 ld c1], .agg #[.bool false, .slice a2 l2 c2], .bool true] ∧ Own W w0.heap.size (.slice a1 ld c1) ds := hd ⟨7, .data⟩ (by simp) rfl
      exact op_extract h7 rfl ⟨_, rfl, Old.refl _, ⟨a1, c1, rfl, o7⟩, (fun e => by cases e)⟩
    · intro a W g hF hd
      obtain ⟨a1, c1, a2, l2, c2, h7, o7⟩ : ∃ a1 c1 a2 l2 c2, a.eval (.tmp 8) = .tuple #[.agg #[.bool false, .slice a1 ld c1], .agg #[.bool false, .slice a2 l2 c2], .bool true] ∧ Own W w0.heap.size (.slice a1 ld c1) ds := hd ⟨7, .data⟩ (by simp) rfl
      exact op_extract h7 rfl ⟨_, rfl, Old.refl _, ⟨a2, l2, c2, rfl⟩, (fun e => by cases e)⟩
    · intro a W g hF hd
      obtain ⟨a1, c1, a2, l2, c2, h7, o7⟩ : ∃ a1 c1 a2 l2 c2, a.eval (.tmp 8) = .tuple #[.agg #[.bool false, .slice a1 ld c1], .agg #[.bool false, .slice a2 l2 c2], .bool true] ∧ Own W w0.heap.size (.slice a1 ld c1) ds := hd ⟨7, .data⟩ (by simp) rfl
      exact op_extract h7 rfl ⟨_, rfl, Old.refl _, rfl, (fun e => by cases e)⟩
    · intro a W g hF hd
      refine op_alloc (z := .agg #[.bool false, .slice none 0 0]) (by kernel_rfl) ?_
      exact ⟨_, rfl, (Old.refl W).alloc _, ⟨W.heap.size, rfl, g.size, _, heap_alloc_new W _, rfl⟩, fun _ => rfl⟩
    · intro a W g hF hd
      refine op_alloc (z := .agg #[.bool false, .slice none 0 0]) (by kernel_rfl) ?_
      exact ⟨_, rfl, (Old.refl W).alloc _, ⟨W.heap.size, rfl, g.size, _, heap_alloc_new W _, rfl⟩, fun _ => rfl⟩
  · refine ⟨?_, ?_, trivial⟩
    · intro a W g hF _ hq hne
      obtain ⟨a1, c1, h8, o8⟩ : ∃ a1 c1, a.eval (.tmp 16) = .agg #[.bool false, .slice a1 ld c1] ∧ Own W w0.heap.size (.slice a1 ld c1) ds := hq 8 (by decide)
      obtain ⟨g1, h11, b1, cs, z1, zs⟩ : ∃ gg, a.eval (.tmp 5) = .pointer (some ⟨gg, 0, none⟩) ∧ w0.heap.size ≤ gg ∧ ∃ cs, W.heap[gg]? = some (.cells cs 43 (0, 0)) ∧ cs.size = 2 := hq 11 (by decide)
      refine op_store (k := g1) h11 h8 z1 (by kernel_rfl) zs (by simp [Value.oneCell']) ?_
      exact ⟨rfl, old_setRow g b1 _, ⟨g1, cs, _, b1, z1, rfl, rfl⟩, ⟨g1, a1, c1, h11, h8, heap_setRow_same z1⟩⟩
    · intro a W g hF ht hq hne
      obtain ⟨g1, a1, c1, h11, h8, z1⟩ := ht
      have h11' : a.eval (.tmp 5) = .pointer (some ⟨g1, 0, none⟩) := h11
      obtain ⟨a2, l2, c2, h9⟩ : ∃ a2 l2 c2, a.eval (.tmp 17) = .agg #[.bool false, .slice a2 l2 c2] := hq 9 (by decide)
      obtain ⟨g2, h12, b2, cs, z2, zs⟩ : ∃ gg, a.eval (.tmp 6) = .pointer (some ⟨gg, 0, none⟩) ∧ w0.heap.size ≤ gg ∧ ∃ cs, W.heap[gg]? = some (.cells cs 43 (0, 0)) ∧ cs.size = 2 := hq 12 (by decide)
      have hg12 : g1 ≠ g2 := fun e => hne 11 (by decide) 12 (by decide) (by decide) (by decide) (by decide) (by show a.eval (.tmp 5) = a.eval (.tmp 6); rw [h11', h12, e])
      refine op_store (k := g2) h12 h9 z2 (by kernel_rfl) zs (by simp [Value.oneCell']) ?_
      exact ⟨rfl, old_setRow g b2 _, ⟨g2, cs, _, b2, z2, rfl, rfl⟩, ⟨g1, a1, c1, h11, h8, (heap_setRow_other _ _ _ _ hg12).trans z1⟩⟩
  · intro a W g hF hq ht
    obtain ⟨g1, a1, c1, h11, h8, z1⟩ := ht
    obtain ⟨a1', c1', h8', o8⟩ : ∃ a1 c1, a.eval (.tmp 16) = .agg #[.bool false, .slice a1 ld c1] ∧ Own W w0.heap.size (.slice a1 ld c1) ds := hq 8 (by decide)
    obtain ⟨g1', h11', b1, _⟩ : ∃ gg, a.eval (.tmp 5) = .pointer (some ⟨gg, 0, none⟩) ∧ w0.heap.size ≤ gg ∧ ∃ cs, W.heap[gg]? = some (.cells cs 43 (0, 0)) ∧ cs.size = 2 := hq 11 (by decide)
    have h8a : a.eval (.tmp 16) = .agg #[.bool false, .slice a1 ld c1] := h8
    have h11a : a.eval (.tmp 5) = .pointer (some ⟨g1, 0, none⟩) := h11
    have e8 := h8'.symm.trans h8a
    have e11 := h11'.symm.trans h11a
    obtain ⟨rfl, rfl⟩ : a1' = a1 ∧ c1' = c1 := by simpa using e8
    obtain rfl : g1' = g1 := by simpa using e11
    have h10 : a.eval (.tmp 18) = .bool true := hq 10 (by decide)
    have hp := fram_put hF (fun i j hi hj => slotLf_inj i hi j hj)
    have hk := HK.out (fun i => a.eval (.tmp (slotLf i))) W g1' a1' c1' g b1 h11a z1 o8
    rw [← hp] at hk
    refine op_assign ?_
    show Q .normal (Act.put a (some 7) (a.eval (.tmp 18))) _
    rw [h10]
    exact hk
end Go.Proofs.YtakleianimcmdaaGreatDoor
/- Proved: the drawn region of the model's l5Ahead and that of its l5Back: a row is transformed and appended. -/
namespace Go.Proofs.YtakleianimcmdaaGreatDoor
open Go.ChangeShapes Go.WideShapes Go.ChangeAt Go.RowKit
set_option linter.unusedVariables false
set_option linter.unusedSimpArgs false
theorem own_fit {W : World} {base : Nat} {v : Value} {zs : List Int} (h : Own W base v zs) : ∃ ra rc, v = .slice ra zs.length rc ∧ zs.length ≤ rc := by
  rcases h.2 with ⟨e, hn⟩ | ⟨_, _, _, e, _, _, hn, _⟩
  · exact ⟨none, 0, by rw [e, hn], by omega⟩
  · exact ⟨_, _, e, hn⟩
end Go.Proofs.YtakleianimcmdaaGreatDoor
/- Proved: rows in memory of their own, as the model copies them. -/
namespace Go.Proofs.YtakleianimcmdaaGreatDoor
open Go.ChangeShapes Go.WideShapes Go.ChangeAt Go.RowKit
open M1
set_option linter.unusedVariables false
set_option linter.unusedSimpArgs false
theorem heap_newO9 (w : World) (o : Obj) : (w.alloc o).heap[w.heap.size]? = some o := by
  unfold World.alloc
  simp
theorem own_none0O9 (w : World) (base : Nat) (h : base ≤ w.heap.size) : Own (w.alloc (.cells #[] 3)) base (.slice (some ⟨w.heap.size, 0, none⟩) 0 0) [] := by
  refine ⟨rfl, .inr ⟨w.heap.size, 0, #[], rfl, h, ?_, Nat.le_refl _, ?_, ?_, ?_⟩⟩
  · exact heap_newO9 w _
  all_goals simp
theorem own_app0O9 {w : World} {base : Nat} {v : Value} {zs : List Int} (h : w.ownsRow base 3 1 v (0 + zs.length) ([] ++ zs.map (Value.int .i64))) : Own w base v zs := by
  rw [Nat.zero_add, List.nil_append] at h
  exact h
set_option maxRecDepth 100000 in
set_option maxHeartbeats 8000000 in
theorem spec_l9Own (zss : List (List Int)) (u1 : Value) (w : World) (h1 : RowS w u1 zss) (hps : 1 ≤ zss.length ∧ zss.length ≤ 6) (hr : ∀ k, k < zss.length → 1 ≤ (zss.getD k []).length ∧ (zss.getD k []).length ≤ 16) :
    Calls Tryz.prog 61 #[u1] w fun e w' => ∃ v', e = .returned v' ∧ Old w w' ∧ OwS zss w' w.heap.size w'.heap.size v' := by
  obtain ⟨i0, hi, hz0, hz1, hz2⟩ := info_parts Tryz.infoInt
  obtain ⟨j0, ji, jz0, jz1, jz2⟩ := info_parts Tryz.infoInts
  have HSM : Hid (∀ k, k < zss.length → 1 ≤ (zss.getD k []).length ∧ (zss.getD k []).length ≤ 16) := hr
  rcases h1 with ⟨a, cap, e, e'⟩ | ⟨b1, o1, cap1, us1, e_1, hb1, h01, hc1⟩
  · subst e'
    simp at hps
  subst e_1
  have HC1 : Hid (∀ j, j < zss.length → w.cell? ⟨b1, o1 + j, none⟩ = some (us1 j) ∧ Row w (us1 j) (zss.getD j [])) := hc1
  have HZ : Hid (∀ k, k < zss.length → zss.take (k + 1) = zss.take k ++ [zss.getD k []]) := fun k hk => take_succL _ _ hk
  clear hc1 hr
  go_enter Tryz.func61, Tryz.ntmps61
  go_wp2_with fail
  go_loopw [3, 8] (fun x i W => ∃ (k : Nat) (a : Option Addr) (cap : Nat), k ≤ zss.length ∧ i = .int .i64 k ∧ x = .slice a k cap ∧ Hid (OwS (zss.take k) W w.heap.size W.heap.size (.slice a k cap)) ∧ Hid (Old w W)) (fun _ i _ => zss.length - (intOf i).toNat)
  case atStart => exact ⟨0, none, 0, by omega, rfl, rfl, ⟨Nat.le_refl _, Or.inl ⟨rfl, by simp⟩⟩, Old.refl _⟩
  case round =>
    obtain ⟨k, a, cap, hk, rfl, rfl, HO, HG⟩ := hrel
    have hsr := HG.out.size
    by_cases hlt : k < zss.length
    · have d1 : decide ((k : Int) < (zss.length : Int)) = true := by simp; omega
      obtain ⟨p1, p2⟩ := HC1.out k hlt
      obtain ⟨xa, ya, f1⟩ := p2.slice
      rw [f1] at p1 p2
      have c1 : wr.cell? ⟨b1, o1 + k, none⟩ = some (.slice xa (zss.getD k []).length ya) := (HG.out.cell (p := ⟨b1, o1 + k, none⟩) hb1).trans p1
      have R1 : Hid (Row wr (.slice xa (zss.getD k []).length ya) (zss.getD k [])) := p2.old HG.out
      have hbr1 : b1 < wr.heap.size := by omega
      have HZK : Hid (zss.take (k + 1) = zss.take k ++ [zss.getD k []]) := HZ.out k hlt
      clear p1 p2 f1
      obtain ⟨m2, m3⟩ := HSM.out k hlt
      generalize zss.getD k [] = zs at *
      have HEMB : Hid (∀ (W : World) (ra : Option Addr) (rc : Nat), Old wr W → Own W wr.heap.size (.slice ra zs.length rc) zs → zs.length ≤ rc → ∃ vs, W.ownsRow w.heap.size 22 1 (.slice a k cap) k vs ∧ (∀ v' w', w'.ownsRow w.heap.size 22 1 v' (k + 1) (vs ++ [.slice ra zs.length rc]) → W.grownBy w' (Value.slice a k cap).ownBlock → (v'.ownBlock = (Value.slice a k cap).ownBlock ∨ v'.ownBlock = some W.heap.size) → OwS (zss.take (k + 1)) w' w.heap.size w'.heap.size v' ∧ Old w w')) := fun W ra rc g o hc => by
        have hl : (zss.take k).length = k := by rw [List.length_take]; omega
        have := OwS.app HO.out hsr g o hc
        rw [hl] at this
        rw [HZK.out]
        obtain ⟨vs, t1, t2⟩ := this
        refine ⟨vs, t1, fun v' w' q1 q2 q3 => ⟨t2 v' w' q1 q2 q3, ?_⟩⟩
        refine Below.grown (Old.trans HG.out g) q2 (Old.trans HG.out g).size (fun p hp => ?_)
        obtain ⟨hh, ⟨e, e2⟩ | ⟨p', cap', vs, e, hcap, hl, hhi, _⟩⟩ := HO.out
        · rw [e] at hp
          cases hp
        · rw [e] at hp
          simp only [Value.ownBlock, Option.some.injEq] at hp
          omega
      have hlt' : (k : Int) < (zss.length : Int) := by omega
      rcases R1.out with ⟨_, _, e, e'⟩ | ⟨b3, o3, cap3, e, hb3, h03, hc3⟩
      · subst e'
        simp at m2
      simp only [Value.slice.injEq, true_and] at e
      obtain ⟨rfl, rfl⟩ := e
      obtain ⟨w5, hw5⟩ : ∃ w5, w5 = wr.alloc (.cells #[] 3) := ⟨_, rfl⟩
      have HO6 : Hid (Own w5 wr.heap.size (.slice (some ⟨wr.heap.size, 0, none⟩) 0 0) []) := by
        rw [hw5]
        exact own_none0O9 wr _ (Nat.le_refl _)
      have HG45 : Hid (Old wr w5) := by rw [hw5]; exact (Old.refl wr).alloc _
      have HN3 : Hid (∀ j u, (zs.map (Value.int .i64))[j]? = some u → w5.cell? ((⟨b3, o3, none⟩ : Addr).add j) = some u) := fun j u hj => by
        have hjl : j < zs.length := by
          have := (List.getElem?_eq_some_iff.1 hj).1
          simpa using this
        have e1 : u = .int .i64 (zs.getD j 0) := by
          simp [List.getElem?_map, hjl] at hj
          rw [← hj]
          simp [List.getD, hjl]
        have e2 : (⟨b3, o3, none⟩ : Addr).add j = ⟨b3, o3 + j, none⟩ := by
          unfold Addr.add
          split
          · rename_i h; simp [h]
          · rfl
        rw [e2, e1]
        exact (HG45.out.cell (p := ⟨b3, o3 + j, none⟩) hb3).trans (hc3 j hjl)
      clear hc3 h03
      go_wp2_with (first
        | (at_builtin; rw [← hw5]; (refine wpList_append_own _ rfl _ _ 22 rfl wr.heap.size 3 i0 (.int .i64 0) 1 8 Tryz.underlying22 hi hz0 hz1 hz2 rfl (by decide) _ 0 [] rfl HO6.out ⟨b3, o3, none⟩ zs.length ya (zs.map (Value.int .i64)) rfl (by simp) HN3.out (by simp [Value.oneCell']) (by unfold maxLen; omega) (by omega) HG45.out.size ?_); intro v5 w6 o5 g5 x5; have O5 : Hid (Own w6 wr.heap.size v5 zs) := own_app0O9 o5; have G5 : Hid (Old wr w6) := Below.grown HG45.out g5 HG45.out.size (fun j hj => (HO6.out.lt j hj).1); obtain ⟨ra, rc, e7, hc7⟩ := own_fit O5.out; subst e7; obtain ⟨vs, ov, hem⟩ := HEMB.out (w6.alloc (.cells #[.slice ra zs.length rc] 22)) ra rc (G5.out.alloc _) (O5.out.alloc _) hc7; have OV : Hid ((w6.alloc (.cells #[.slice ra zs.length rc] 22)).ownsRow w.heap.size 22 1 (.slice a k cap) k vs) := ov; have HEM : Hid (∀ v' w', w'.ownsRow w.heap.size 22 1 v' (k + 1) (vs ++ [.slice ra zs.length rc]) → (w6.alloc (.cells #[.slice ra zs.length rc] 22)).grownBy w' (Value.slice a k cap).ownBlock → (v'.ownBlock = (Value.slice a k cap).ownBlock ∨ v'.ownBlock = some (w6.alloc (.cells #[.slice ra zs.length rc] 22)).heap.size) → OwS (zss.take (k + 1)) w' w.heap.size w'.heap.size v' ∧ Old w w') := hem; have hs6 := G5.out.size; clear o5 g5 x5 ov hem)
        | (at_builtin; refine wpList_append_own_at _ rfl _ _ 93 rfl w.heap.size 22 j0 (.slice none 0 0) 1 24 Tryz.underlying93 ji jz0 jz1 jz2 rfl (by decide) _ _ _ rfl OV.out ⟨w6.heap.size, 0, none⟩ 1 1 [.slice ra zs.length rc] rfl rfl (one_cell _ _ _) (one_sl _ _ _) (by unfold maxLen; omega) (by omega) (by simp; omega) ?_; intro v7 w7 o7 g7 x7 l7; have O7 : Hid (OwS (zss.take (k + 1)) w7 w.heap.size w7.heap.size v7 ∧ Old w w7) := HEM.out v7 w7 o7 g7 l7; clear o7 g7 x7 l7))
      have HO7 : Hid (OwS (zss.take (k + 1)) w7 w.heap.size w7.heap.size v7) := O7.out.1
      have HG7 : Hid (Old w w7) := O7.out.2
      have hl1 : (zss.take (k + 1)).length = k + 1 := by rw [List.length_take]; omega
      obtain ⟨a8, cap8, e8⟩ := HO7.out.slice
      subst e8
      rw [hl1] at HO7 ⊢
      exact ⟨⟨k + 1, _, _, by omega, by go_num, rfl, HO7, HG7⟩, by simp [intOf]; omega⟩
    · have d1 : decide ((k : Int) < (zss.length : Int)) = false := by simp; omega
      obtain rfl : k = zss.length := by omega
      have HF : Hid (OwS zss wr w.heap.size wr.heap.size (.slice a zss.length cap)) := by
        have := HO.out
        rw [List.take_of_length_le (by omega)] at this
        exact this
      go_wp2_with fail
      go_ret
      exact ⟨_, rfl, HG.out, HF.out⟩
end Go.Proofs.YtakleianimcmdaaGreatDoor
/- Proved: the contract of the model's AddPlain. -/
namespace Go.Proofs.YtakleianimcmdaaGreatDoor
open Go.ChangeShapes Go.WideShapes Go.ChangeAt Go.RowKit
open M1
set_option linter.unusedVariables false
set_option linter.unusedSimpArgs false
set_option maxRecDepth 100000 in
set_option maxHeartbeats 4000000 in
theorem spec_AddPlain_no (N T E : Int) (a3 : Option Addr) (l3 c3 : Nat) (a1 : Option Addr) (l1 c1 : Nat) (a2 : Option Addr) (l2 c2 : Nat) (B1 B2 : Bool) (w : World) (hB : (B1 && B2) = false)
    (KG : ∀ W, Old w W → Calls Tryz.prog 59 #[.agg #[.int .i64 N, .int .i64 T, .int .i64 E, .slice a3 l3 c3], .agg #[.slice a1 l1 c1]] W fun e w' => e = .returned (.bool B1) ∧ Old W w')
    (KP : B1 = true → ∀ W, Old w W → Calls Tryz.prog 77 #[.agg #[.int .i64 N, .int .i64 T, .int .i64 E, .slice a3 l3 c3], .slice a2 l2 c2] W fun e w' => e = .returned (.bool B2) ∧ Old W w') :
    Calls Tryz.prog 29 #[.agg #[.int .i64 N, .int .i64 T, .int .i64 E, .slice a3 l3 c3], .agg #[.slice a1 l1 c1], .slice a2 l2 c2] w fun e w' => ∃ r0, e = .returned (.tuple #[.agg r0, .bool false]) ∧ Old w w' ∧ XC [] w' w.heap.size w'.heap.size r0 := by
  have HA : Hid (Old w (((w.alloc (.cells #[.int .i64 N, .int .i64 T, .int .i64 E, .slice a3 l3 c3] 28)).alloc (.cells #[.slice a1 l1 c1] 42)).alloc (.cells #[.slice none 0 0] 42))) := (((Old.refl w).alloc _).alloc _).alloc _
  have BP : Hid (Bk (((w.alloc (.cells #[.int .i64 N, .int .i64 T, .int .i64 E, .slice a3 l3 c3] 28)).alloc (.cells #[.slice a1 l1 c1] 42)).alloc (.cells #[.slice none 0 0] 42)) w.heap.size #[.int .i64 N, .int .i64 T, .int .i64 E, .slice a3 l3 c3] 28) := ((Bk.new' w _ _ rfl).alloc _).alloc _
  have BR : Hid (Bk (((w.alloc (.cells #[.int .i64 N, .int .i64 T, .int .i64 E, .slice a3 l3 c3] 28)).alloc (.cells #[.slice a1 l1 c1] 42)).alloc (.cells #[.slice none 0 0] 42)) (w.heap.size + 1 + 1) #[.slice none 0 0] 42) := Bk.new' _ _ _ (by simp)
  cases B1
  · go_enter Tryz.func29, Tryz.ntmps29
    go_wp2_with fail
    refine (KG _ HA.out).mono ?_
    rintro e w1 ⟨rfl, g1⟩
    have HG1 : Hid (Old w w1) := Old.trans HA.out g1
    have B1 : Hid (Bk w1 (w.heap.size + 1 + 1) #[.slice none 0 0] 42) := BR.out.old g1
    have z0 := B1.out.c (i := 0) rfl
    have f0 : w1.frozen? ⟨w.heap.size + 1 + 1, 0, none⟩ = false := frozen_of_row _ _ _ _ _ B1.out
    clear g1
    go_wp2_with fail
    have q0 := (ci_res B1.out (.slice none 0 0)).c (i := 0) rfl
    refine bodyPost_ret (v := .tuple #[.agg #[.slice none 0 0], .bool false]) (by simp [results, Tryz.results29, go_sem, q0]) rfl ⟨_, rfl, ?_, XC.nil (Nat.le_refl _)⟩
    exact HG1.out.own (p := ⟨w.heap.size + 1 + 1, 0, none⟩) (by simp; omega) _
  · have hB2 : B2 = false := by simpa using hB
    subst hB2
    replace KP := KP rfl
    go_enter Tryz.func29, Tryz.ntmps29
    go_wp2_with fail
    refine (KG _ HA.out).mono ?_
    rintro e w0 ⟨rfl, g0⟩
    have HG0 : Hid (Old w w0) := Old.trans HA.out g0
    have BR0 : Hid (Bk w0 (w.heap.size + 1 + 1) #[.slice none 0 0] 42) := BR.out.old g0
    have BP0 : Hid (Bk w0 w.heap.size #[.int .i64 N, .int .i64 T, .int .i64 E, .slice a3 l3 c3] 28) := BP.out.old g0
    have p0 := BP0.out.c (i := 0) rfl
    have p1 := BP0.out.c (i := 1) rfl
    have p2 := BP0.out.c (i := 2) rfl
    have p3 := BP0.out.c (i := 3) rfl
    clear g0 HA BP BR
    go_wp2_with fail
    refine (KP _ HG0.out).mono ?_
    rintro e w1 ⟨rfl, g1⟩
    have HG1 : Hid (Old w w1) := Old.trans HG0.out g1
    have B1 : Hid (Bk w1 (w.heap.size + 1 + 1) #[.slice none 0 0] 42) := BR0.out.old g1
    have z0 := B1.out.c (i := 0) rfl
    have f0 : w1.frozen? ⟨w.heap.size + 1 + 1, 0, none⟩ = false := frozen_of_row _ _ _ _ _ B1.out
    clear g1
    go_wp2_with fail
    have q0 := (ci_res B1.out (.slice none 0 0)).c (i := 0) rfl
    refine bodyPost_ret (v := .tuple #[.agg #[.slice none 0 0], .bool false]) (by simp [results, Tryz.results29, go_sem, q0]) rfl ⟨_, rfl, ?_, XC.nil (Nat.le_refl _)⟩
    exact HG1.out.own (p := ⟨w.heap.size + 1 + 1, 0, none⟩) (by simp; omega) _
set_option maxRecDepth 100000 in
set_option maxHeartbeats 8000000 in
theorem spec_AddPlain_yes (N T E : Int) (a3 : Option Addr) (l3 c3 : Nat) (b o c1 : Nat) (a2 : Option Addr) (l2 c2 : Nat) (zsss : List (List (List Int))) (us : Nat → Value) (yss : List (List Int)) (w : World) (hm : 2 ≤ zsss.length ∧ zsss.length ≤ 3) (hb : b < w.heap.size) (hus : ∀ j, j < zsss.length → ∃ a l c, us j = .slice a l c) (hc : ∀ j, j < zsss.length → w.cell? ⟨b, o + j, none⟩ = some (us j))
    (KG : ∀ W, Old w W → Calls Tryz.prog 59 #[.agg #[.int .i64 N, .int .i64 T, .int .i64 E, .slice a3 l3 c3], .agg #[.slice (some ⟨b, o, none⟩) zsss.length c1]] W fun e w' => e = .returned (.bool true) ∧ Old W w')
    (KP : ∀ W, Old w W → Calls Tryz.prog 77 #[.agg #[.int .i64 N, .int .i64 T, .int .i64 E, .slice a3 l3 c3], .slice a2 l2 c2] W fun e w' => e = .returned (.bool true) ∧ Old W w')
    (KS : ∀ W, Old w W → Calls Tryz.prog 78 #[.agg #[.int .i64 N, .int .i64 T, .int .i64 E, .slice a3 l3 c3], .slice a2 l2 c2] W fun e w' => ∃ v', e = .returned v' ∧ Old W w' ∧ RowS w' v' yss)
    (KF : ∀ W, Old w W → ∀ u, RowS W u yss → Calls Tryz.prog 62 #[.agg #[.int .i64 N, .slice a3 l3 c3], us 0, u] W fun e w' => ∃ v', e = .returned v' ∧ Old W w' ∧ OwS (zsss.getD 0 []) w' W.heap.size w'.heap.size v')
    (KO : ∀ j, 1 ≤ j → j < zsss.length → ∀ W, Old w W → Calls Tryz.prog 61 #[us j] W fun e w' => ∃ v', e = .returned v' ∧ Old W w' ∧ OwS (zsss.getD j []) w' W.heap.size w'.heap.size v') :
    Calls Tryz.prog 29 #[.agg #[.int .i64 N, .int .i64 T, .int .i64 E, .slice a3 l3 c3], .agg #[.slice (some ⟨b, o, none⟩) zsss.length c1], .slice a2 l2 c2] w fun e w' => ∃ r0, e = .returned (.tuple #[.agg r0, .bool true]) ∧ Old w w' ∧ XC zsss w' w.heap.size w'.heap.size r0 := by
  have HA : Hid (Old w (((w.alloc (.cells #[.int .i64 N, .int .i64 T, .int .i64 E, .slice a3 l3 c3] 28)).alloc (.cells #[.slice (some ⟨b, o, none⟩) zsss.length c1] 42)).alloc (.cells #[.slice none 0 0] 42))) := (((Old.refl w).alloc _).alloc _).alloc _
  have BP : Hid (Bk (((w.alloc (.cells #[.int .i64 N, .int .i64 T, .int .i64 E, .slice a3 l3 c3] 28)).alloc (.cells #[.slice (some ⟨b, o, none⟩) zsss.length c1] 42)).alloc (.cells #[.slice none 0 0] 42)) w.heap.size #[.int .i64 N, .int .i64 T, .int .i64 E, .slice a3 l3 c3] 28) := ((Bk.new' w _ _ rfl).alloc _).alloc _
  have BC : Hid (Bk (((w.alloc (.cells #[.int .i64 N, .int .i64 T, .int .i64 E, .slice a3 l3 c3] 28)).alloc (.cells #[.slice (some ⟨b, o, none⟩) zsss.length c1] 42)).alloc (.cells #[.slice none 0 0] 42)) (w.heap.size + 1) #[.slice (some ⟨b, o, none⟩) zsss.length c1] 42) := (Bk.new' _ _ _ (by simp)).alloc _
  have BR : Hid (Bk (((w.alloc (.cells #[.int .i64 N, .int .i64 T, .int .i64 E, .slice a3 l3 c3] 28)).alloc (.cells #[.slice (some ⟨b, o, none⟩) zsss.length c1] 42)).alloc (.cells #[.slice none 0 0] 42)) (w.heap.size + 1 + 1) #[.slice none 0 0] 42) := Bk.new' _ _ _ (by simp)
  have HUS : Hid (∀ j, j < zsss.length → ∃ a l c, us j = .slice a l c) := hus
  have HC : Hid (∀ j, j < zsss.length → w.cell? ⟨b, o + j, none⟩ = some (us j)) := hc
  have HKF : Hid (∀ W, Old w W → ∀ u, RowS W u yss → Calls Tryz.prog 62 #[.agg #[.int .i64 N, .slice a3 l3 c3], us 0, u] W fun e w' => ∃ v', e = .returned v' ∧ Old W w' ∧ OwS (zsss.getD 0 []) w' W.heap.size w'.heap.size v') := KF
  have HKS : Hid (∀ W, Old w W → Calls Tryz.prog 78 #[.agg #[.int .i64 N, .int .i64 T, .int .i64 E, .slice a3 l3 c3], .slice a2 l2 c2] W fun e w' => ∃ v', e = .returned v' ∧ Old W w' ∧ RowS w' v' yss) := KS
  have HKO : Hid (∀ j, 1 ≤ j → j < zsss.length → ∀ W, Old w W → Calls Tryz.prog 61 #[us j] W fun e w' => ∃ v', e = .returned v' ∧ Old W w' ∧ OwS (zsss.getD j []) w' W.heap.size w'.heap.size v') := KO
  clear hus hc KF KS KO
  go_enter Tryz.func29, Tryz.ntmps29
  go_wp2_with fail
  refine (KG _ HA.out).mono ?_
  rintro e w0 ⟨rfl, g0⟩
  have HG0 : Hid (Old w w0) := Old.trans HA.out g0
  have BP0 : Hid (Bk w0 w.heap.size #[.int .i64 N, .int .i64 T, .int .i64 E, .slice a3 l3 c3] 28) := BP.out.old g0
  have BC0 : Hid (Bk w0 (w.heap.size + 1) #[.slice (some ⟨b, o, none⟩) zsss.length c1] 42) := BC.out.old g0
  have BR0 : Hid (Bk w0 (w.heap.size + 1 + 1) #[.slice none 0 0] 42) := BR.out.old g0
  have p0 := BP0.out.c (i := 0) rfl
  have p1 := BP0.out.c (i := 1) rfl
  have p2 := BP0.out.c (i := 2) rfl
  have p3 := BP0.out.c (i := 3) rfl
  clear g0 HA BP BC BR KG
  go_wp2_with fail
  refine (KP _ HG0.out).mono ?_
  rintro e w1 ⟨rfl, g1⟩
  have HGw : Hid (Old w w1) := Old.trans HG0.out g1
  have BP1 : Hid (Bk w1 w.heap.size #[.int .i64 N, .int .i64 T, .int .i64 E, .slice a3 l3 c3] 28) := BP0.out.old g1
  have BC1 : Hid (Bk (w1.alloc (.cells #[.slice none 0 0] 42)) (w.heap.size + 1) #[.slice (some ⟨b, o, none⟩) zsss.length c1] 42) := (BC0.out.old g1).alloc _
  have BR1 : Hid (Bk w1 (w.heap.size + 1 + 1) #[.slice none 0 0] 42) := BR0.out.old g1
  have hs1 : w.heap.size + 3 ≤ w1.heap.size := by have := BR1.out.lt; omega
  have HOA : Hid (Ows (PaK zsss 0) (w1.alloc (.cells #[.slice none 0 0] 42)) (w1.heap.size + 1) (w1.alloc (.cells #[.slice none 0 0] 42)).heap.size [.slice none 0 0]) := Ows.nil (Nat.le_refl _)
  have BOA : Hid (Bk (w1.alloc (.cells #[.slice none 0 0] 42)) w1.heap.size #[.slice none 0 0] 42) := Bk.new' w1 _ _ rfl
  have HGA : Hid (Old w1 (w1.alloc (.cells #[.slice none 0 0] 42))) := (Old.refl w1).alloc _
  have z1 := BC1.out.c (i := 0) rfl
  clear g1 KP p0 p1 p2 p3 BP0 BC0 BR0 HG0
  go_wp2_with fail
  go_loopw [26] (fun i W => ∃ (k : Nat) (aa : Option Addr) (cap : Nat), k ≤ zsss.length ∧ i = .int .i64 k ∧ Hid (Ows (PaK zsss k) W (w1.heap.size + 1) W.heap.size [.slice aa k cap]) ∧ Hid (Bk W w1.heap.size #[.slice aa k cap] 42) ∧ Hid (Old w1 W)) (fun i _ => zsss.length - (intOf i).toNat)
  case atStart => exact ⟨0, none, 0, by omega, rfl, HOA, BOA, HGA⟩
  case round =>
    obtain ⟨k, aa, cap, hk, rfl, HO, BO, HG⟩ := hrel
    clear HOA BOA HGA z1 BC1
    have BPr : Hid (Bk wr w.heap.size #[.int .i64 N, .int .i64 T, .int .i64 E, .slice a3 l3 c3] 28) := BP1.out.old HG.out
    have HGW : Hid (Old w wr) := Old.trans HGw.out HG.out
    have HNB : Hid (∀ bb, (Value.slice aa k cap).ownBlock = some bb → bb ≠ w1.heap.size) := fun bb hbb e => by
      obtain ⟨_, B, hT, hB⟩ := HO.out
      rcases hT with ⟨_, e1, _⟩ | ⟨p, cp, vs, Bs, e1, hc, hbb2⟩
      · simp at e1
        rw [e1.1] at hbb
        cases hbb
      · simp at e1
        rw [e1.1] at hbb
        simp only [Value.ownBlock, Option.some.injEq] at hbb
        have := (hB p ((hbb2 p).2 (.inl rfl))).1
        omega
    by_cases hlt : k < zsss.length
    · have d1 : decide ((k : Int) < (zsss.length : Int)) = true := decide_eq_true (by omega)
      have x1 := (HGW.out.cell (p := ⟨b, o + k, none⟩) hb).trans (HC.out k hlt)
      obtain ⟨au, lu, cu, eu⟩ := HUS.out k hlt
      rw [eu] at x1
      by_cases h0 : k = 0
      · have e1 : ((k : Int) == 0) = true := by rw [h0]; rfl
        have e2 : decide ((k : Int) = 0) = true := decide_eq_true (by omega)
        have KK := HKF.out
        rw [show us 0 = .slice au lu cu by rw [← h0]; exact eu] at KK
        rw [show zsss.getD 0 [] = zsss.getD k [] by rw [h0]] at KK
        clear eu h0
        go_wp2_with fail
        refine reg_Dp wr N T E a3 l3 c3 w.heap.size w1.heap.size aa k cap au lu cu a2 l2 c2 yss (zsss.getD k []) (fun W v' => Ows (PaK zsss (k + 1)) W (w1.heap.size + 1) W.heap.size [v'] ∧ Bk W w1.heap.size #[v'] 42 ∧ Old w1 W ∧ ∀ b, b < w1.heap.size → W.heap[b]? = wr.heap[b]?) (by omega) BO.out HNB.out (BO.out.c (i := 0) rfl) BPr.out (fun W g => HKS.out W (Old.trans HGW.out g)) (fun W g u hu => KK W (Old.trans HGW.out g) u hu) (fun W u g ou => parts_app HO.out BO.out.lt (Nat.le_refl _) HG.out BO.out W u g ou) _ _ ?_ ?_ ?_ ?_ ?_ ?_
        iterate 5 (· exact rfl)
        intro us3 W a5 c5 hfin
        obtain ⟨n1, n2, n3, n4⟩ := hfin
        simp only [putAll, Act.put, slotDp, List.range, List.range.loop, List.map_cons, List.map_nil, List.getD_cons_zero, List.getD_cons_succ, List.setIfInBounds_toArray, List.set_cons_succ, List.set_cons_zero]
        have N1 : Hid (Ows (PaK zsss (k + 1)) W (w1.heap.size + 1) W.heap.size [.slice a5 (k + 1) c5]) := n1
        have N2 : Hid (Bk W w1.heap.size #[.slice a5 (k + 1) c5] 42) := n2
        have N3 : Hid (Old w1 W) := n3
        clear n1 n2 n3 n4 HO BO HG BPr HGW x1 KK HNB d1 e1 e2
        go_wp2_with fail
        exact ⟨⟨k + 1, a5, c5, by omega, by go_num, N1, N2, N3⟩, by simp [intOf]; omega⟩
      · have e1 : ((k : Int) == 0) = false := by simpa using h0
        have e2 : decide ((k : Int) = 0) = false := decide_eq_false (by omega)
        have KK := HKO.out k (by omega) hlt
        rw [eu] at KK
        clear eu h0
        go_wp2_with fail
        refine reg_Do wr w1.heap.size aa k cap au lu cu (zsss.getD k []) (fun W v' => Ows (PaK zsss (k + 1)) W (w1.heap.size + 1) W.heap.size [v'] ∧ Bk W w1.heap.size #[v'] 42 ∧ Old w1 W ∧ ∀ b, b < w1.heap.size → W.heap[b]? = wr.heap[b]?) (by omega) BO.out HNB.out (BO.out.c (i := 0) rfl) (fun W g => KK W (Old.trans HGW.out g)) (fun W u g ou => parts_app HO.out BO.out.lt (Nat.le_refl _) HG.out BO.out W u g ou) _ _ ?_ ?_ ?_ ?_
        iterate 3 (· exact rfl)
        intro us3 W a5 c5 hfin
        obtain ⟨n1, n2, n3, n4⟩ := hfin
        simp only [putAll, Act.put, slotDo, List.range, List.range.loop, List.map_cons, List.map_nil, List.getD_cons_zero, List.getD_cons_succ, List.setIfInBounds_toArray, List.set_cons_succ, List.set_cons_zero]
        have N1 : Hid (Ows (PaK zsss (k + 1)) W (w1.heap.size + 1) W.heap.size [.slice a5 (k + 1) c5]) := n1
        have N2 : Hid (Bk W w1.heap.size #[.slice a5 (k + 1) c5] 42) := n2
        have N3 : Hid (Old w1 W) := n3
        clear n1 n2 n3 n4 HO BO HG BPr HGW x1 KK HNB d1 e1 e2
        go_wp2_with fail
        exact ⟨⟨k + 1, a5, c5, by omega, by go_num, N1, N2, N3⟩, by simp [intOf]; omega⟩
    · have d1 : decide ((k : Int) < (zsss.length : Int)) = false := decide_eq_false (by omega)
      obtain rfl : k = zsss.length := by omega
      have BR : Hid (Bk wr (w.heap.size + 1 + 1) #[.slice none 0 0] 42) := BR1.out.old HG.out
      have z0 := BO.out.c (i := 0) rfl
      have y0 := BR.out.c (i := 0) rfl
      have f0 : wr.frozen? ⟨w.heap.size + 1 + 1, 0, none⟩ = false := frozen_of_row _ _ _ _ _ BR.out
      go_wp2_with fail
      have q0 := (ci_res BR.out (.slice aa zsss.length cap)).c (i := 0) rfl
      refine bodyPost_ret (v := .tuple #[.agg #[.slice aa zsss.length cap], .bool true]) (by simp [results, Tryz.results29, go_sem, q0]) rfl ⟨_, rfl, ?_, aa, cap, rfl, ?_⟩
      · exact HGW.out.own (p := ⟨w.heap.size + 1 + 1, 0, none⟩) (by simp; omega) _
      · have h1 : Ows (TTT zsss) wr (w1.heap.size + 1) wr.heap.size [.slice aa zsss.length cap] := HO.out
        have h2 := h1.putT (k := w.heap.size + 1 + 1) (j := 0) (x := .slice aa zsss.length cap) (.inl (by omega))
        exact h2.low (lo' := w.heap.size) (by omega) (by simp) (Nat.le_refl _)
end Go.Proofs.YtakleianimcmdaaGreatDoor
