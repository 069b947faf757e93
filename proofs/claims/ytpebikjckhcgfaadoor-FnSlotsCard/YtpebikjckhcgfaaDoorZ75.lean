/- Proved: several texts in one: what each proves is said ahead of it. -/
import Derived.Test.YtpebikjckhcgfaaDoorZ73
import Derived.Test.YtpebikjckhcgfaaDoorZ74
import Derived.KernelRfl
import Derived.Test.YtpebikjckhcgfaaDoorZ12
import Derived.Test.YtpebikjckhcgfaaDoorZ71
import Derived.Test.YtpebikjckhcgfaaDoorZ72
/- Proved: the drawn region of the program's slotPointsOf: two points are made and laid in both rows. -/
namespace Go.Proofs.YtpebikjckhcgfaaDoor
open Go.ChangeShapes Go.WideShapes Go.ChangeAt Go.RowKit
set_option linter.unusedVariables false
set_option linter.unusedSimpArgs false
def regionAtS (n : Nat) : Code → Option Code
  | .region i ops b => if i = n then some (.region i ops b) else none
  | .seq a b => match regionAtS n a with
    | some c => some c
    | none => regionAtS n b
  | .block _ c => regionAtS n c
  | .loop c => regionAtS n c
  | .cond _ a b => match regionAtS n a with
    | some c => some c
    | none => regionAtS n b
  | _ => none
/-- a call of a function value by a contract that tells what comes back -/
theorem op_callv {P : Program} {d : Option Tmp} {ty : TypeId} {pos : String} {af : Array Edge} {a : Act} {W : World} {K : Act → World → Prop} {Q : Exit → Act → World → Prop} {f : FuncId} {x : Operand} {args : Array Operand} {tys : Array TypeId} {caps vs : Array Value} {R : Value → World → Prop} (hx : a.eval x = .func (.func f) #[] caps) (hc : ∀ (vs : Array Value) (w : World), Sem.run P (callFunc f vs) w = .ok (.enter f vs) w) (hv : args.map a.eval ++ caps = vs)
    (hC : Calls P f vs W (fun e w' => ∃ v, e = .returned v ∧ R v w')) (hK : ∀ v w', R v w' → K (a.put d v) w') :
    Oper.wp P ⟨d, .call { callee := .value x, args := args, argTypes := tys }, ty, pos, af, none⟩ a W K Q := by
  have he : (execOp a.eval ⟨d, .call { callee := .value x, args := args, argTypes := tys }, ty, pos, af, none⟩) = callFunc f vs := by
    simp [execOp, resolve, invoke, hx, ← hv, Deferred.ofValue]
  unfold Oper.wp
  rw [he, hc]
  refine hC.mono ?_
  rintro e w' ⟨v, rfl, h⟩
  exact hK v w' h
/-- a point is stored -/
theorem op_store2 {d : Option Tmp} {ty : TypeId} {pos : String} {af : Array Edge} {a : Act} {W : World} {K : Act → World → Prop} {Q : Exit → Act → World → Prop} {p x : Operand} {g o : Nat} {u v : Int} {z0 z1 : Value} (ha : a.eval p = .pointer (some ⟨g, o, none⟩)) (hv : a.eval x = .agg #[.int .i64 u, .int .i64 v])
    (c0 : W.cell? ⟨g, o, none⟩ = some z0) (c1 : W.cell? ⟨g, o + 1, none⟩ = some z1) (f0 : W.frozen? ⟨g, o, none⟩ = false) (f1 : W.frozen? ⟨g, o + 1, none⟩ = false)
    (hK : K (a.put d undef) ((W.setCell ⟨g, o, none⟩ (.int .i64 u)).setCell ⟨g, o + 1, none⟩ (.int .i64 v))) : Oper.wp Tryd.prog ⟨d, .store 91 p x, ty, pos, af, none⟩ a W K Q := by
  obtain ⟨ρ, hρ⟩ : ∃ ρ, a.eval = ρ := ⟨_, rfl⟩
  rw [hρ] at ha hv
  refine op_skp ρ hρ ?_ hK
  clear hρ hK
  go_simp
theorem own_old {w w' : World} {base : Nat} {T : TypeId} {z : Nat} {v : Value} {n : Nat} {cs : List Value} (h : w.ownsRow base T z v n cs) (hg : Old w w') : w'.ownsRow base T z v n cs := by
  refine ⟨h.1, ?_⟩
  rcases h.2 with hn | ⟨p, cap, cur, e, hb, hgg, rest⟩
  · exact .inl hn
  · refine .inr ⟨p, cap, cur, e, hb, ?_, rest⟩
    rw [hg.block p (Array.getElem?_eq_some_iff.1 hgg).1]
    exact hgg
theorem cellOS (W : World) (p : Addr) (v : Value) (q : Addr) (h : q.block ≠ p.block) : (W.setCell p v).cell? q = W.cell? q := World.cell?_of_block (heap_setCell_other W p q.block v h)
set_option maxRecDepth 100000 in
set_option maxHeartbeats 4000000 in
def slotSp (i : Nat) : Nat := [16, 17, 18, 19, 20, 21, 22, 23, 24, 25, 26, 27, 28, 29, 30, 31, 33, 32].getD i 0
theorem slotSp_lt : ∀ i, i < 18 → slotSp i < 40 := by decide
theorem slotSp_inj : ∀ i, i < 18 → ∀ j, j < 18 → slotSp i = slotSp j → i = j := by decide
theorem slotSp_no : ∀ s, s < 16 → ∀ i, i < 18 → slotSp i ≠ s := by decide
set_option maxRecDepth 100000 in
set_option maxHeartbeats 4000000 in
theorem reg_sp (w0 : World) (base g rb nb H n N j e p e2 p2 : Nat) (cs : List Value) (OP : w0.ownsRow base 91 2 (.slice (some ⟨g, 0, none⟩) n n) n cs) (hcs : cs.length = 2 * n) (hn : n = 2 * H) (hj : j < H) (hH : H ≤ 8) (hN : N ≤ 16) (he : e < 2 * N) (he2 : (2 * (N : Int)) - (e : Int) = (e2 : Int))
    (cA : w0.cell? ⟨rb, 0, none⟩ = some (.slice (some ⟨g, 0, none⟩) H n)) (cB : w0.cell? ⟨rb, 1, none⟩ = some (.slice (some ⟨g, H * 2, none⟩) H H)) (cN : w0.cell? ⟨nb, 0, none⟩ = some (.int .i64 N)) (hgr : rb ≠ g) (hgn : nb ≠ g)
    (KP : ∀ W, Old w0 W → Calls Tryd.prog 119 #[.int .i64 e, .pointer (some ⟨nb, 0, none⟩)] W fun en w' => ∃ v, en = .returned v ∧ v = .agg #[.int .i64 e, .int .i64 p] ∧ Old W w')
    (KP2 : ∀ W, Old w0 W → Calls Tryd.prog 119 #[.int .i64 e2, .pointer (some ⟨nb, 0, none⟩)] W fun en w' => ∃ v, en = .returned v ∧ v = .agg #[.int .i64 e2, .int .i64 p2] ∧ Old W w')
    (Q : Exit → Act → World → Prop) (a0 : Act) (hsz : a0.tmps.size = 40)
    (ha1 : a0.eval (.tmp 1) = .pointer (some ⟨nb, 0, none⟩)) (ha3 : a0.eval (.tmp 3) = .func (.func 119) #[] #[.pointer (some ⟨nb, 0, none⟩)]) (ha4 : a0.eval (.tmp 4) = .pointer (some ⟨rb, 0, none⟩)) (ha5 : a0.eval (.tmp 5) = .int .i64 e) (ha6 : a0.eval (.tmp 6) = .int .i64 j)
    (HK : Hid (∀ (us : Nat → Value) W, Old w0 W → Q .normal (putAll a0 ((List.range 18).map fun i => (slotSp i, us i))) ((((W.setCell ⟨g, j * 2, none⟩ (.int .i64 e)).setCell ⟨g, j * 2 + 1, none⟩ (.int .i64 p)).setCell ⟨g, H * 2 + j * 2, none⟩ (.int .i64 e2)).setCell ⟨g, H * 2 + j * 2 + 1, none⟩ (.int .i64 p2)))) :
    Code.wp Tryd.prog ((Tryd.f63.body.bind (regionAtS 7)).getD .skip) Q a0 w0 := by
  conv => arg 2; whnf
  have un := slotSp_no
  have cell2 : ∀ (bb o : Nat) (z : Value) (W : World), bb ≠ g → W.cell? ⟨bb, o, none⟩ = some z → (((W.setCell ⟨g, j * 2, none⟩ (.int .i64 e)).setCell ⟨g, j * 2 + 1, none⟩ (.int .i64 p))).cell? ⟨bb, o, none⟩ = some z := fun bb o z W hb hz => by
    rw [cellOS _ _ _ _ hb, cellOS _ _ _ _ hb]
    exact hz
  have both : ∀ (bb o : Nat) (z : Value) (i : Nat) (W : World), bb ≠ g → w0.cell? ⟨bb, o, none⟩ = some z → okU w0 (fun W => ((W.setCell ⟨g, j * 2, none⟩ (.int .i64 e)).setCell ⟨g, j * 2 + 1, none⟩ (.int .i64 p))) [8, 14] i W → W.cell? ⟨bb, o, none⟩ = some z := fun bb o z i W hb hz hok => by
    rcases hok with q | ⟨_, W0, q, rfl⟩
    · exact (q.cell (p := ⟨bb, o, none⟩) (block_lt_of_cell hz)).trans hz
    · exact cell2 _ _ _ _ hb ((q.cell (p := ⟨bb, o, none⟩) (block_lt_of_cell hz)).trans hz)
  have pA : ∀ i W, okU w0 (fun W => ((W.setCell ⟨g, j * 2, none⟩ (.int .i64 e)).setCell ⟨g, j * 2 + 1, none⟩ (.int .i64 p))) [8, 14] i W → W.cell? ⟨rb, 0, none⟩ = some (.slice (some ⟨g, 0, none⟩) H n) := fun i W q => both _ _ _ i W hgr cA q
  have pB : ∀ i W, okU w0 (fun W => ((W.setCell ⟨g, j * 2, none⟩ (.int .i64 e)).setCell ⟨g, j * 2 + 1, none⟩ (.int .i64 p))) [8, 14] i W → W.cell? ⟨rb, 1, none⟩ = some (.slice (some ⟨g, H * 2, none⟩) H H) := fun i W q => both _ _ _ i W hgr cB q
  have pN : ∀ i W, okU w0 (fun W => ((W.setCell ⟨g, j * 2, none⟩ (.int .i64 e)).setCell ⟨g, j * 2 + 1, none⟩ (.int .i64 p))) [8, 14] i W → W.cell? ⟨nb, 0, none⟩ = some (.int .i64 N) := fun i W q => both _ _ _ i W hgn cN q
  have hjn : (j : Int) < (H : Int) := by omega
  have hj0 : j < H := hj
  have wN : IntKind.i64.wrap (2 * (N : Int)) = 2 * (N : Int) := by rw [IntKind.wrap_i64]; omega
  have wE : IntKind.i64.wrap (e2 : Int) = (e2 : Int) := by rw [IntKind.wrap_i64]; omega
  have cell : ∀ {W' : World} {cs' : List Value}, W'.ownsRow base 91 2 (.slice (some ⟨g, 0, none⟩) n n) n cs' → cs'.length = 2 * n → ∀ o, o < 2 * n → (∃ z, W'.cell? ⟨g, o, none⟩ = some z) ∧ W'.frozen? ⟨g, o, none⟩ = false := fun ho hl o hlt => ⟨⟨_, (World.ownsRow.cellAt ho o (by omega)).trans (List.getElem?_eq_getElem (by omega))⟩, World.ownsRow.frozenAt ho o⟩
  refine wp_region_sts 18 16 rfl (by decide) rfl rfl (by kernel_rfl) (by kernel_rfl) (by kernel_rfl) [8, 14] (by kernel_rfl) (by kernel_rfl) slotSp (fun i hi => by rw [hsz]; exact slotSp_lt i hi) (fun i j hi hj => slotSp_inj i hi j hj) (fun i => [.pointer (some ⟨rb, 0, none⟩), .slice (some ⟨g, 0, none⟩) H n, .int .i64 j, .pointer (some ⟨rb, 1, none⟩), .slice (some ⟨g, H * 2, none⟩) H H, .int .i64 j, .func (.func 119) #[] #[.pointer (some ⟨nb, 0, none⟩)], .int .i64 e, .agg #[.int .i64 e, .int .i64 p], .func (.func 119) #[] #[.pointer (some ⟨nb, 0, none⟩)], .int .i64 N, .int .i64 (2 * (N : Int)), .int .i64 e, .int .i64 e2, .agg #[.int .i64 e2, .int .i64 p2], .pointer (some ⟨g, j * 2, none⟩), undef, .pointer (some ⟨g, H * 2 + j * 2, none⟩)].getD i undef) (fun W => ((W.setCell ⟨g, j * 2, none⟩ (.int .i64 e)).setCell ⟨g, j * 2 + 1, none⟩ (.int .i64 p))) (fun W => ((W.setCell ⟨g, H * 2 + j * 2, none⟩ (.int .i64 e2)).setCell ⟨g, H * 2 + j * 2 + 1, none⟩ (.int .i64 p2))) (Below.drew (Old.refl _)) ?_ ?_ ?_
  · refine ⟨?_, ?_, ?_, ?_, ?_, ?_, ?_, ?_, ?_, ?_, ?_, ?_, ?_, ?_, ?_, ?_, Or.inl rfl, ?_, trivial⟩
    · refine Or.inr ?_
      intro a W gW hF hd
      have g4 := (hF.same 4 (un 4 (by decide))).trans ha4
      obtain ⟨ρ, hρ⟩ : ∃ ρ, a.eval = ρ := ⟨_, rfl⟩
      rw [hρ] at g4
      refine op_val ρ hρ (.pointer (some ⟨rb, 0, none⟩)) ?_ ⟨rfl, rfl⟩
      clear gW hF hd hρ ha1 ha3 ha4 ha5 ha6 HK un KP KP2 cA cB cN pA pB pN OP hcs both cell2 cell
      go_simp
    · refine Or.inr ?_
      intro a W gW hF hd
      have h0 : a.eval (.tmp 16) = .pointer (some ⟨rb, 0, none⟩) := hd ⟨0, .data⟩ (by simp) rfl (by decide)
      have hc := pA _ W gW
      obtain ⟨ρ, hρ⟩ : ∃ ρ, a.eval = ρ := ⟨_, rfl⟩
      rw [hρ] at h0
      refine op_val ρ hρ (.slice (some ⟨g, 0, none⟩) H n) ?_ ⟨rfl, rfl⟩
      clear gW hF hd hρ ha1 ha3 ha4 ha5 ha6 HK un KP KP2 cA cB cN pA pB pN OP hcs both cell2 cell
      go_simp
    · refine Or.inr ?_
      intro a W gW hF hd
      refine op_move ?_
      exact ⟨by rw [(hF.same 6 (un 6 (by decide))).trans ha6]; rfl, rfl⟩
    · refine Or.inr ?_
      intro a W gW hF hd
      have g4 := (hF.same 4 (un 4 (by decide))).trans ha4
      obtain ⟨ρ, hρ⟩ : ∃ ρ, a.eval = ρ := ⟨_, rfl⟩
      rw [hρ] at g4
      refine op_val ρ hρ (.pointer (some ⟨rb, 1, none⟩)) ?_ ⟨rfl, rfl⟩
      clear gW hF hd hρ ha1 ha3 ha4 ha5 ha6 HK un KP KP2 cA cB cN pA pB pN OP hcs both cell2 cell
      go_simp
    · refine Or.inr ?_
      intro a W gW hF hd
      have h3 : a.eval (.tmp 19) = .pointer (some ⟨rb, 1, none⟩) := hd ⟨3, .data⟩ (by simp) rfl (by decide)
      have hc := pB _ W gW
      obtain ⟨ρ, hρ⟩ : ∃ ρ, a.eval = ρ := ⟨_, rfl⟩
      rw [hρ] at h3
      refine op_val ρ hρ (.slice (some ⟨g, H * 2, none⟩) H H) ?_ ⟨rfl, rfl⟩
      clear gW hF hd hρ ha1 ha3 ha4 ha5 ha6 HK un KP KP2 cA cB cN pA pB pN OP hcs both cell2 cell
      go_simp
    · refine Or.inr ?_
      intro a W gW hF hd
      refine op_move ?_
      exact ⟨by rw [(hF.same 6 (un 6 (by decide))).trans ha6]; rfl, rfl⟩
    · refine Or.inr ?_
      intro a W gW hF hd
      refine op_move ?_
      exact ⟨by rw [(hF.same 3 (un 3 (by decide))).trans ha3]; rfl, rfl⟩
    · refine Or.inr ?_
      intro a W gW hF hd
      refine op_move ?_
      exact ⟨by rw [(hF.same 5 (un 5 (by decide))).trans ha5]; rfl, rfl⟩
    · refine Or.inr ?_
      intro a W gW hF hd
      have h6 : a.eval (.tmp 22) = .func (.func 119) #[] #[.pointer (some ⟨nb, 0, none⟩)] := hd ⟨6, .data⟩ (by simp) rfl (by decide)
      have h7 : a.eval (.tmp 23) = .int .i64 e := hd ⟨7, .data⟩ (by simp) rfl (by decide)
      have gO : Old w0 W := by
        rcases gW with q | ⟨h, _⟩
        · exact q
        · cases h
      refine op_callv h6 Tryd.call119 (vs := #[.int .i64 e, .pointer (some ⟨nb, 0, none⟩)]) (by simp [h7]) (KP W gO) ?_
      rintro x w' ⟨rfl, q'⟩
      exact ⟨rfl, q'⟩
    · refine Or.inr ?_
      intro a W gW hF hd
      refine op_move ?_
      exact ⟨by rw [(hF.same 3 (un 3 (by decide))).trans ha3]; rfl, rfl⟩
    · refine Or.inr ?_
      intro a W gW hF hd
      have g1 := (hF.same 1 (un 1 (by decide))).trans ha1
      have hc := pN _ W gW
      obtain ⟨ρ, hρ⟩ : ∃ ρ, a.eval = ρ := ⟨_, rfl⟩
      rw [hρ] at g1
      refine op_val ρ hρ (.int .i64 N) ?_ ⟨rfl, rfl⟩
      clear gW hF hd hρ ha1 ha3 ha4 ha5 ha6 HK un KP KP2 cA cB cN pA pB pN OP hcs both cell2 cell
      go_simp
    · refine Or.inr ?_
      intro a W gW hF hd
      have h10 : a.eval (.tmp 26) = .int .i64 N := hd ⟨10, .data⟩ (by simp) rfl (by decide)
      have ec : a.eval (.const (.int .i64 2)) = .int .i64 2 := rfl
      obtain ⟨ρ, hρ⟩ : ∃ ρ, a.eval = ρ := ⟨_, rfl⟩
      rw [hρ] at h10 ec
      refine op_val ρ hρ (.int .i64 (2 * (N : Int))) ?_ ⟨rfl, rfl⟩
      clear gW hF hd hρ ha1 ha3 ha4 ha5 ha6 HK un KP KP2 cA cB cN pA pB pN OP hcs both cell2 cell
      go_simp
    · refine Or.inr ?_
      intro a W gW hF hd
      refine op_move ?_
      exact ⟨by rw [(hF.same 5 (un 5 (by decide))).trans ha5]; rfl, rfl⟩
    · refine Or.inr ?_
      intro a W gW hF hd
      have h11 : a.eval (.tmp 27) = .int .i64 (2 * (N : Int)) := hd ⟨11, .data⟩ (by simp) rfl (by decide)
      have h12 : a.eval (.tmp 28) = .int .i64 e := hd ⟨12, .data⟩ (by simp) rfl (by decide)
      obtain ⟨ρ, hρ⟩ : ∃ ρ, a.eval = ρ := ⟨_, rfl⟩
      rw [hρ] at h11 h12
      refine op_val ρ hρ (.int .i64 e2) ?_ ⟨rfl, rfl⟩
      clear gW hF hd hρ ha1 ha3 ha4 ha5 ha6 HK un KP KP2 cA cB cN pA pB pN OP hcs both cell2 cell
      go_simp
    · refine Or.inr ?_
      intro a W gW hF hd
      have h9 : a.eval (.tmp 25) = .func (.func 119) #[] #[.pointer (some ⟨nb, 0, none⟩)] := hd ⟨9, .data⟩ (by simp) rfl (by decide)
      have h13 : a.eval (.tmp 29) = .int .i64 e2 := hd ⟨13, .data⟩ (by simp) rfl (by decide)
      have gO : Old w0 W := by
        rcases gW with q | ⟨h, _⟩
        · exact q
        · cases h
      refine op_callv h9 Tryd.call119 (vs := #[.int .i64 e2, .pointer (some ⟨nb, 0, none⟩)]) (by simp [h13]) (KP2 W gO) ?_
      rintro x w' ⟨rfl, q'⟩
      exact ⟨rfl, q'⟩
    · refine Or.inr ?_
      intro a W gW hF hd
      have h1 : a.eval (.tmp 17) = .slice (some ⟨g, 0, none⟩) H n := hd ⟨1, .data⟩ (by simp) rfl (by decide)
      have h2 : a.eval (.tmp 18) = .int .i64 j := hd ⟨2, .data⟩ (by simp) rfl (by decide)
      obtain ⟨ρ, hρ⟩ : ∃ ρ, a.eval = ρ := ⟨_, rfl⟩
      rw [hρ] at h1 h2
      refine op_val ρ hρ (.pointer (some ⟨g, j * 2, none⟩)) ?_ ⟨rfl, rfl⟩
      clear gW hF hd hρ ha1 ha3 ha4 ha5 ha6 HK un KP KP2 cA cB cN pA pB pN OP hcs both cell2 cell
      go_simp
    · refine Or.inr ?_
      intro a W gW hF hd
      have h4 : a.eval (.tmp 20) = .slice (some ⟨g, H * 2, none⟩) H H := hd ⟨4, .data⟩ (by simp) rfl (by decide)
      have h5 : a.eval (.tmp 21) = .int .i64 j := hd ⟨5, .data⟩ (by simp) rfl (by decide)
      obtain ⟨ρ, hρ⟩ : ∃ ρ, a.eval = ρ := ⟨_, rfl⟩
      rw [hρ] at h4 h5
      refine op_val ρ hρ (.pointer (some ⟨g, H * 2 + j * 2, none⟩)) ?_ ⟨rfl, rfl⟩
      clear gW hF hd hρ ha1 ha3 ha4 ha5 ha6 HK un KP KP2 cA cB cN pA pB pN OP hcs both cell2 cell
      go_simp
  · intro a W gW hF hd
    have h15 : a.eval (.tmp 31) = .pointer (some ⟨g, j * 2, none⟩) := hd ⟨15, .data⟩ (by simp) rfl
    have h8 : a.eval (.tmp 24) = .agg #[.int .i64 e, .int .i64 p] := hd ⟨8, .data⟩ (by simp) rfl
    have O0 := own_old OP gW
    obtain ⟨⟨z0, q0⟩, r0⟩ := cell O0 hcs (j * 2) (by omega)
    obtain ⟨⟨z1, q1⟩, r1⟩ := cell O0 hcs (j * 2 + 1) (by omega)
    exact op_store2 (g := g) (o := j * 2) h15 h8 q0 q1 r0 r1 ⟨rfl, rfl⟩
  · intro a W gW hF hq
    have h17 : a.eval (.tmp 32) = .pointer (some ⟨g, H * 2 + j * 2, none⟩) := hq 17 (by decide) (by decide)
    have h14 : a.eval (.tmp 30) = .agg #[.int .i64 e2, .int .i64 p2] := hq 14 (by decide) (by decide)
    have hp := fram_put hF (fun i j hi hj => slotSp_inj i hi j hj)
    have hk := HK.out (fun i => a.eval (.tmp (slotSp i))) W gW
    rw [← hp] at hk
    have O0 := own_old OP gW
    have O1 := (World.ownsRow.stored O0 (j * 2) (.int .i64 e)).1
    have O2 := (World.ownsRow.stored O1 (j * 2 + 1) (.int .i64 p)).1
    obtain ⟨⟨z2, q2⟩, r2⟩ := cell O2 (by simp [hcs]) (H * 2 + j * 2) (by omega)
    obtain ⟨⟨z3, q3⟩, r3⟩ := cell O2 (by simp [hcs]) (H * 2 + j * 2 + 1) (by omega)
    exact op_store2 (g := g) (o := H * 2 + j * 2) h17 h14 q2 q3 r2 r3 hk
end Go.Proofs.YtpebikjckhcgfaaDoor
/- Proved: the contract of the program's slotPointsOf: the exponents and places of all slots, in both rows. -/
namespace Go.Proofs.YtpebikjckhcgfaaDoor
open Go.ChangeShapes Go.WideShapes Go.ChangeAt Go.RowKit
set_option linter.unusedVariables false
set_option linter.unusedSimpArgs false
theorem Tryd.infoSlotPt : (Tryd.prog.info? 91).map (fun i => (i.zero, i.size, i.bytes)) = some (some (.agg #[.int .i64 0, .int .i64 0]), 2, 16) := by kernel_rfl
theorem own_far {w w' : World} {base : Nat} {T : TypeId} {z : Nat} {v : Value} {n : Nat} {cs : List Value} (h : w.ownsRow base T z v n cs) (hg : ∀ b, v.ownBlock = some b → w'.heap[b]? = w.heap[b]?) : w'.ownsRow base T z v n cs := by
  refine ⟨h.1, ?_⟩
  rcases h.2 with hn | ⟨p, cap, cur, e, hb, hgg, rest⟩
  · exact .inl hn
  · refine .inr ⟨p, cap, cur, e, hb, ?_, rest⟩
    rw [hg p (by rw [e]; rfl)]
    exact hgg
theorem frozen_of_row {w : World} {k : Nat} {cs : Array Value} {T : TypeId} (h : w.heap[k]? = some (.cells cs T (0, 0))) (i : Nat) : w.frozen? ⟨k, i, none⟩ = false := by
  simp [World.frozen?, h]
/-- a block of two cells -/
abbrev StS (w : World) (k : Nat) (x y : Value) (T : TypeId) : Prop := w.heap[k]? = some (.cells #[x, y] T (0, 0))
/-- a point's place -/
def plN (N e : Nat) : Nat := backN (lg N) (e / 2) 0
/-- the points' cells after k rounds -/
def fC (N : Nat) : Nat → List Value
  | 0 => List.replicate (2 * N) (.int .i64 0)
  | k + 1 => ((((fC N k).set (k * 2) (.int .i64 (eN N k))).set (k * 2 + 1) (.int .i64 (plN N (eN N k)))).set (N / 2 * 2 + k * 2) (.int .i64 ((2 * N - eN N k : Nat) : Int))).set (N / 2 * 2 + k * 2 + 1) (.int .i64 (plN N (2 * N - eN N k)))
/-- the points' cells -/
def ptC (N : Nat) : List Value := (exL N).flatMap (fun (e : Nat) => [.int .i64 e, .int .i64 (plN N e)])
theorem fC_done {N : Nat} (h : Sz4 N) : fC N (N / 2) = ptC N := by rcases h with rfl | rfl | rfl | rfl <;> rfl
theorem fC_len (N : Nat) : ∀ k, (fC N k).length = 2 * N
  | 0 => by simp [fC]
  | k + 1 => by simp [fC, fC_len N k]
theorem made_pts (n : Nat) : (madeCells (Value.agg #[.int .i64 0, .int .i64 0]).cells (n * 2)).toList = List.replicate (2 * n) (.int .i64 0) := by
  have hc : (Value.agg #[Value.int .i64 0, .int .i64 0]).cells = #[.int .i64 0, .int .i64 0] := by simp [Value.cells]
  rw [hc, List.eq_replicate_iff]
  refine ⟨by simp [size_madeCells]; omega, fun b hb => ?_⟩
  simp only [madeCells, Array.toList_map, List.mem_map] at hb
  obtain ⟨i, _, rfl⟩ := hb
  have : i % 2 = 0 ∨ i % 2 = 1 := by omega
  rcases this with h | h <;> simp [h]
set_option maxRecDepth 100000 in
set_option maxHeartbeats 4000000 in
theorem slotPointsOf_any (N : Nat) (w : World) (h : Sz4 N) (hT : TabW w) :
    Calls Tryd.prog 63 #[.int .i64 N] w fun en w' => ∃ g, w.heap.size ≤ g ∧ en = .returned (.agg #[.slice (some ⟨g, 0, none⟩) (N / 2) N, .slice (some ⟨g, N / 2 * 2, none⟩) (N / 2) (N / 2)]) ∧ Old w w' ∧ w'.ownsRow w.heap.size 91 2 (.slice (some ⟨g, 0, none⟩) N N) N (ptC N) := by
  obtain ⟨i0, hi, hz0, hz1, hz2⟩ := info_parts Tryd.infoSlotPt
  have hs := sz_bd h
  rw [← fC_done h]
  have HS : Hid (∀ k, fC N (k + 1) = ((((fC N k).set (k * 2) (.int .i64 (eN N k))).set (k * 2 + 1) (.int .i64 (plN N (eN N k)))).set (N / 2 * 2 + k * 2) (.int .i64 ((2 * N - eN N k : Nat) : Int))).set (N / 2 * 2 + k * 2 + 1) (.int .i64 (plN N (2 * N - eN N k)))) := fun k => rfl
  have HL : Hid (∀ k, (fC N k).length = 2 * N) := fC_len N
  have H0 : Hid (fC N 0 = List.replicate (2 * N) (.int .i64 0)) := rfl
  have HB : Hid (∀ k, eN N k < 2 * N) := fun k => eN_bd h k
  have HE0 : Hid (eN N 0 = 1) := rfl
  have HES : Hid (∀ k, eN N (k + 1) = 3 * eN N k % (2 * N)) := fun k => rfl
  have HPW : Hid (∀ e b W, e < 2 * N → TabW W → W.cell? ⟨b, 0, none⟩ = some (.int .i64 N) → Calls Tryd.prog 119 #[.int .i64 e, .pointer (some ⟨b, 0, none⟩)] W fun en w' => en = .returned (.agg #[.int .i64 e, .int .i64 (plN N e)]) ∧ Old W w') := fun e b W he hT hc => pointWith_any N e b W h he hT hc
  have hEP : ∀ k, eN N k ≥ 1 := by
    intro k
    have : eN N k % 2 = 1 := by
      induction k with
      | zero => rfl
      | succ k ih =>
        show 3 * eN N k % (2 * N) % 2 = 1
        rw [Nat.mod_mul_right_mod]
        omega
    omega
  have HEP : Hid (∀ k, eN N k ≥ 1) := hEP
  obtain ⟨H, hH⟩ : ∃ H, N / 2 = H := ⟨_, rfl⟩
  have hN2 : N = 2 * H := by omega
  rw [hH] at HS ⊢
  have HT : Hid (TabW w) := hT
  generalize fC N = F at *
  generalize eN N = E at *
  generalize plN N = pl at *
  have eh : (N : Int) / 2 = (H : Int) := by omega
  have hH1 : 1 ≤ H ∧ H ≤ 8 := by omega
  have HN2 : Hid (N = 2 * H) := hN2
  have hpn : ¬ (2 * (N : Int)) = 0 := by omega
  have hpn2 : ¬ N = 0 := by omega
  have cin : Hid (∀ g W, Calls Tryd.prog 121 #[.slice (some ⟨g, 0, none⟩) N N] W fun en w' => en = .returned (.agg #[.slice (some ⟨g, 0, none⟩) H N, .slice (some ⟨g, H * 2, none⟩) H H]) ∧ Old W w') := fun g W => inRows_pt H g N W hN2 hH1
  clear h hT hH hN2 hEP
  have wA : Hid (Old w ((w.alloc (.cells #[.int .i64 N] 3)).alloc (.cells #[.slice none 0 0, .slice none 0 0] 87))) := ((Old.refl w).alloc _).alloc _
  have cN : ((w.alloc (.cells #[.int .i64 N] 3)).alloc (.cells #[.slice none 0 0, .slice none 0 0] 87)).cell? ⟨w.heap.size, 0, none⟩ = some (.int .i64 N) := ((Old.refl (w.alloc (.cells #[.int .i64 N] 3))).alloc _).cell (p := ⟨w.heap.size, 0, none⟩) (by simp) |>.trans (cell_at _ _ _ _ _ rfl)
  have HSZ : Hid (((w.alloc (.cells #[.int .i64 N] 3)).alloc (.cells #[.slice none 0 0, .slice none 0 0] 87)).heap.size = w.heap.size + 1 + 1) := by show _ = _; simp
  go_enter Tryd.func63, Tryd.ntmps63
  go_wp2_with (at_make; refine wpList_make_full _ rfl _ _ 85 rfl w.heap.size 91 i0 (.agg #[.int .i64 0, .int .i64 0]) 2 Tryd.underlying85 hi hz0 hz1 .i64 .i64 _ _ N rfl rfl rfl rfl (by rw [hz2]; omega) (by unfold maxLen; omega) (by simp; omega) ?_; intro w1 hown hgrow; rw [HSZ.out] at hown ⊢)
  have HO : Hid (w1.ownsRow w.heap.size 91 2 (.slice (some ⟨w.heap.size + 1 + 1, 0, none⟩) N N) N (F 0)) := by
    show World.ownsRow _ _ _ _ _ _ _
    rw [H0.out, ← made_pts]
    exact hown
  have HG1 : Hid (Old w w1) := Below.grown wA.out hgrow (by simp; omega) (fun _ h => by cases h)
  have hs1 : w.heap.size + 1 + 1 < w1.heap.size := by
    have := (hown.lt (w.heap.size + 1 + 1) (by simp [Value.ownBlock])).2
    exact this
  have cN1 : w1.cell? ⟨w.heap.size, 0, none⟩ = some (.int .i64 N) := (Below.grown (Below.refl _ _) hgrow (Nat.le_refl _) (fun _ h => by cases h) : Old ((w.alloc (.cells #[.int .i64 N] 3)).alloc (.cells #[.slice none 0 0, .slice none 0 0] 87)) w1).cell (p := ⟨w.heap.size, 0, none⟩) (by simp; omega) |>.trans cN
  have cR1 : StS w1 (w.heap.size + 1) (.slice none 0 0) (.slice none 0 0) 87 := by
    have g1 : Old ((w.alloc (.cells #[.int .i64 N] 3)).alloc (.cells #[.slice none 0 0, .slice none 0 0] 87)) w1 := Below.grown (Below.refl _ _) hgrow (Nat.le_refl _) (fun _ h => by cases h)
    have h5 := heap_alloc_new (w.alloc (.cells #[.int .i64 N] 3)) (.cells #[.slice none 0 0, .slice none 0 0] 87)
    rw [show (w.alloc (.cells #[.int .i64 N] 3)).heap.size = w.heap.size + 1 from by simp] at h5
    exact (g1.block (w.heap.size + 1) (by rw [HSZ.out]; omega)).trans h5
  have CR1 : Hid (StS w1 (w.heap.size + 1) (.slice none 0 0) (.slice none 0 0) 87) := cR1
  have CN1 : Hid (w1.cell? ⟨w.heap.size, 0, none⟩ = some (.int .i64 N)) := cN1
  clear hown hgrow cN1 cN cR1
  go_wp2_with fail
  refine (cin.out _ _).mono ?_
  rintro e w2 ⟨rfl, g2⟩
  have HO2 : Hid (w2.ownsRow w.heap.size 91 2 (.slice (some ⟨w.heap.size + 1 + 1, 0, none⟩) N N) N (F 0)) := own_old HO.out g2
  have HG2 : Hid (Old w w2) := Old.trans HG1.out g2
  have CN2 : Hid (w2.cell? ⟨w.heap.size, 0, none⟩ = some (.int .i64 N)) := (g2.cell (p := ⟨w.heap.size, 0, none⟩) (show w.heap.size < w1.heap.size by omega)).trans CN1.out
  have CR2 : Hid (StS w2 (w.heap.size + 1) (.slice none 0 0) (.slice none 0 0) 87) := (g2.block (w.heap.size + 1) (by omega)).trans CR1.out
  have hs2 : w.heap.size + 1 + 1 < w2.heap.size := Nat.lt_of_lt_of_le hs1 g2.size
  clear g2 HO HG1 CN1 CR1 hs1
  obtain ⟨rb, hrb⟩ : ∃ rb, w2.heap.size = rb := ⟨_, rfl⟩
  obtain ⟨w3, hw3⟩ : ∃ w3, w2.alloc (.cells #[.slice (some ⟨w.heap.size + 1 + 1, 0, none⟩) H N, .slice (some ⟨w.heap.size + 1 + 1, H * 2, none⟩) H H] 87) = w3 := ⟨_, rfl⟩
  have g3 : Old w2 w3 := by rw [← hw3]; exact (Old.refl w2).alloc _
  have HO3 : Hid (w3.ownsRow w.heap.size 91 2 (.slice (some ⟨w.heap.size + 1 + 1, 0, none⟩) N N) N (F 0)) := own_old HO2.out g3
  have HG3 : Hid (Old w w3) := Old.trans HG2.out g3
  have CN3 : Hid (w3.cell? ⟨w.heap.size, 0, none⟩ = some (.int .i64 N)) := (g3.cell (p := ⟨w.heap.size, 0, none⟩) (show w.heap.size < w2.heap.size by omega)).trans CN2.out
  have CR3 : Hid (StS w3 (w.heap.size + 1) (.slice none 0 0) (.slice none 0 0) 87) := (g3.block (w.heap.size + 1) (by omega)).trans CR2.out
  have CB3 : Hid (StS w3 rb (.slice (some ⟨w.heap.size + 1 + 1, 0, none⟩) H N) (.slice (some ⟨w.heap.size + 1 + 1, H * 2, none⟩) H H) 87) := by
    show w3.heap[rb]? = _
    rw [← hw3, ← hrb]
    exact heap_alloc_new w2 _
  have hs3 : rb < w3.heap.size := by rw [← hw3, ← hrb]; simp
  have hrb2 : w.heap.size + 1 + 1 < rb := by omega
  have x1 := CN3.out
  clear g3 HO2 HG2 CN2 CR2 hs2
  go_wp2_with fail
  go_loopw [5, 13] (fun x i W => ∃ k : Nat, k ≤ H ∧ i = .int .i64 k ∧ x = .int .i64 (E k) ∧ Hid (W.ownsRow w.heap.size 91 2 (.slice (some ⟨w.heap.size + 1 + 1, 0, none⟩) N N) N (F k)) ∧ Hid (Old w W) ∧ Hid (W.cell? ⟨w.heap.size, 0, none⟩ = some (.int .i64 N)) ∧ Hid (StS W (w.heap.size + 1) (.slice none 0 0) (.slice none 0 0) 87) ∧ Hid (StS W rb (.slice (some ⟨w.heap.size + 1 + 1, 0, none⟩) H N) (.slice (some ⟨w.heap.size + 1 + 1, H * 2, none⟩) H H) 87)) (fun _ i _ => H - (intOf i).toNat)
  case atStart => exact ⟨0, by omega, rfl, by rw [HE0.out]; rfl, HO3, HG3, CN3, CR3, CB3⟩
  case round =>
    obtain ⟨k, hk, rfl, rfl, HO, HG, CN, CR, CB⟩ := hrel
    clear HO3 HG3 CN3 CR3 CB3 x1 hw3
    have x1 := CN.out
    by_cases hlt : k < H
    · have d1 : decide ((k : Int) < (H : Int)) = true := by simp; omega
      have hb := HB.out k
      have hp := HEP.out k
      have HFS : Hid (F (k + 1) = ((((F k).set (k * 2) (.int .i64 (E k))).set (k * 2 + 1) (.int .i64 (pl (E k)))).set (H * 2 + k * 2) (.int .i64 ((2 * N - E k : Nat) : Int))).set (H * 2 + k * 2 + 1) (.int .i64 (pl (2 * N - E k)))) := HS.out k
      have HFL : Hid ((F k).length = 2 * N) := HL.out k
      have HES' : Hid (E (k + 1) = 3 * E k % (2 * N)) := HES.out k
      generalize E k = x at *
      have hx2 : 2 * (N : Int) - (x : Int) = ((2 * N - x : Nat) : Int) := by omega
      have hb2 : 2 * N - x < 2 * N := by omega
      go_wp2_with fail
      refine reg_sp wr w.heap.size (w.heap.size + 1 + 1) rb w.heap.size H N N k x (pl x) (2 * N - x) (pl (2 * N - x)) (F k) HO.out HFL.out HN2.out hlt (by omega) (by omega) hb hx2 (by have := CB.out; exact (cell_of_row _ _ _ _ _ _ this).trans rfl) (by have := CB.out; exact (cell_of_row _ _ _ _ _ _ this).trans rfl) CN.out (by omega) (by omega) (fun W q => (HPW.out x w.heap.size W hb (HT.out.old (Old.trans HG.out q)) ((q.cell (p := ⟨w.heap.size, 0, none⟩) (block_lt_of_cell CN.out)).trans CN.out)).mono (fun en w' h => ⟨_, h.1, rfl, h.2⟩)) (fun W q => (HPW.out (2 * N - x) w.heap.size W hb2 (HT.out.old (Old.trans HG.out q)) ((q.cell (p := ⟨w.heap.size, 0, none⟩) (block_lt_of_cell CN.out)).trans CN.out)).mono (fun en w' h => ⟨_, h.1, rfl, h.2⟩)) _ _ ?_ ?_ ?_ ?_ ?_ ?_ ?_
      iterate 6 (· exact rfl)
      intro us W q
      simp only [putAll, Act.put, slotSp, List.range, List.range.loop, List.map_cons, List.map_nil, List.getD_cons_zero, List.getD_cons_succ, List.setIfInBounds_toArray, List.set_cons_succ, List.set_cons_zero]
      have O0 := own_old HO.out q
      have O4 := (World.ownsRow.stored (World.ownsRow.stored (World.ownsRow.stored (World.ownsRow.stored O0 (k * 2) (.int .i64 x)).1 (k * 2 + 1) (.int .i64 (pl x))).1 (H * 2 + k * 2) (.int .i64 ((2 * N - x : Nat) : Int))).1 (H * 2 + k * 2 + 1) (.int .i64 (pl (2 * N - x)))).1
      rw [← HFS.out] at O4
      have q0 := Old.trans HG.out q
      have Q4 : Old w ((((W.setCell ⟨w.heap.size + 1 + 1, k * 2, none⟩ (.int .i64 x)).setCell ⟨w.heap.size + 1 + 1, k * 2 + 1, none⟩ (.int .i64 (pl x))).setCell ⟨w.heap.size + 1 + 1, H * 2 + k * 2, none⟩ (.int .i64 ((2 * N - x : Nat) : Int))).setCell ⟨w.heap.size + 1 + 1, H * 2 + k * 2 + 1, none⟩ (.int .i64 (pl (2 * N - x)))) := (((q0.own (p := ⟨w.heap.size + 1 + 1, k * 2, none⟩) (by simp; omega) _).own (p := ⟨w.heap.size + 1 + 1, k * 2 + 1, none⟩) (by simp; omega) _).own (p := ⟨w.heap.size + 1 + 1, H * 2 + k * 2, none⟩) (by simp; omega) _).own (p := ⟨w.heap.size + 1 + 1, H * 2 + k * 2 + 1, none⟩) (by simp; omega) _
      have blk : ∀ b, b ≠ w.heap.size + 1 + 1 → ((((W.setCell ⟨w.heap.size + 1 + 1, k * 2, none⟩ (.int .i64 x)).setCell ⟨w.heap.size + 1 + 1, k * 2 + 1, none⟩ (.int .i64 (pl x))).setCell ⟨w.heap.size + 1 + 1, H * 2 + k * 2, none⟩ (.int .i64 ((2 * N - x : Nat) : Int))).setCell ⟨w.heap.size + 1 + 1, H * 2 + k * 2 + 1, none⟩ (.int .i64 (pl (2 * N - x)))).heap[b]? = W.heap[b]? := fun b hb => by
        rw [heap_setCell_other _ _ b _ hb, heap_setCell_other _ _ b _ hb, heap_setCell_other _ _ b _ hb, heap_setCell_other _ _ b _ hb]
      have hne0 : w.heap.size ≠ w.heap.size + 1 + 1 := by omega
      have CN4 : ((((W.setCell ⟨w.heap.size + 1 + 1, k * 2, none⟩ (.int .i64 x)).setCell ⟨w.heap.size + 1 + 1, k * 2 + 1, none⟩ (.int .i64 (pl x))).setCell ⟨w.heap.size + 1 + 1, H * 2 + k * 2, none⟩ (.int .i64 ((2 * N - x : Nat) : Int))).setCell ⟨w.heap.size + 1 + 1, H * 2 + k * 2 + 1, none⟩ (.int .i64 (pl (2 * N - x)))).cell? ⟨w.heap.size, 0, none⟩ = some (.int .i64 N) := by
        rw [cellOS _ _ _ _ hne0, cellOS _ _ _ _ hne0, cellOS _ _ _ _ hne0, cellOS _ _ _ _ hne0]
        exact (q.cell (p := ⟨w.heap.size, 0, none⟩) (block_lt_of_cell CN.out)).trans CN.out
      have CR4 : ((((W.setCell ⟨w.heap.size + 1 + 1, k * 2, none⟩ (.int .i64 x)).setCell ⟨w.heap.size + 1 + 1, k * 2 + 1, none⟩ (.int .i64 (pl x))).setCell ⟨w.heap.size + 1 + 1, H * 2 + k * 2, none⟩ (.int .i64 ((2 * N - x : Nat) : Int))).setCell ⟨w.heap.size + 1 + 1, H * 2 + k * 2 + 1, none⟩ (.int .i64 (pl (2 * N - x)))).heap[w.heap.size + 1]? = some (.cells #[.slice none 0 0, .slice none 0 0] 87 (0, 0)) := by
        rw [blk (w.heap.size + 1) (by omega)]
        exact (q.block (w.heap.size + 1) (lt_of_some CR.out)).trans CR.out
      have CB4 : ((((W.setCell ⟨w.heap.size + 1 + 1, k * 2, none⟩ (.int .i64 x)).setCell ⟨w.heap.size + 1 + 1, k * 2 + 1, none⟩ (.int .i64 (pl x))).setCell ⟨w.heap.size + 1 + 1, H * 2 + k * 2, none⟩ (.int .i64 ((2 * N - x : Nat) : Int))).setCell ⟨w.heap.size + 1 + 1, H * 2 + k * 2 + 1, none⟩ (.int .i64 (pl (2 * N - x)))).heap[rb]? = some (.cells #[.slice (some ⟨w.heap.size + 1 + 1, 0, none⟩) H N, .slice (some ⟨w.heap.size + 1 + 1, H * 2, none⟩) H H] 87 (0, 0)) := by
        rw [blk rb (by omega)]
        exact (q.block rb (lt_of_some CB.out)).trans CB.out
      clear blk q0 q O0 x1 HO HG CN CR CB
      generalize ((((W.setCell ⟨w.heap.size + 1 + 1, k * 2, none⟩ (.int .i64 x)).setCell ⟨w.heap.size + 1 + 1, k * 2 + 1, none⟩ (.int .i64 (pl x))).setCell ⟨w.heap.size + 1 + 1, H * 2 + k * 2, none⟩ (.int .i64 ((2 * N - x : Nat) : Int))).setCell ⟨w.heap.size + 1 + 1, H * 2 + k * 2 + 1, none⟩ (.int .i64 (pl (2 * N - x)))) = W4 at *
      have O4' : Hid (W4.ownsRow w.heap.size 91 2 (.slice (some ⟨w.heap.size + 1 + 1, 0, none⟩) N N) N (F (k + 1))) := O4
      have Q4' : Hid (Old w W4) := Q4
      have CR4' : Hid (StS W4 (w.heap.size + 1) (.slice none 0 0) (.slice none 0 0) 87) := CR4
      have CB4' : Hid (StS W4 rb (.slice (some ⟨w.heap.size + 1 + 1, 0, none⟩) H N) (.slice (some ⟨w.heap.size + 1 + 1, H * 2, none⟩) H H) 87) := CB4
      have CN4' : Hid (W4.cell? ⟨w.heap.size, 0, none⟩ = some (.int .i64 N)) := CN4
      have e3 : (x : Int) * 3 = ((3 * x : Nat) : Int) := by omega
      have e4 : ((3 * x : Nat) : Int) % (2 * (N : Int)) = ((3 * x % (2 * N) : Nat) : Int) := by simp
      have hx3 : 3 * x ≤ 96 := by omega
      clear O4 Q4 CR4 CB4 hx2 hb2 HFS
      generalize 3 * x = m at *
      generalize m % (2 * N) = y at *
      go_wp2_with fail
      exact ⟨⟨k + 1, by omega, by go_num, by rw [HES'.out]; first | rfl | go_num, O4', Q4', CN4', CR4', CB4'⟩, by simp [intOf]; omega⟩
    · have d1 : decide ((k : Int) < (H : Int)) = false := by simp; omega
      obtain rfl : k = H := by omega
      have y0 : wr.cell? ⟨rb, 0, none⟩ = some (.slice (some ⟨w.heap.size + 1 + 1, 0, none⟩) k N) := (cell_of_row _ _ _ _ _ _ CB.out).trans rfl
      have y1 : wr.cell? ⟨rb, 1, none⟩ = some (.slice (some ⟨w.heap.size + 1 + 1, k * 2, none⟩) k k) := (cell_of_row _ _ _ _ _ _ CB.out).trans rfl
      have y2 : wr.cell? ⟨w.heap.size + 1, 0, none⟩ = some (.slice none 0 0) := (cell_of_row _ _ _ _ _ _ CR.out).trans rfl
      have y3 : wr.cell? ⟨w.heap.size + 1, 1, none⟩ = some (.slice none 0 0) := (cell_of_row _ _ _ _ _ _ CR.out).trans rfl
      have y4 : wr.frozen? ⟨w.heap.size + 1, 0, none⟩ = false := frozen_of_row CR.out 0
      have y5 : wr.frozen? ⟨w.heap.size + 1, 1, none⟩ = false := frozen_of_row CR.out 1
      have HOF : Hid ((((wr.setCell ⟨w.heap.size + 1, 0, none⟩ (.slice (some ⟨w.heap.size + 1 + 1, 0, none⟩) k N)).setCell ⟨w.heap.size + 1, 1, none⟩ (.slice (some ⟨w.heap.size + 1 + 1, k * 2, none⟩) k k))).ownsRow w.heap.size 91 2 (.slice (some ⟨w.heap.size + 1 + 1, 0, none⟩) N N) N (F k)) := own_far HO.out (fun b hb => by
        simp [Value.ownBlock] at hb
        subst hb
        rw [heap_setCell_other _ _ _ _ (by simp), heap_setCell_other _ _ _ _ (by simp)])
      have HGF : Hid (Old w ((wr.setCell ⟨w.heap.size + 1, 0, none⟩ (.slice (some ⟨w.heap.size + 1 + 1, 0, none⟩) k N)).setCell ⟨w.heap.size + 1, 1, none⟩ (.slice (some ⟨w.heap.size + 1 + 1, k * 2, none⟩) k k))) := (HG.out.own (p := ⟨w.heap.size + 1, 0, none⟩) (by simp) _).own (p := ⟨w.heap.size + 1, 1, none⟩) (by simp) _
      go_wp2_with fail
      exact bodyPost_ret (v := .agg #[.slice (some ⟨w.heap.size + 1 + 1, 0, none⟩) k N, .slice (some ⟨w.heap.size + 1 + 1, k * 2, none⟩) k k]) (by simp [results, Tryd.results63, go_sem, y2, y3]) rfl ⟨w.heap.size + 1 + 1, by omega, rfl, HGF.out, HOF.out⟩
end Go.Proofs.YtpebikjckhcgfaaDoor
/- Proved: contracts of TurnOfRows and TurnOfSwap, of the program and of the model. -/
namespace Go.Proofs.YtpebikjckhcgfaaDoor
open Go.ChangeShapes Go.WideShapes Go.ChangeAt Go.RowKit
set_option linter.unusedVariables false
set_option linter.unusedSimpArgs false
theorem flat2 (f g : Nat → Value) : ∀ (l : List Nat) (j : Nat), j < l.length → (l.flatMap fun e => [f e, g e])[j * 2]? = some (f (l.getD j 0)) ∧ (l.flatMap fun e => [f e, g e])[j * 2 + 1]? = some (g (l.getD j 0))
  | [], j, h => by simp at h
  | x :: l, 0, h => by simp
  | x :: l, j + 1, h => by
    have := flat2 f g l j (by simpa using h)
    rw [List.flatMap_cons, show (j + 1) * 2 = j * 2 + 2 by omega]
    simpa using this
theorem flat2_len (f g : Nat → Value) : ∀ (l : List Nat), (l.flatMap fun e => [f e, g e]).length = l.length * 2
  | [] => rfl
  | x :: l => by
    rw [List.flatMap_cons, List.length_append, flat2_len f g l]
    simp
    omega
/-- points that lie in memory -/
abbrev OwP (w : World) (base g N : Nat) : Prop := w.ownsRow base 91 2 (.slice (some ⟨g, 0, none⟩) N N) N (ptC N)
theorem OwP.get {w : World} {base g N : Nat} (h : OwP w base g N) (hz : Sz4 N) (j : Nat) (hj : j < N) : w.cell? ⟨g, j * 2, none⟩ = some (.int .i64 ((exL N).getD j 0 : Nat)) ∧ w.cell? ⟨g, j * 2 + 1, none⟩ = some (.int .i64 (plN N ((exL N).getD j 0))) := by
  have hl := exL_len hz
  have hf := flat2 (fun (e : Nat) => .int .i64 e) (fun (e : Nat) => .int .i64 (plN N e)) (exL N) j (by omega)
  have hc : (ptC N).length = N * 2 := by unfold ptC; rw [flat2_len (fun (e : Nat) => .int .i64 e) (fun (e : Nat) => .int .i64 (plN N e)), hl]
  exact ⟨(World.ownsRow.cellAt h (j * 2) (by omega)).trans hf.1, (World.ownsRow.cellAt h (j * 2 + 1) (by omega)).trans hf.2⟩
theorem rows_first (a : Option Addr) (n c : Nat) (b : Option Addr) (m d : Nat) (w : World) : (Instr.field 87 (.agg #[.slice a n c, .slice b m d]) 0).run Tryd.prog w = .ok (.slice a n c) w := by kernel_rfl
theorem rows_second (a : Option Addr) (n c : Nat) (b : Option Addr) (m d : Nat) (w : World) : (Instr.field 87 (.agg #[.slice a n c, .slice b m d]) 1).run Tryd.prog w = .ok (.slice b m d) w := by kernel_rfl
set_option maxRecDepth 100000 in
set_option maxHeartbeats 1000000 in
theorem impl_TurnOfRows_no (n k : Int) (w : World) (h : (rgB n && resB k (n / 2)) = false) :
    Calls Tryd.prog 34 #[.int .i64 n, .int .i64 k] w fun e w' => e = .returned (.tuple #[.int .i64 0, .bool false]) ∧ Old w w' := by
  have c0 := fun W => impl_isSize n W
  cases hs : rgB n
  · rw [hs] at c0
    clear h hs
    go_enter Tryd.func34, Tryd.ntmps34
    go_wp2_with fail
    refine (c0 _).mono ?_
    rintro e w1 ⟨rfl, hw⟩
    obtain rfl := hw.symm
    go_wp2_with fail
    go_ret2
    exact ⟨rfl, Old.refl _⟩
  · rw [hs] at c0
    have hr : resB k (n / 2) = false := by rw [hs] at h; simpa using h
    have hz := rgB_yes hs
    obtain ⟨q, hq⟩ : ∃ q, n / 2 = q := ⟨_, rfl⟩
    have c1 := fun W => residue_any k q W
    rw [hq] at hr
    rw [hr] at c1
    have hb : 2 ≤ n ∧ n ≤ 16 := by omega
    clear h hs hz
    go_enter Tryd.func34, Tryd.ntmps34
    go_wp2_with fail
    refine (c0 _).mono ?_
    rintro e w1 ⟨rfl, hw⟩
    obtain rfl := hw.symm
    go_wp2_with fail
    refine (c1 _).mono ?_
    rintro e w1 ⟨rfl, hw⟩
    obtain rfl := hw.symm
    go_wp2_with fail
    go_ret2
    exact ⟨rfl, Old.refl _⟩
set_option maxRecDepth 100000 in
set_option maxHeartbeats 1000000 in
theorem impl_TurnOfRows_yes (N K : Nat) (w : World) (h : Sz4 N) (hK : K < N / 2) (hT : TabW w) :
    Calls Tryd.prog 34 #[.int .i64 N, .int .i64 K] w fun e w' => e = .returned (.tuple #[.int .i64 ((exL N).getD K 0 : Nat), .bool true]) ∧ Old w w' := by
  have c0 := fun W => impl_isSize N W
  rw [rgB_mk (by omega)] at c0
  obtain ⟨H, hH⟩ : ∃ H, N / 2 = H := ⟨_, rfl⟩
  have eh : (N : Int) / 2 = (H : Int) := by omega
  have c1 := fun W => residue_any K H W
  rw [show resB (K : Int) (H : Int) = true from by simp [resB]; omega] at c1
  have c2 := fun W hT => slotPointsOf_any N W h hT
  rw [hH] at c2 hK
  have HGT : Hid (∀ W base g, OwP W base g N → W.cell? ⟨g, K * 2, none⟩ = some (.int .i64 ((exL N).getD K 0 : Nat))) := fun W base g ho => (ho.get h K (by omega)).1
  have HT : Hid (TabW w) := hT
  have hb := sz_bd h
  have hKi : (K : Int) < (H : Int) := by omega
  have HPT : Hid (ptC N = ptC N) := rfl
  generalize (exL N).getD K 0 = x at *
  clear h hT hH
  go_enter Tryd.func34, Tryd.ntmps34
  go_wp2_with fail
  refine (c0 _).mono ?_
  rintro e w1 ⟨rfl, hw⟩
  obtain rfl := hw.symm
  go_wp2_with fail
  refine (c1 _).mono ?_
  rintro e w1 ⟨rfl, hw⟩
  obtain rfl := hw.symm
  go_wp2_with fail
  refine (c2 _ HT.out).mono ?_
  rintro e w1 ⟨g, hg, rfl, g1, o1⟩
  have x1 := HGT.out _ _ _ o1
  have HG : Hid (Old w w1) := g1
  clear o1 g1
  have hfd := rows_first (some ⟨g, 0, none⟩) H N (some ⟨g, H * 2, none⟩) H H w1
  go_wp2_with fail
  go_ret2
  exact ⟨rfl, HG.out⟩
set_option maxRecDepth 100000 in
set_option maxHeartbeats 1000000 in
theorem impl_TurnOfSwap_any (n : Int) (w : World) (hT : TabW w) (z : Int) (ok : Bool) (hok : rgB n = ok) (h1 : ok = true → z = 2 * n - 1) (h0 : ok = false → z = 0) :
    Calls Tryd.prog 36 #[.int .i64 n] w fun e w' => e = .returned (.tuple #[.int .i64 z, .bool ok]) ∧ Old w w' := by
  have c0 := fun W => impl_isSize n W
  rw [hok] at c0
  cases ok
  · obtain rfl := h0 rfl
    clear h1 h0 hok hT
    go_enter Tryd.func36, Tryd.ntmps36
    go_wp2_with fail
    refine (c0 _).mono ?_
    rintro e w1 ⟨rfl, hw⟩
    obtain rfl := hw.symm
    go_wp2_with fail
    go_ret2
    exact ⟨rfl, Old.refl _⟩
  · have hz := rgB_yes hok
    obtain ⟨N, rfl⟩ := Int.eq_ofNat_of_zero_le (show 0 ≤ n by omega)
    have hS : Sz4 N := by omega
    have hzz : z = ((2 * N - 1 : Nat) : Int) := by rw [h1 rfl]; omega
    obtain ⟨H, hH⟩ : ∃ H, N / 2 = H := ⟨_, rfl⟩
    have c2 := fun W hT => slotPointsOf_any N W hS hT
    rw [hH] at c2
    have HGT : Hid (∀ W base g, OwP W base g N → W.cell? ⟨g, H * 2, none⟩ = some (.int .i64 z)) := fun W base g ho => by
      have h3 := (ho.get hS H (by omega)).1
      have h4 := exL_high hS 0 (by omega)
      rw [Nat.add_zero, hH] at h4
      rw [h4] at h3
      rw [h3, hzz]
      rfl
    have HT : Hid (TabW w) := hT
    have hb := sz_bd hS
    have hH0 : (0 : Int) < (H : Int) := by omega
    have hH1 : 0 < H := by omega
    clear h1 h0 hok hz hS hT hH hzz
    go_enter Tryd.func36, Tryd.ntmps36
    go_wp2_with fail
    refine (c0 _).mono ?_
    rintro e w1 ⟨rfl, hw⟩
    obtain rfl := hw.symm
    go_wp2_with fail
    refine (c2 _ HT.out).mono ?_
    rintro e w1 ⟨g, hg, rfl, g1, o1⟩
    have x1 := HGT.out _ _ _ o1
    have HG : Hid (Old w w1) := g1
    clear o1 g1
    have hfd := rows_second (some ⟨g, 0, none⟩) H N (some ⟨g, H * 2, none⟩) H H w1
    go_wp2_with fail
    go_ret2
    exact ⟨rfl, HG.out⟩
end Go.Proofs.YtpebikjckhcgfaaDoor
/- Proved: the statements on TurnOfRows and TurnOfSwap at every argument, in a world in which the table of bits is laid. -/
namespace Go.Proofs.YtpebikjckhcgfaaDoor
open Go.ChangeShapes Go.WideShapes Go.ChangeAt Go.RowKit
set_option linter.unusedVariables false
theorem TurnOfRows_any (n k : Int) (w : World) (hT : TabW w) :
    Calls Tryd.prog 8 #[.int .i64 n, .int .i64 k] w fun e w' => e = .returned (.bool true) ∧ Old w w' := by
  cases hok : (rgB n && resB k (n / 2))
  · exact law_TurnOfRows n k w hT false 0 (fun W => spec_TurnOfRows_no n k W hok) (fun W _ => impl_TurnOfRows_no n k W hok)
  · have hk : rgB n = true ∧ resB k (n / 2) = true := by simpa using hok
    have hz := rgB_yes hk.1
    obtain ⟨N, rfl⟩ := Int.eq_ofNat_of_zero_le (show 0 ≤ n by omega)
    have hr : 0 ≤ k ∧ k < (N : Int) / 2 := by simpa [resB] using hk.2
    obtain ⟨K, rfl⟩ := Int.eq_ofNat_of_zero_le hr.1
    have hS : Sz4 N := by omega
    have hK : K < N / 2 := by omega
    exact law_TurnOfRows _ _ w hT true _ (fun W => spec_TurnOfRows_yes N K W hS hK) (fun W hT => impl_TurnOfRows_yes N K W hS hK hT)
theorem TurnOfSwap_any (n : Int) (w : World) (hT : TabW w) :
    Calls Tryd.prog 9 #[.int .i64 n] w fun e w' => e = .returned (.bool true) ∧ Old w w' := by
  cases hok : rgB n
  · exact law_TurnOfSwap n w hT false 0 (fun W => spec_TurnOfSwap_any n W 0 false hok (fun h => by cases h) (fun _ => rfl)) (fun W hT => impl_TurnOfSwap_any n W hT 0 false hok (fun h => by cases h) (fun _ => rfl))
  · exact law_TurnOfSwap n w hT true (2 * n - 1) (fun W => spec_TurnOfSwap_any n W _ true hok (fun _ => rfl) (fun h => by cases h)) (fun W hT => impl_TurnOfSwap_any n W hT _ true hok (fun _ => rfl) (fun h => by cases h))
end Go.Proofs.YtpebikjckhcgfaaDoor
