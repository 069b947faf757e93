/- Proved: several texts in one: what each proves is said ahead of it. -/
import Derived.Test.YtanijpekdnkicaaGreatDoorWq18
import Derived.KernelRfl
import Derived.Test.YtanijpekdnkicaaGreatDoorWq04
/- Proved: the two drawn regions of the model's product in a ring: a number is added to one place, or taken away. -/
namespace Go.Proofs.YtanijpekdnkicaaGreatDoor
open Go.ChangeShapes Go.WideShapes Go.ChangeAt Go.RowKit
set_option linter.unusedVariables false
set_option linter.unusedSimpArgs false
def regionAtmul (n : Nat) : Code → Option Code
  | .region i ops b => if i = n then some (.region i ops b) else none
  | .seq a b => match regionAtmul n a with
    | some c => some c
    | none => regionAtmul n b
  | .block _ c => regionAtmul n c
  | .loop c => regionAtmul n c
  | .cond _ a b => match regionAtmul n a with
    | some c => some c
    | none => regionAtmul n b
  | _ => none
end Go.Proofs.YtanijpekdnkicaaGreatDoor
/- Proved: drawn regions of the program's bounds. -/
namespace Go.Proofs.YtanijpekdnkicaaGreatDoor
open Go.ChangeShapes Go.WideShapes Go.ChangeAt Go.RowKit
set_option linter.unusedVariables false
set_option linter.unusedSimpArgs false
theorem op_guard {P : Program} {d : Option Tmp} {op : Op} {ty : TypeId} {pos : String} {af : Array Edge} {gd : Option (Nat × Bool)} {a : Act} {W : World} {K : Act → World → Prop} {Q : Exit → Act → World → Prop} (h : Oper.wp P ⟨d, op, ty, pos, af, none⟩ a W K Q) : Oper.wp P ⟨d, op, ty, pos, af, gd⟩ a W K Q := h
end Go.Proofs.YtanijpekdnkicaaGreatDoor
/- Proved: drawn regions of the program's isGoodBox. -/
namespace Go.Proofs.YtanijpekdnkicaaGreatDoor
open Go.ChangeShapes Go.WideShapes Go.ChangeAt Go.RowKit
set_option linter.unusedVariables false
set_option linter.unusedSimpArgs false
def slotGba (i : Nat) : Nat := [9, 10, 11, 12, 13, 14, 15, 16, 17, 18, 19, 20, 21, 22, 23, 24, 25, 26, 27, 28, 29, 30, 5].getD i 0
theorem slotGba_lt : ∀ i, i < 23 → slotGba i < 89 := by decide
theorem slotGba_inj : ∀ i, i < 23 → ∀ j, j < 23 → slotGba i = slotGba j → i = j := by decide
theorem slotGba_no3 : ∀ i, i < 23 → slotGba i ≠ 3 := by decide
def qGba (bx : Nat) (kd N T E : Int) (a0 : Option Addr) (l0 c0 : Nat) (a1 : Option Addr) (l1 c1 : Nat) (a2 : Option Addr) (l2 c2 : Nat) (sg : Bool) (a3 : Option Addr) (l3 c3 : Nat) (a4 : Option Addr) (l4 c4 : Nat)  (i : Nat) (W : World) (x : Value) : Prop :=
  match i with
  | 0 => x = .pointer (some ⟨bx, 5, none⟩)
  | 1 => x = .slice a1 l1 c1
  | 2 => x = .int .i64 (l1 : Int)
  | 3 => x = .bool ((l1 : Int) == 0)
  | 4 => x = .pointer (some ⟨bx, 6, none⟩)
  | 5 => x = .pointer (some ⟨bx, 6, none⟩)
  | 6 => x = .slice a2 l2 c2
  | 7 => x = .int .i64 (l2 : Int)
  | 8 => x = .bool false
  | 9 => x = .bool false
  | 10 => True
  | 11 => True
  | 12 => True
  | 13 => True
  | 14 => True
  | 15 => x = .bool false
  | 16 => x = .bool false
  | 17 => True
  | 18 => True
  | 19 => True
  | 20 => True
  | 21 => x = .bool false
  | 22 => x = .bool ((l1 : Int) == 0)
  | _ => True
theorem qGba_old (bx : Nat) (kd N T E : Int) (a0 : Option Addr) (l0 c0 : Nat) (a1 : Option Addr) (l1 c1 : Nat) (a2 : Option Addr) (l2 c2 : Nat) (sg : Bool) (a3 : Option Addr) (l3 c3 : Nat) (a4 : Option Addr) (l4 c4 : Nat)   (i : Nat) (W W' : World) (x : Value) (h : qGba bx kd N T E a0 l0 c0 a1 l1 c1 a2 l2 c2 sg a3 l3 c3 a4 l4 c4  i W x) (qo : Old W W') : qGba bx kd N T E a0 l0 c0 a1 l1 c1 a2 l2 c2 sg a3 l3 c3 a4 l4 c4  i W' x := by
  unfold qGba at h ⊢
  split at h
  all_goals first | exact h | trivial
set_option maxRecDepth 100000 in
set_option maxHeartbeats 8000000 in
theorem reg_Gba (w0 : World) (bx : Nat) (kd N T E : Int) (a0 : Option Addr) (l0 c0 : Nat) (a1 : Option Addr) (l1 c1 : Nat) (a2 : Option Addr) (l2 c2 : Nat) (sg : Bool) (a3 : Option Addr) (l3 c3 : Nat) (a4 : Option Addr) (l4 c4 : Nat)     (b_bx : w0.heap[bx]? = some (.cells #[.int .i64 kd, .int .i64 N, .int .i64 T, .int .i64 E, .slice a0 l0 c0, .slice a1 l1 c1, .slice a2 l2 c2, .bool sg, .slice a3 l3 c3, .slice a4 l4 c4] 59 (0, 0))) 
    (h2 : ((l2 : Int) == 0) = false)
    
    (Q : Exit → Act → World → Prop) (b0 : Act) (hsz : b0.tmps.size = 89) (ha3 : b0.eval (.tmp 3) = .pointer (some ⟨bx, 0, none⟩))
    (HK : Hid (∀ (us : Nat → Value) (W : World) , Old w0 W → us 22 = .bool ((l1 : Int) == 0) → Q .normal ((putAll b0 ((List.range 23).map fun i => (slotGba i, us i))).put (some 6) (.bool false)) W)) :
    Code.wp Tryz.prog ((Tryz.f100.body.bind (regionAtmul 1)).getD .skip) Q b0 w0 := by
  conv => arg 2; whnf
  have px_bx : ∀ W, Old w0 W → W.heap[bx]? = some (.cells #[.int .i64 kd, .int .i64 N, .int .i64 T, .int .i64 E, .slice a0 l0 c0, .slice a1 l1 c1, .slice a2 l2 c2, .bool sg, .slice a3 l3 c3, .slice a4 l4 c4] 59 (0, 0)) := fun W g => (g.block bx (lt_of_some b_bx)).trans b_bx
  have pc_bx_5 : ∀ W, Old w0 W → W.cell? ⟨bx, 5, none⟩ = some (.slice a1 l1 c1) := fun W g => cell_of_row W bx 5 _ _ (0, 0) (px_bx W g)
  have pc_bx_6 : ∀ W, Old w0 W → W.cell? ⟨bx, 6, none⟩ = some (.slice a2 l2 c2) := fun W g => cell_of_row W bx 6 _ _ (0, 0) (px_bx W g)
  refine wp_region_tailG 23 (by decide) (by kernel_rfl) (by kernel_rfl) (by kernel_rfl) (by kernel_rfl) (by kernel_rfl) slotGba (fun i hi => by rw [hsz]; exact slotGba_lt i hi) (fun i j hi hj => slotGba_inj i hi j hj) (qGba bx kd N T E a0 l0 c0 a1 l1 c1 a2 l2 c2 sg a3 l3 c3 a4 l4 c4  ) (qGba_old bx kd N T E a0 l0 c0 a1 l1 c1 a2 l2 c2 sg a3 l3 c3 a4 l4 c4  ) [] (fun i W v hi hq => by cases hi) ?_ ?_
  · refine ⟨?_, ?_, ?_, ?_, ?_, ?_, ?_, ?_, ?_, ?_, ?_, ?_, ?_, ?_, ?_, ?_, ?_, ?_, ?_, ?_, ?_, ?_, ?_, trivial⟩
    · intro a W g hF hd
      refine ⟨fun _ => ?_, fun h => by rw [wanted_none rfl] at h; cases h⟩
      have e3 := (hF.same 3 slotGba_no3).trans ha3
      obtain ⟨ρ, hρ⟩ : ∃ ρ, a.eval = ρ := ⟨_, rfl⟩
      rw [hρ] at e3
      refine op_val ρ hρ (.pointer (some ⟨bx, 5, none⟩)) ?_ ⟨_, rfl, Old.refl _, rfl, (fun h => absurd h (by decide))⟩
      clear g hF hd hρ HK  ha3 px_bx b_bx pc_bx_5 pc_bx_6 
      go_simp
      all_goals (first | (rw [IntKind.wrap_i64]; omega) | (rw [IntKind.wrap_u64]; omega) | omega)
    · intro a W g hF hd
      refine ⟨fun _ => ?_, fun h => by rw [wanted_none rfl] at h; cases h⟩
      have h0 : a.eval (.tmp 9) = .pointer (some ⟨bx, 5, none⟩) := hd ⟨0, .data⟩ (by simp) rfl
      have kk0 := pc_bx_5 W g
      obtain ⟨ρ, hρ⟩ : ∃ ρ, a.eval = ρ := ⟨_, rfl⟩
      rw [hρ] at h0
      refine op_val ρ hρ (.slice a1 l1 c1) ?_ ⟨_, rfl, Old.refl _, rfl, (fun h => absurd h (by decide))⟩
      clear g hF hd hρ HK  ha3 px_bx b_bx pc_bx_5 pc_bx_6 
      go_simp
      all_goals (first | (rw [IntKind.wrap_i64]; omega) | (rw [IntKind.wrap_u64]; omega) | omega)
    · intro a W g hF hd
      refine ⟨fun _ => ?_, fun h => by rw [wanted_none rfl] at h; cases h⟩
      have h1 : a.eval (.tmp 10) = .slice a1 l1 c1 := hd ⟨1, .data⟩ (by simp) rfl
      obtain ⟨ρ, hρ⟩ : ∃ ρ, a.eval = ρ := ⟨_, rfl⟩
      rw [hρ] at h1
      refine op_val ρ hρ (.int .i64 (l1 : Int)) ?_ ⟨_, rfl, Old.refl _, rfl, (fun h => absurd h (by decide))⟩
      clear g hF hd hρ HK  ha3 px_bx b_bx pc_bx_5 pc_bx_6 
      go_simp
      all_goals (first | (rw [IntKind.wrap_i64]; omega) | (rw [IntKind.wrap_u64]; omega) | omega)
    · intro a W g hF hd
      refine ⟨fun _ => ?_, fun h => by rw [wanted_none rfl] at h; cases h⟩
      have h2 : a.eval (.tmp 11) = .int .i64 (l1 : Int) := hd ⟨2, .data⟩ (by simp) rfl
      have c1 : a.eval (.const (.int .i64 0)) = .int .i64 0 := rfl
      obtain ⟨ρ, hρ⟩ : ∃ ρ, a.eval = ρ := ⟨_, rfl⟩
      rw [hρ] at h2 c1
      refine op_val ρ hρ (.bool ((l1 : Int) == 0)) ?_ ⟨_, rfl, Old.refl _, rfl, (fun h => absurd h (by decide))⟩
      clear g hF hd hρ HK  ha3 px_bx b_bx pc_bx_5 pc_bx_6 
      go_simp
      all_goals (first | (rw [IntKind.wrap_i64]; omega) | (rw [IntKind.wrap_u64]; omega) | omega)
    · intro a W g hF hd
      refine ⟨fun _ => ?_, fun h => by rw [wanted_none rfl] at h; cases h⟩
      have e3 := (hF.same 3 slotGba_no3).trans ha3
      obtain ⟨ρ, hρ⟩ : ∃ ρ, a.eval = ρ := ⟨_, rfl⟩
      rw [hρ] at e3
      refine op_val ρ hρ (.pointer (some ⟨bx, 6, none⟩)) ?_ ⟨_, rfl, Old.refl _, rfl, (fun h => absurd h (by decide))⟩
      clear g hF hd hρ HK  ha3 px_bx b_bx pc_bx_5 pc_bx_6 
      go_simp
      all_goals (first | (rw [IntKind.wrap_i64]; omega) | (rw [IntKind.wrap_u64]; omega) | omega)
    · intro a W g hF hd
      refine ⟨fun _ => ?_, fun h => by rw [wanted_none rfl] at h; cases h⟩
      have h4 : a.eval (.tmp 13) = .pointer (some ⟨bx, 6, none⟩) := hd ⟨4, .data⟩ (by simp) rfl
      obtain ⟨ρ, hρ⟩ : ∃ ρ, a.eval = ρ := ⟨_, rfl⟩
      rw [hρ] at h4
      refine op_val ρ hρ (.pointer (some ⟨bx, 6, none⟩)) ?_ ⟨_, rfl, Old.refl _, rfl, (fun h => absurd h (by decide))⟩
      clear g hF hd hρ HK  ha3 px_bx b_bx pc_bx_5 pc_bx_6 
      go_simp
      all_goals (first | (rw [IntKind.wrap_i64]; omega) | (rw [IntKind.wrap_u64]; omega) | omega)
    · intro a W g hF hd
      refine ⟨fun _ => ?_, fun h => by rw [wanted_none rfl] at h; cases h⟩
      have h5 : a.eval (.tmp 14) = .pointer (some ⟨bx, 6, none⟩) := hd ⟨5, .data⟩ (by simp) rfl
      have kk0 := pc_bx_6 W g
      obtain ⟨ρ, hρ⟩ : ∃ ρ, a.eval = ρ := ⟨_, rfl⟩
      rw [hρ] at h5
      refine op_val ρ hρ (.slice a2 l2 c2) ?_ ⟨_, rfl, Old.refl _, rfl, (fun h => absurd h (by decide))⟩
      clear g hF hd hρ HK  ha3 px_bx b_bx pc_bx_5 pc_bx_6 
      go_simp
      all_goals (first | (rw [IntKind.wrap_i64]; omega) | (rw [IntKind.wrap_u64]; omega) | omega)
    · intro a W g hF hd
      refine ⟨fun _ => ?_, fun h => by rw [wanted_none rfl] at h; cases h⟩
      have h6 : a.eval (.tmp 15) = .slice a2 l2 c2 := hd ⟨6, .data⟩ (by simp) rfl
      obtain ⟨ρ, hρ⟩ : ∃ ρ, a.eval = ρ := ⟨_, rfl⟩
      rw [hρ] at h6
      refine op_val ρ hρ (.int .i64 (l2 : Int)) ?_ ⟨_, rfl, Old.refl _, rfl, (fun h => absurd h (by decide))⟩
      clear g hF hd hρ HK  ha3 px_bx b_bx pc_bx_5 pc_bx_6 
      go_simp
      all_goals (first | (rw [IntKind.wrap_i64]; omega) | (rw [IntKind.wrap_u64]; omega) | omega)
    · intro a W g hF hd
      refine ⟨fun _ => ?_, fun h => by rw [wanted_none rfl] at h; cases h⟩
      have h7 : a.eval (.tmp 16) = .int .i64 (l2 : Int) := hd ⟨7, .data⟩ (by simp) rfl
      have c1 : a.eval (.const (.int .i64 0)) = .int .i64 0 := rfl
      obtain ⟨ρ, hρ⟩ : ∃ ρ, a.eval = ρ := ⟨_, rfl⟩
      rw [hρ] at h7 c1
      refine op_val ρ hρ (.bool false) ?_ ⟨_, rfl, Old.refl _, rfl, (fun h => absurd h (by decide))⟩
      clear g hF hd hρ HK  ha3 px_bx b_bx pc_bx_5 pc_bx_6 
      go_simp
      all_goals (first | (rw [IntKind.wrap_i64]; omega) | (rw [IntKind.wrap_u64]; omega) | omega)
    · intro a W g hF hd
      refine ⟨fun _ => ?_, fun h => by rw [wanted_none rfl] at h; cases h⟩
      refine op_move ?_
      exact ⟨_, rfl, Old.refl _, hd ⟨8, .data⟩ (by simp) rfl, (fun h => absurd h (by decide))⟩
    · intro a W g hF hd
      refine ⟨fun h => ?_, fun _ => ⟨rfl, trivial, rfl⟩⟩
      rw [wanted_of (j := 9) (s := 18) (want := true) (b := false) rfl rfl (by rw [hF.size, hsz]; decide) (hd ⟨9, .guard⟩ (by simp) rfl)] at h
      cases h
    · intro a W g hF hd
      refine ⟨fun h => ?_, fun _ => ⟨rfl, trivial, rfl⟩⟩
      rw [wanted_of (j := 9) (s := 18) (want := true) (b := false) rfl rfl (by rw [hF.size, hsz]; decide) (hd ⟨9, .guard⟩ (by simp) rfl)] at h
      cases h
    · intro a W g hF hd
      refine ⟨fun h => ?_, fun _ => ⟨rfl, trivial, rfl⟩⟩
      rw [wanted_of (j := 9) (s := 18) (want := true) (b := false) rfl rfl (by rw [hF.size, hsz]; decide) (hd ⟨9, .guard⟩ (by simp) rfl)] at h
      cases h
    · intro a W g hF hd
      refine ⟨fun h => ?_, fun _ => ⟨rfl, trivial, rfl⟩⟩
      rw [wanted_of (j := 9) (s := 18) (want := true) (b := false) rfl rfl (by rw [hF.size, hsz]; decide) (hd ⟨9, .guard⟩ (by simp) rfl)] at h
      cases h
    · intro a W g hF hd
      refine ⟨fun h => ?_, fun _ => ⟨rfl, trivial, rfl⟩⟩
      rw [wanted_of (j := 9) (s := 18) (want := true) (b := false) rfl rfl (by rw [hF.size, hsz]; decide) (hd ⟨9, .guard⟩ (by simp) rfl)] at h
      cases h
    · intro a W g hF hd
      refine ⟨fun _ => ?_, fun h => by rw [wanted_none rfl] at h; cases h⟩
      have h9 : a.eval (.tmp 18) = .bool false := hd ⟨9, .data⟩ (by simp) rfl
      have c1 : a.eval (.const (.bool false)) = .bool false := rfl
      obtain ⟨ρ, hρ⟩ : ∃ ρ, a.eval = ρ := ⟨_, rfl⟩
      rw [hρ] at h9 c1
      refine op_val ρ hρ (.bool false) ?_ ⟨_, rfl, Old.refl _, rfl, (fun h => absurd h (by decide))⟩
      clear g hF hd hρ HK  ha3 px_bx b_bx pc_bx_5 pc_bx_6 
      go_simp
      all_goals (first | (rw [IntKind.wrap_i64]; omega) | (rw [IntKind.wrap_u64]; omega) | omega)
    · intro a W g hF hd
      refine ⟨fun _ => ?_, fun h => by rw [wanted_none rfl] at h; cases h⟩
      refine op_move ?_
      exact ⟨_, rfl, Old.refl _, hd ⟨15, .data⟩ (by simp) rfl, (fun h => absurd h (by decide))⟩
    · intro a W g hF hd
      refine ⟨fun h => ?_, fun _ => ⟨rfl, trivial, rfl⟩⟩
      rw [wanted_of (j := 16) (s := 25) (want := true) (b := false) rfl rfl (by rw [hF.size, hsz]; decide) (hd ⟨16, .guard⟩ (by simp) rfl)] at h
      cases h
    · intro a W g hF hd
      refine ⟨fun h => ?_, fun _ => ⟨rfl, trivial, rfl⟩⟩
      rw [wanted_of (j := 16) (s := 25) (want := true) (b := false) rfl rfl (by rw [hF.size, hsz]; decide) (hd ⟨16, .guard⟩ (by simp) rfl)] at h
      cases h
    · intro a W g hF hd
      refine ⟨fun h => ?_, fun _ => ⟨rfl, trivial, rfl⟩⟩
      rw [wanted_of (j := 16) (s := 25) (want := true) (b := false) rfl rfl (by rw [hF.size, hsz]; decide) (hd ⟨16, .guard⟩ (by simp) rfl)] at h
      cases h
    · intro a W g hF hd
      refine ⟨fun h => ?_, fun _ => ⟨rfl, trivial, rfl⟩⟩
      rw [wanted_of (j := 16) (s := 25) (want := true) (b := false) rfl rfl (by rw [hF.size, hsz]; decide) (hd ⟨16, .guard⟩ (by simp) rfl)] at h
      cases h
    · intro a W g hF hd
      refine ⟨fun _ => ?_, fun h => by rw [wanted_none rfl] at h; cases h⟩
      have h16 : a.eval (.tmp 25) = .bool false := hd ⟨16, .data⟩ (by simp) rfl
      have c1 : a.eval (.const (.bool false)) = .bool false := rfl
      obtain ⟨ρ, hρ⟩ : ∃ ρ, a.eval = ρ := ⟨_, rfl⟩
      rw [hρ] at h16 c1
      refine op_val ρ hρ (.bool false) ?_ ⟨_, rfl, Old.refl _, rfl, (fun h => absurd h (by decide))⟩
      clear g hF hd hρ HK  ha3 px_bx b_bx pc_bx_5 pc_bx_6 
      go_simp
      all_goals (first | (rw [IntKind.wrap_i64]; omega) | (rw [IntKind.wrap_u64]; omega) | omega)
    · intro a W g hF hd
      refine ⟨fun _ => ?_, fun h => by rw [wanted_none rfl] at h; cases h⟩
      refine op_assign ?_
      exact ⟨_, rfl, Old.refl _, hd ⟨3, .data⟩ (by simp) rfl, (fun h => absurd h (by decide))⟩
  · intro a W g hF hq hne
    have hput := fram_put (show Fram 23 slotGba b0 a from hF) (fun i j hi hj => slotGba_inj i hi j hj)
    have hk := HK.out (fun i => a.eval (.tmp (slotGba i))) W g  (hq 22 (by decide))
    rw [← hput] at hk
    refine op_assign ?_
    show tailWp _ _ _ _ _
    show tailWp _ _ _ (Act.put a (some 6) (a.eval (.tmp 30))) _
    rw [show a.eval (.tmp 30) = .bool false from hq 21 (by decide)]
    exact hk
def slotGbb (i : Nat) : Nat := [9, 10, 11, 12, 13, 14, 15, 16, 17, 18, 19, 20, 21, 22, 23, 24, 25, 26, 27, 28, 29, 30, 5].getD i 0
theorem slotGbb_lt : ∀ i, i < 23 → slotGbb i < 89 := by decide
theorem slotGbb_inj : ∀ i, i < 23 → ∀ j, j < 23 → slotGbb i = slotGbb j → i = j := by decide
theorem slotGbb_no3 : ∀ i, i < 23 → slotGbb i ≠ 3 := by decide
def qGbb (bx : Nat) (kd N T E : Int) (a0 : Option Addr) (l0 c0 : Nat) (a1 : Option Addr) (l1 c1 : Nat) (a2 : Option Addr) (l2 c2 : Nat) (sg : Bool) (a3 : Option Addr) (l3 c3 : Nat) (a4 : Option Addr) (l4 c4 : Nat)  (i : Nat) (W : World) (x : Value) : Prop :=
  match i with
  | 0 => x = .pointer (some ⟨bx, 5, none⟩)
  | 1 => x = .slice a1 l1 c1
  | 2 => x = .int .i64 (l1 : Int)
  | 3 => x = .bool ((l1 : Int) == 0)
  | 4 => x = .pointer (some ⟨bx, 6, none⟩)
  | 5 => x = .pointer (some ⟨bx, 6, none⟩)
  | 6 => x = .slice a2 l2 c2
  | 7 => x = .int .i64 (l2 : Int)
  | 8 => x = .bool true
  | 9 => x = .bool true
  | 10 => x = .pointer (some ⟨bx, 7, none⟩)
  | 11 => x = .pointer (some ⟨bx, 8, none⟩)
  | 12 => x = .slice a3 l3 c3
  | 13 => x = .int .i64 (l3 : Int)
  | 14 => x = .bool false
  | 15 => x = .bool false
  | 16 => x = .bool false
  | 17 => True
  | 18 => True
  | 19 => True
  | 20 => True
  | 21 => x = .bool false
  | 22 => x = .bool ((l1 : Int) == 0)
  | _ => True
theorem qGbb_old (bx : Nat) (kd N T E : Int) (a0 : Option Addr) (l0 c0 : Nat) (a1 : Option Addr) (l1 c1 : Nat) (a2 : Option Addr) (l2 c2 : Nat) (sg : Bool) (a3 : Option Addr) (l3 c3 : Nat) (a4 : Option Addr) (l4 c4 : Nat)   (i : Nat) (W W' : World) (x : Value) (h : qGbb bx kd N T E a0 l0 c0 a1 l1 c1 a2 l2 c2 sg a3 l3 c3 a4 l4 c4  i W x) (qo : Old W W') : qGbb bx kd N T E a0 l0 c0 a1 l1 c1 a2 l2 c2 sg a3 l3 c3 a4 l4 c4  i W' x := by
  unfold qGbb at h ⊢
  split at h
  all_goals first | exact h | trivial
set_option maxRecDepth 100000 in
set_option maxHeartbeats 8000000 in
theorem reg_Gbb (w0 : World) (bx : Nat) (kd N T E : Int) (a0 : Option Addr) (l0 c0 : Nat) (a1 : Option Addr) (l1 c1 : Nat) (a2 : Option Addr) (l2 c2 : Nat) (sg : Bool) (a3 : Option Addr) (l3 c3 : Nat) (a4 : Option Addr) (l4 c4 : Nat)     (b_bx : w0.heap[bx]? = some (.cells #[.int .i64 kd, .int .i64 N, .int .i64 T, .int .i64 E, .slice a0 l0 c0, .slice a1 l1 c1, .slice a2 l2 c2, .bool sg, .slice a3 l3 c3, .slice a4 l4 c4] 59 (0, 0))) 
    (h2 : ((l2 : Int) == 0) = true) (h3 : ((l3 : Int) == 0) = false)
    
    (Q : Exit → Act → World → Prop) (b0 : Act) (hsz : b0.tmps.size = 89) (ha3 : b0.eval (.tmp 3) = .pointer (some ⟨bx, 0, none⟩))
    (HK : Hid (∀ (us : Nat → Value) (W : World) , Old w0 W → us 22 = .bool ((l1 : Int) == 0) → Q .normal ((putAll b0 ((List.range 23).map fun i => (slotGbb i, us i))).put (some 6) (.bool false)) W)) :
    Code.wp Tryz.prog ((Tryz.f100.body.bind (regionAtmul 1)).getD .skip) Q b0 w0 := by
  conv => arg 2; whnf
  have px_bx : ∀ W, Old w0 W → W.heap[bx]? = some (.cells #[.int .i64 kd, .int .i64 N, .int .i64 T, .int .i64 E, .slice a0 l0 c0, .slice a1 l1 c1, .slice a2 l2 c2, .bool sg, .slice a3 l3 c3, .slice a4 l4 c4] 59 (0, 0)) := fun W g => (g.block bx (lt_of_some b_bx)).trans b_bx
  have pc_bx_5 : ∀ W, Old w0 W → W.cell? ⟨bx, 5, none⟩ = some (.slice a1 l1 c1) := fun W g => cell_of_row W bx 5 _ _ (0, 0) (px_bx W g)
  have pc_bx_6 : ∀ W, Old w0 W → W.cell? ⟨bx, 6, none⟩ = some (.slice a2 l2 c2) := fun W g => cell_of_row W bx 6 _ _ (0, 0) (px_bx W g)
  have pc_bx_8 : ∀ W, Old w0 W → W.cell? ⟨bx, 8, none⟩ = some (.slice a3 l3 c3) := fun W g => cell_of_row W bx 8 _ _ (0, 0) (px_bx W g)
  refine wp_region_tailG 23 (by decide) (by kernel_rfl) (by kernel_rfl) (by kernel_rfl) (by kernel_rfl) (by kernel_rfl) slotGbb (fun i hi => by rw [hsz]; exact slotGbb_lt i hi) (fun i j hi hj => slotGbb_inj i hi j hj) (qGbb bx kd N T E a0 l0 c0 a1 l1 c1 a2 l2 c2 sg a3 l3 c3 a4 l4 c4  ) (qGbb_old bx kd N T E a0 l0 c0 a1 l1 c1 a2 l2 c2 sg a3 l3 c3 a4 l4 c4  ) [] (fun i W v hi hq => by cases hi) ?_ ?_
  · refine ⟨?_, ?_, ?_, ?_, ?_, ?_, ?_, ?_, ?_, ?_, ?_, ?_, ?_, ?_, ?_, ?_, ?_, ?_, ?_, ?_, ?_, ?_, ?_, trivial⟩
    · intro a W g hF hd
      refine ⟨fun _ => ?_, fun h => by rw [wanted_none rfl] at h; cases h⟩
      have e3 := (hF.same 3 slotGbb_no3).trans ha3
      obtain ⟨ρ, hρ⟩ : ∃ ρ, a.eval = ρ := ⟨_, rfl⟩
      rw [hρ] at e3
      refine op_val ρ hρ (.pointer (some ⟨bx, 5, none⟩)) ?_ ⟨_, rfl, Old.refl _, rfl, (fun h => absurd h (by decide))⟩
      clear g hF hd hρ HK  ha3 px_bx b_bx pc_bx_5 pc_bx_6 pc_bx_8 
      go_simp
      all_goals (first | (rw [IntKind.wrap_i64]; omega) | (rw [IntKind.wrap_u64]; omega) | omega)
    · intro a W g hF hd
      refine ⟨fun _ => ?_, fun h => by rw [wanted_none rfl] at h; cases h⟩
      have h0 : a.eval (.tmp 9) = .pointer (some ⟨bx, 5, none⟩) := hd ⟨0, .data⟩ (by simp) rfl
      have kk0 := pc_bx_5 W g
      obtain ⟨ρ, hρ⟩ : ∃ ρ, a.eval = ρ := ⟨_, rfl⟩
      rw [hρ] at h0
      refine op_val ρ hρ (.slice a1 l1 c1) ?_ ⟨_, rfl, Old.refl _, rfl, (fun h => absurd h (by decide))⟩
      clear g hF hd hρ HK  ha3 px_bx b_bx pc_bx_5 pc_bx_6 pc_bx_8 
      go_simp
      all_goals (first | (rw [IntKind.wrap_i64]; omega) | (rw [IntKind.wrap_u64]; omega) | omega)
    · intro a W g hF hd
      refine ⟨fun _ => ?_, fun h => by rw [wanted_none rfl] at h; cases h⟩
      have h1 : a.eval (.tmp 10) = .slice a1 l1 c1 := hd ⟨1, .data⟩ (by simp) rfl
      obtain ⟨ρ, hρ⟩ : ∃ ρ, a.eval = ρ := ⟨_, rfl⟩
      rw [hρ] at h1
      refine op_val ρ hρ (.int .i64 (l1 : Int)) ?_ ⟨_, rfl, Old.refl _, rfl, (fun h => absurd h (by decide))⟩
      clear g hF hd hρ HK  ha3 px_bx b_bx pc_bx_5 pc_bx_6 pc_bx_8 
      go_simp
      all_goals (first | (rw [IntKind.wrap_i64]; omega) | (rw [IntKind.wrap_u64]; omega) | omega)
    · intro a W g hF hd
      refine ⟨fun _ => ?_, fun h => by rw [wanted_none rfl] at h; cases h⟩
      have h2 : a.eval (.tmp 11) = .int .i64 (l1 : Int) := hd ⟨2, .data⟩ (by simp) rfl
      have c1 : a.eval (.const (.int .i64 0)) = .int .i64 0 := rfl
      obtain ⟨ρ, hρ⟩ : ∃ ρ, a.eval = ρ := ⟨_, rfl⟩
      rw [hρ] at h2 c1
      refine op_val ρ hρ (.bool ((l1 : Int) == 0)) ?_ ⟨_, rfl, Old.refl _, rfl, (fun h => absurd h (by decide))⟩
      clear g hF hd hρ HK  ha3 px_bx b_bx pc_bx_5 pc_bx_6 pc_bx_8 
      go_simp
      all_goals (first | (rw [IntKind.wrap_i64]; omega) | (rw [IntKind.wrap_u64]; omega) | omega)
    · intro a W g hF hd
      refine ⟨fun _ => ?_, fun h => by rw [wanted_none rfl] at h; cases h⟩
      have e3 := (hF.same 3 slotGbb_no3).trans ha3
      obtain ⟨ρ, hρ⟩ : ∃ ρ, a.eval = ρ := ⟨_, rfl⟩
      rw [hρ] at e3
      refine op_val ρ hρ (.pointer (some ⟨bx, 6, none⟩)) ?_ ⟨_, rfl, Old.refl _, rfl, (fun h => absurd h (by decide))⟩
      clear g hF hd hρ HK  ha3 px_bx b_bx pc_bx_5 pc_bx_6 pc_bx_8 
      go_simp
      all_goals (first | (rw [IntKind.wrap_i64]; omega) | (rw [IntKind.wrap_u64]; omega) | omega)
    · intro a W g hF hd
      refine ⟨fun _ => ?_, fun h => by rw [wanted_none rfl] at h; cases h⟩
      have h4 : a.eval (.tmp 13) = .pointer (some ⟨bx, 6, none⟩) := hd ⟨4, .data⟩ (by simp) rfl
      obtain ⟨ρ, hρ⟩ : ∃ ρ, a.eval = ρ := ⟨_, rfl⟩
      rw [hρ] at h4
      refine op_val ρ hρ (.pointer (some ⟨bx, 6, none⟩)) ?_ ⟨_, rfl, Old.refl _, rfl, (fun h => absurd h (by decide))⟩
      clear g hF hd hρ HK  ha3 px_bx b_bx pc_bx_5 pc_bx_6 pc_bx_8 
      go_simp
      all_goals (first | (rw [IntKind.wrap_i64]; omega) | (rw [IntKind.wrap_u64]; omega) | omega)
    · intro a W g hF hd
      refine ⟨fun _ => ?_, fun h => by rw [wanted_none rfl] at h; cases h⟩
      have h5 : a.eval (.tmp 14) = .pointer (some ⟨bx, 6, none⟩) := hd ⟨5, .data⟩ (by simp) rfl
      have kk0 := pc_bx_6 W g
      obtain ⟨ρ, hρ⟩ : ∃ ρ, a.eval = ρ := ⟨_, rfl⟩
      rw [hρ] at h5
      refine op_val ρ hρ (.slice a2 l2 c2) ?_ ⟨_, rfl, Old.refl _, rfl, (fun h => absurd h (by decide))⟩
      clear g hF hd hρ HK  ha3 px_bx b_bx pc_bx_5 pc_bx_6 pc_bx_8 
      go_simp
      all_goals (first | (rw [IntKind.wrap_i64]; omega) | (rw [IntKind.wrap_u64]; omega) | omega)
    · intro a W g hF hd
      refine ⟨fun _ => ?_, fun h => by rw [wanted_none rfl] at h; cases h⟩
      have h6 : a.eval (.tmp 15) = .slice a2 l2 c2 := hd ⟨6, .data⟩ (by simp) rfl
      obtain ⟨ρ, hρ⟩ : ∃ ρ, a.eval = ρ := ⟨_, rfl⟩
      rw [hρ] at h6
      refine op_val ρ hρ (.int .i64 (l2 : Int)) ?_ ⟨_, rfl, Old.refl _, rfl, (fun h => absurd h (by decide))⟩
      clear g hF hd hρ HK  ha3 px_bx b_bx pc_bx_5 pc_bx_6 pc_bx_8 
      go_simp
      all_goals (first | (rw [IntKind.wrap_i64]; omega) | (rw [IntKind.wrap_u64]; omega) | omega)
    · intro a W g hF hd
      refine ⟨fun _ => ?_, fun h => by rw [wanted_none rfl] at h; cases h⟩
      have h7 : a.eval (.tmp 16) = .int .i64 (l2 : Int) := hd ⟨7, .data⟩ (by simp) rfl
      have c1 : a.eval (.const (.int .i64 0)) = .int .i64 0 := rfl
      obtain ⟨ρ, hρ⟩ : ∃ ρ, a.eval = ρ := ⟨_, rfl⟩
      rw [hρ] at h7 c1
      refine op_val ρ hρ (.bool true) ?_ ⟨_, rfl, Old.refl _, rfl, (fun h => absurd h (by decide))⟩
      clear g hF hd hρ HK  ha3 px_bx b_bx pc_bx_5 pc_bx_6 pc_bx_8 
      go_simp
      all_goals (first | (rw [IntKind.wrap_i64]; omega) | (rw [IntKind.wrap_u64]; omega) | omega)
    · intro a W g hF hd
      refine ⟨fun _ => ?_, fun h => by rw [wanted_none rfl] at h; cases h⟩
      refine op_move ?_
      exact ⟨_, rfl, Old.refl _, hd ⟨8, .data⟩ (by simp) rfl, (fun h => absurd h (by decide))⟩
    · intro a W g hF hd
      refine ⟨fun _ => ?_, fun h => ?_⟩
      rotate_left
      · rw [wanted_of (j := 9) (s := 18) (want := true) (b := true) rfl rfl (by rw [hF.size, hsz]; decide) (hd ⟨9, .guard⟩ (by simp) rfl)] at h
        cases h
      refine op_guard ?_
      have e3 := (hF.same 3 slotGbb_no3).trans ha3
      obtain ⟨ρ, hρ⟩ : ∃ ρ, a.eval = ρ := ⟨_, rfl⟩
      rw [hρ] at e3
      refine op_val ρ hρ (.pointer (some ⟨bx, 7, none⟩)) ?_ ⟨_, rfl, Old.refl _, rfl, (fun h => absurd h (by decide))⟩
      clear g hF hd hρ HK  ha3 px_bx b_bx pc_bx_5 pc_bx_6 pc_bx_8 
      go_simp
      all_goals (first | (rw [IntKind.wrap_i64]; omega) | (rw [IntKind.wrap_u64]; omega) | omega)
    · intro a W g hF hd
      refine ⟨fun _ => ?_, fun h => ?_⟩
      rotate_left
      · rw [wanted_of (j := 9) (s := 18) (want := true) (b := true) rfl rfl (by rw [hF.size, hsz]; decide) (hd ⟨9, .guard⟩ (by simp) rfl)] at h
        cases h
      refine op_guard ?_
      have h10 : a.eval (.tmp 19) = .pointer (some ⟨bx, 7, none⟩) := hd ⟨10, .data⟩ (by simp) rfl
      obtain ⟨ρ, hρ⟩ : ∃ ρ, a.eval = ρ := ⟨_, rfl⟩
      rw [hρ] at h10
      refine op_val ρ hρ (.pointer (some ⟨bx, 8, none⟩)) ?_ ⟨_, rfl, Old.refl _, rfl, (fun h => absurd h (by decide))⟩
      clear g hF hd hρ HK  ha3 px_bx b_bx pc_bx_5 pc_bx_6 pc_bx_8 
      go_simp
      all_goals (first | (rw [IntKind.wrap_i64]; omega) | (rw [IntKind.wrap_u64]; omega) | omega)
    · intro a W g hF hd
      refine ⟨fun _ => ?_, fun h => ?_⟩
      rotate_left
      · rw [wanted_of (j := 9) (s := 18) (want := true) (b := true) rfl rfl (by rw [hF.size, hsz]; decide) (hd ⟨9, .guard⟩ (by simp) rfl)] at h
        cases h
      refine op_guard ?_
      have h11 : a.eval (.tmp 20) = .pointer (some ⟨bx, 8, none⟩) := hd ⟨11, .data⟩ (by simp) rfl
      have kk0 := pc_bx_8 W g
      obtain ⟨ρ, hρ⟩ : ∃ ρ, a.eval = ρ := ⟨_, rfl⟩
      rw [hρ] at h11
      refine op_val ρ hρ (.slice a3 l3 c3) ?_ ⟨_, rfl, Old.refl _, rfl, (fun h => absurd h (by decide))⟩
      clear g hF hd hρ HK  ha3 px_bx b_bx pc_bx_5 pc_bx_6 pc_bx_8 
      go_simp
      all_goals (first | (rw [IntKind.wrap_i64]; omega) | (rw [IntKind.wrap_u64]; omega) | omega)
    · intro a W g hF hd
      refine ⟨fun _ => ?_, fun h => ?_⟩
      rotate_left
      · rw [wanted_of (j := 9) (s := 18) (want := true) (b := true) rfl rfl (by rw [hF.size, hsz]; decide) (hd ⟨9, .guard⟩ (by simp) rfl)] at h
        cases h
      refine op_guard ?_
      have h12 : a.eval (.tmp 21) = .slice a3 l3 c3 := hd ⟨12, .data⟩ (by simp) rfl
      obtain ⟨ρ, hρ⟩ : ∃ ρ, a.eval = ρ := ⟨_, rfl⟩
      rw [hρ] at h12
      refine op_val ρ hρ (.int .i64 (l3 : Int)) ?_ ⟨_, rfl, Old.refl _, rfl, (fun h => absurd h (by decide))⟩
      clear g hF hd hρ HK  ha3 px_bx b_bx pc_bx_5 pc_bx_6 pc_bx_8 
      go_simp
      all_goals (first | (rw [IntKind.wrap_i64]; omega) | (rw [IntKind.wrap_u64]; omega) | omega)
    · intro a W g hF hd
      refine ⟨fun _ => ?_, fun h => ?_⟩
      rotate_left
      · rw [wanted_of (j := 9) (s := 18) (want := true) (b := true) rfl rfl (by rw [hF.size, hsz]; decide) (hd ⟨9, .guard⟩ (by simp) rfl)] at h
        cases h
      refine op_guard ?_
      have h13 : a.eval (.tmp 22) = .int .i64 (l3 : Int) := hd ⟨13, .data⟩ (by simp) rfl
      have c1 : a.eval (.const (.int .i64 0)) = .int .i64 0 := rfl
      obtain ⟨ρ, hρ⟩ : ∃ ρ, a.eval = ρ := ⟨_, rfl⟩
      rw [hρ] at h13 c1
      refine op_val ρ hρ (.bool false) ?_ ⟨_, rfl, Old.refl _, rfl, (fun h => absurd h (by decide))⟩
      clear g hF hd hρ HK  ha3 px_bx b_bx pc_bx_5 pc_bx_6 pc_bx_8 
      go_simp
      all_goals (first | (rw [IntKind.wrap_i64]; omega) | (rw [IntKind.wrap_u64]; omega) | omega)
    · intro a W g hF hd
      refine ⟨fun _ => ?_, fun h => by rw [wanted_none rfl] at h; cases h⟩
      have h9 : a.eval (.tmp 18) = .bool true := hd ⟨9, .data⟩ (by simp) rfl
      have h14 : a.eval (.tmp 23) = .bool false := hd ⟨14, .data⟩ (by simp) rfl
      obtain ⟨ρ, hρ⟩ : ∃ ρ, a.eval = ρ := ⟨_, rfl⟩
      rw [hρ] at h9 h14
      refine op_val ρ hρ (.bool false) ?_ ⟨_, rfl, Old.refl _, rfl, (fun h => absurd h (by decide))⟩
      clear g hF hd hρ HK  ha3 px_bx b_bx pc_bx_5 pc_bx_6 pc_bx_8 
      go_simp
      all_goals (first | (rw [IntKind.wrap_i64]; omega) | (rw [IntKind.wrap_u64]; omega) | omega)
    · intro a W g hF hd
      refine ⟨fun _ => ?_, fun h => by rw [wanted_none rfl] at h; cases h⟩
      refine op_move ?_
      exact ⟨_, rfl, Old.refl _, hd ⟨15, .data⟩ (by simp) rfl, (fun h => absurd h (by decide))⟩
    · intro a W g hF hd
      refine ⟨fun h => ?_, fun _ => ⟨rfl, trivial, rfl⟩⟩
      rw [wanted_of (j := 16) (s := 25) (want := true) (b := false) rfl rfl (by rw [hF.size, hsz]; decide) (hd ⟨16, .guard⟩ (by simp) rfl)] at h
      cases h
    · intro a W g hF hd
      refine ⟨fun h => ?_, fun _ => ⟨rfl, trivial, rfl⟩⟩
      rw [wanted_of (j := 16) (s := 25) (want := true) (b := false) rfl rfl (by rw [hF.size, hsz]; decide) (hd ⟨16, .guard⟩ (by simp) rfl)] at h
      cases h
    · intro a W g hF hd
      refine ⟨fun h => ?_, fun _ => ⟨rfl, trivial, rfl⟩⟩
      rw [wanted_of (j := 16) (s := 25) (want := true) (b := false) rfl rfl (by rw [hF.size, hsz]; decide) (hd ⟨16, .guard⟩ (by simp) rfl)] at h
      cases h
    · intro a W g hF hd
      refine ⟨fun h => ?_, fun _ => ⟨rfl, trivial, rfl⟩⟩
      rw [wanted_of (j := 16) (s := 25) (want := true) (b := false) rfl rfl (by rw [hF.size, hsz]; decide) (hd ⟨16, .guard⟩ (by simp) rfl)] at h
      cases h
    · intro a W g hF hd
      refine ⟨fun _ => ?_, fun h => by rw [wanted_none rfl] at h; cases h⟩
      have h16 : a.eval (.tmp 25) = .bool false := hd ⟨16, .data⟩ (by simp) rfl
      have c1 : a.eval (.const (.bool false)) = .bool false := rfl
      obtain ⟨ρ, hρ⟩ : ∃ ρ, a.eval = ρ := ⟨_, rfl⟩
      rw [hρ] at h16 c1
      refine op_val ρ hρ (.bool false) ?_ ⟨_, rfl, Old.refl _, rfl, (fun h => absurd h (by decide))⟩
      clear g hF hd hρ HK  ha3 px_bx b_bx pc_bx_5 pc_bx_6 pc_bx_8 
      go_simp
      all_goals (first | (rw [IntKind.wrap_i64]; omega) | (rw [IntKind.wrap_u64]; omega) | omega)
    · intro a W g hF hd
      refine ⟨fun _ => ?_, fun h => by rw [wanted_none rfl] at h; cases h⟩
      refine op_assign ?_
      exact ⟨_, rfl, Old.refl _, hd ⟨3, .data⟩ (by simp) rfl, (fun h => absurd h (by decide))⟩
  · intro a W g hF hq hne
    have hput := fram_put (show Fram 23 slotGbb b0 a from hF) (fun i j hi hj => slotGbb_inj i hi j hj)
    have hk := HK.out (fun i => a.eval (.tmp (slotGbb i))) W g  (hq 22 (by decide))
    rw [← hput] at hk
    refine op_assign ?_
    show tailWp _ _ _ _ _
    show tailWp _ _ _ (Act.put a (some 6) (a.eval (.tmp 30))) _
    rw [show a.eval (.tmp 30) = .bool false from hq 21 (by decide)]
    exact hk
def slotGbc (i : Nat) : Nat := [9, 10, 11, 12, 13, 14, 15, 16, 17, 18, 19, 20, 21, 22, 23, 24, 25, 26, 27, 28, 29, 30, 5].getD i 0
theorem slotGbc_lt : ∀ i, i < 23 → slotGbc i < 89 := by decide
theorem slotGbc_inj : ∀ i, i < 23 → ∀ j, j < 23 → slotGbc i = slotGbc j → i = j := by decide
theorem slotGbc_no3 : ∀ i, i < 23 → slotGbc i ≠ 3 := by decide
def qGbc (bx : Nat) (kd N T E : Int) (a0 : Option Addr) (l0 c0 : Nat) (a1 : Option Addr) (l1 c1 : Nat) (a2 : Option Addr) (l2 c2 : Nat) (sg : Bool) (a3 : Option Addr) (l3 c3 : Nat) (a4 : Option Addr) (l4 c4 : Nat)  (i : Nat) (W : World) (x : Value) : Prop :=
  match i with
  | 0 => x = .pointer (some ⟨bx, 5, none⟩)
  | 1 => x = .slice a1 l1 c1
  | 2 => x = .int .i64 (l1 : Int)
  | 3 => x = .bool ((l1 : Int) == 0)
  | 4 => x = .pointer (some ⟨bx, 6, none⟩)
  | 5 => x = .pointer (some ⟨bx, 6, none⟩)
  | 6 => x = .slice a2 l2 c2
  | 7 => x = .int .i64 (l2 : Int)
  | 8 => x = .bool true
  | 9 => x = .bool true
  | 10 => x = .pointer (some ⟨bx, 7, none⟩)
  | 11 => x = .pointer (some ⟨bx, 8, none⟩)
  | 12 => x = .slice a3 l3 c3
  | 13 => x = .int .i64 (l3 : Int)
  | 14 => x = .bool true
  | 15 => x = .bool true
  | 16 => x = .bool true
  | 17 => x = .pointer (some ⟨bx, 7, none⟩)
  | 18 => x = .pointer (some ⟨bx, 7, none⟩)
  | 19 => x = .bool sg
  | 20 => x = .bool (!sg)
  | 21 => x = .bool (!sg)
  | 22 => x = .bool ((l1 : Int) == 0)
  | _ => True
theorem qGbc_old (bx : Nat) (kd N T E : Int) (a0 : Option Addr) (l0 c0 : Nat) (a1 : Option Addr) (l1 c1 : Nat) (a2 : Option Addr) (l2 c2 : Nat) (sg : Bool) (a3 : Option Addr) (l3 c3 : Nat) (a4 : Option Addr) (l4 c4 : Nat)   (i : Nat) (W W' : World) (x : Value) (h : qGbc bx kd N T E a0 l0 c0 a1 l1 c1 a2 l2 c2 sg a3 l3 c3 a4 l4 c4  i W x) (qo : Old W W') : qGbc bx kd N T E a0 l0 c0 a1 l1 c1 a2 l2 c2 sg a3 l3 c3 a4 l4 c4  i W' x := by
  unfold qGbc at h ⊢
  split at h
  all_goals first | exact h | trivial
set_option maxRecDepth 100000 in
set_option maxHeartbeats 8000000 in
theorem reg_Gbc (w0 : World) (bx : Nat) (kd N T E : Int) (a0 : Option Addr) (l0 c0 : Nat) (a1 : Option Addr) (l1 c1 : Nat) (a2 : Option Addr) (l2 c2 : Nat) (sg : Bool) (a3 : Option Addr) (l3 c3 : Nat) (a4 : Option Addr) (l4 c4 : Nat)     (b_bx : w0.heap[bx]? = some (.cells #[.int .i64 kd, .int .i64 N, .int .i64 T, .int .i64 E, .slice a0 l0 c0, .slice a1 l1 c1, .slice a2 l2 c2, .bool sg, .slice a3 l3 c3, .slice a4 l4 c4] 59 (0, 0))) 
    (h2 : ((l2 : Int) == 0) = true) (h3 : ((l3 : Int) == 0) = true)
    
    (Q : Exit → Act → World → Prop) (b0 : Act) (hsz : b0.tmps.size = 89) (ha3 : b0.eval (.tmp 3) = .pointer (some ⟨bx, 0, none⟩))
    (HK : Hid (∀ (us : Nat → Value) (W : World) , Old w0 W → us 22 = .bool ((l1 : Int) == 0) → Q .normal ((putAll b0 ((List.range 23).map fun i => (slotGbc i, us i))).put (some 6) (.bool (!sg))) W)) :
    Code.wp Tryz.prog ((Tryz.f100.body.bind (regionAtmul 1)).getD .skip) Q b0 w0 := by
  conv => arg 2; whnf
  have px_bx : ∀ W, Old w0 W → W.heap[bx]? = some (.cells #[.int .i64 kd, .int .i64 N, .int .i64 T, .int .i64 E, .slice a0 l0 c0, .slice a1 l1 c1, .slice a2 l2 c2, .bool sg, .slice a3 l3 c3, .slice a4 l4 c4] 59 (0, 0)) := fun W g => (g.block bx (lt_of_some b_bx)).trans b_bx
  have pc_bx_5 : ∀ W, Old w0 W → W.cell? ⟨bx, 5, none⟩ = some (.slice a1 l1 c1) := fun W g => cell_of_row W bx 5 _ _ (0, 0) (px_bx W g)
  have pc_bx_6 : ∀ W, Old w0 W → W.cell? ⟨bx, 6, none⟩ = some (.slice a2 l2 c2) := fun W g => cell_of_row W bx 6 _ _ (0, 0) (px_bx W g)
  have pc_bx_7 : ∀ W, Old w0 W → W.cell? ⟨bx, 7, none⟩ = some (.bool sg) := fun W g => cell_of_row W bx 7 _ _ (0, 0) (px_bx W g)
  have pc_bx_8 : ∀ W, Old w0 W → W.cell? ⟨bx, 8, none⟩ = some (.slice a3 l3 c3) := fun W g => cell_of_row W bx 8 _ _ (0, 0) (px_bx W g)
  refine wp_region_tailG 23 (by decide) (by kernel_rfl) (by kernel_rfl) (by kernel_rfl) (by kernel_rfl) (by kernel_rfl) slotGbc (fun i hi => by rw [hsz]; exact slotGbc_lt i hi) (fun i j hi hj => slotGbc_inj i hi j hj) (qGbc bx kd N T E a0 l0 c0 a1 l1 c1 a2 l2 c2 sg a3 l3 c3 a4 l4 c4  ) (qGbc_old bx kd N T E a0 l0 c0 a1 l1 c1 a2 l2 c2 sg a3 l3 c3 a4 l4 c4  ) [] (fun i W v hi hq => by cases hi) ?_ ?_
  · refine ⟨?_, ?_, ?_, ?_, ?_, ?_, ?_, ?_, ?_, ?_, ?_, ?_, ?_, ?_, ?_, ?_, ?_, ?_, ?_, ?_, ?_, ?_, ?_, trivial⟩
    · intro a W g hF hd
      refine ⟨fun _ => ?_, fun h => by rw [wanted_none rfl] at h; cases h⟩
      have e3 := (hF.same 3 slotGbc_no3).trans ha3
      obtain ⟨ρ, hρ⟩ : ∃ ρ, a.eval = ρ := ⟨_, rfl⟩
      rw [hρ] at e3
      refine op_val ρ hρ (.pointer (some ⟨bx, 5, none⟩)) ?_ ⟨_, rfl, Old.refl _, rfl, (fun h => absurd h (by decide))⟩
      clear g hF hd hρ HK  ha3 px_bx b_bx pc_bx_5 pc_bx_6 pc_bx_7 pc_bx_8 
      go_simp
      all_goals (first | (rw [IntKind.wrap_i64]; omega) | (rw [IntKind.wrap_u64]; omega) | omega)
    · intro a W g hF hd
      refine ⟨fun _ => ?_, fun h => by rw [wanted_none rfl] at h; cases h⟩
      have h0 : a.eval (.tmp 9) = .pointer (some ⟨bx, 5, none⟩) := hd ⟨0, .data⟩ (by simp) rfl
      have kk0 := pc_bx_5 W g
      obtain ⟨ρ, hρ⟩ : ∃ ρ, a.eval = ρ := ⟨_, rfl⟩
      rw [hρ] at h0
      refine op_val ρ hρ (.slice a1 l1 c1) ?_ ⟨_, rfl, Old.refl _, rfl, (fun h => absurd h (by decide))⟩
      clear g hF hd hρ HK  ha3 px_bx b_bx pc_bx_5 pc_bx_6 pc_bx_7 pc_bx_8 
      go_simp
      all_goals (first | (rw [IntKind.wrap_i64]; omega) | (rw [IntKind.wrap_u64]; omega) | omega)
    · intro a W g hF hd
      refine ⟨fun _ => ?_, fun h => by rw [wanted_none rfl] at h; cases h⟩
      have h1 : a.eval (.tmp 10) = .slice a1 l1 c1 := hd ⟨1, .data⟩ (by simp) rfl
      obtain ⟨ρ, hρ⟩ : ∃ ρ, a.eval = ρ := ⟨_, rfl⟩
      rw [hρ] at h1
      refine op_val ρ hρ (.int .i64 (l1 : Int)) ?_ ⟨_, rfl, Old.refl _, rfl, (fun h => absurd h (by decide))⟩
      clear g hF hd hρ HK  ha3 px_bx b_bx pc_bx_5 pc_bx_6 pc_bx_7 pc_bx_8 
      go_simp
      all_goals (first | (rw [IntKind.wrap_i64]; omega) | (rw [IntKind.wrap_u64]; omega) | omega)
    · intro a W g hF hd
      refine ⟨fun _ => ?_, fun h => by rw [wanted_none rfl] at h; cases h⟩
      have h2 : a.eval (.tmp 11) = .int .i64 (l1 : Int) := hd ⟨2, .data⟩ (by simp) rfl
      have c1 : a.eval (.const (.int .i64 0)) = .int .i64 0 := rfl
      obtain ⟨ρ, hρ⟩ : ∃ ρ, a.eval = ρ := ⟨_, rfl⟩
      rw [hρ] at h2 c1
      refine op_val ρ hρ (.bool ((l1 : Int) == 0)) ?_ ⟨_, rfl, Old.refl _, rfl, (fun h => absurd h (by decide))⟩
      clear g hF hd hρ HK  ha3 px_bx b_bx pc_bx_5 pc_bx_6 pc_bx_7 pc_bx_8 
      go_simp
      all_goals (first | (rw [IntKind.wrap_i64]; omega) | (rw [IntKind.wrap_u64]; omega) | omega)
    · intro a W g hF hd
      refine ⟨fun _ => ?_, fun h => by rw [wanted_none rfl] at h; cases h⟩
      have e3 := (hF.same 3 slotGbc_no3).trans ha3
      obtain ⟨ρ, hρ⟩ : ∃ ρ, a.eval = ρ := ⟨_, rfl⟩
      rw [hρ] at e3
      refine op_val ρ hρ (.pointer (some ⟨bx, 6, none⟩)) ?_ ⟨_, rfl, Old.refl _, rfl, (fun h => absurd h (by decide))⟩
      clear g hF hd hρ HK  ha3 px_bx b_bx pc_bx_5 pc_bx_6 pc_bx_7 pc_bx_8 
      go_simp
      all_goals (first | (rw [IntKind.wrap_i64]; omega) | (rw [IntKind.wrap_u64]; omega) | omega)
    · intro a W g hF hd
      refine ⟨fun _ => ?_, fun h => by rw [wanted_none rfl] at h; cases h⟩
      have h4 : a.eval (.tmp 13) = .pointer (some ⟨bx, 6, none⟩) := hd ⟨4, .data⟩ (by simp) rfl
      obtain ⟨ρ, hρ⟩ : ∃ ρ, a.eval = ρ := ⟨_, rfl⟩
      rw [hρ] at h4
      refine op_val ρ hρ (.pointer (some ⟨bx, 6, none⟩)) ?_ ⟨_, rfl, Old.refl _, rfl, (fun h => absurd h (by decide))⟩
      clear g hF hd hρ HK  ha3 px_bx b_bx pc_bx_5 pc_bx_6 pc_bx_7 pc_bx_8 
      go_simp
      all_goals (first | (rw [IntKind.wrap_i64]; omega) | (rw [IntKind.wrap_u64]; omega) | omega)
    · intro a W g hF hd
      refine ⟨fun _ => ?_, fun h => by rw [wanted_none rfl] at h; cases h⟩
      have h5 : a.eval (.tmp 14) = .pointer (some ⟨bx, 6, none⟩) := hd ⟨5, .data⟩ (by simp) rfl
      have kk0 := pc_bx_6 W g
      obtain ⟨ρ, hρ⟩ : ∃ ρ, a.eval = ρ := ⟨_, rfl⟩
      rw [hρ] at h5
      refine op_val ρ hρ (.slice a2 l2 c2) ?_ ⟨_, rfl, Old.refl _, rfl, (fun h => absurd h (by decide))⟩
      clear g hF hd hρ HK  ha3 px_bx b_bx pc_bx_5 pc_bx_6 pc_bx_7 pc_bx_8 
      go_simp
      all_goals (first | (rw [IntKind.wrap_i64]; omega) | (rw [IntKind.wrap_u64]; omega) | omega)
    · intro a W g hF hd
      refine ⟨fun _ => ?_, fun h => by rw [wanted_none rfl] at h; cases h⟩
      have h6 : a.eval (.tmp 15) = .slice a2 l2 c2 := hd ⟨6, .data⟩ (by simp) rfl
      obtain ⟨ρ, hρ⟩ : ∃ ρ, a.eval = ρ := ⟨_, rfl⟩
      rw [hρ] at h6
      refine op_val ρ hρ (.int .i64 (l2 : Int)) ?_ ⟨_, rfl, Old.refl _, rfl, (fun h => absurd h (by decide))⟩
      clear g hF hd hρ HK  ha3 px_bx b_bx pc_bx_5 pc_bx_6 pc_bx_7 pc_bx_8 
      go_simp
      all_goals (first | (rw [IntKind.wrap_i64]; omega) | (rw [IntKind.wrap_u64]; omega) | omega)
    · intro a W g hF hd
      refine ⟨fun _ => ?_, fun h => by rw [wanted_none rfl] at h; cases h⟩
      have h7 : a.eval (.tmp 16) = .int .i64 (l2 : Int) := hd ⟨7, .data⟩ (by simp) rfl
      have c1 : a.eval (.const (.int .i64 0)) = .int .i64 0 := rfl
      obtain ⟨ρ, hρ⟩ : ∃ ρ, a.eval = ρ := ⟨_, rfl⟩
      rw [hρ] at h7 c1
      refine op_val ρ hρ (.bool true) ?_ ⟨_, rfl, Old.refl _, rfl, (fun h => absurd h (by decide))⟩
      clear g hF hd hρ HK  ha3 px_bx b_bx pc_bx_5 pc_bx_6 pc_bx_7 pc_bx_8 
      go_simp
      all_goals (first | (rw [IntKind.wrap_i64]; omega) | (rw [IntKind.wrap_u64]; omega) | omega)
    · intro a W g hF hd
      refine ⟨fun _ => ?_, fun h => by rw [wanted_none rfl] at h; cases h⟩
      refine op_move ?_
      exact ⟨_, rfl, Old.refl _, hd ⟨8, .data⟩ (by simp) rfl, (fun h => absurd h (by decide))⟩
    · intro a W g hF hd
      refine ⟨fun _ => ?_, fun h => ?_⟩
      rotate_left
      · rw [wanted_of (j := 9) (s := 18) (want := true) (b := true) rfl rfl (by rw [hF.size, hsz]; decide) (hd ⟨9, .guard⟩ (by simp) rfl)] at h
        cases h
      refine op_guard ?_
      have e3 := (hF.same 3 slotGbc_no3).trans ha3
      obtain ⟨ρ, hρ⟩ : ∃ ρ, a.eval = ρ := ⟨_, rfl⟩
      rw [hρ] at e3
      refine op_val ρ hρ (.pointer (some ⟨bx, 7, none⟩)) ?_ ⟨_, rfl, Old.refl _, rfl, (fun h => absurd h (by decide))⟩
      clear g hF hd hρ HK  ha3 px_bx b_bx pc_bx_5 pc_bx_6 pc_bx_7 pc_bx_8 
      go_simp
      all_goals (first | (rw [IntKind.wrap_i64]; omega) | (rw [IntKind.wrap_u64]; omega) | omega)
    · intro a W g hF hd
      refine ⟨fun _ => ?_, fun h => ?_⟩
      rotate_left
      · rw [wanted_of (j := 9) (s := 18) (want := true) (b := true) rfl rfl (by rw [hF.size, hsz]; decide) (hd ⟨9, .guard⟩ (by simp) rfl)] at h
        cases h
      refine op_guard ?_
      have h10 : a.eval (.tmp 19) = .pointer (some ⟨bx, 7, none⟩) := hd ⟨10, .data⟩ (by simp) rfl
      obtain ⟨ρ, hρ⟩ : ∃ ρ, a.eval = ρ := ⟨_, rfl⟩
      rw [hρ] at h10
      refine op_val ρ hρ (.pointer (some ⟨bx, 8, none⟩)) ?_ ⟨_, rfl, Old.refl _, rfl, (fun h => absurd h (by decide))⟩
      clear g hF hd hρ HK  ha3 px_bx b_bx pc_bx_5 pc_bx_6 pc_bx_7 pc_bx_8 
      go_simp
      all_goals (first | (rw [IntKind.wrap_i64]; omega) | (rw [IntKind.wrap_u64]; omega) | omega)
    · intro a W g hF hd
      refine ⟨fun _ => ?_, fun h => ?_⟩
      rotate_left
      · rw [wanted_of (j := 9) (s := 18) (want := true) (b := true) rfl rfl (by rw [hF.size, hsz]; decide) (hd ⟨9, .guard⟩ (by simp) rfl)] at h
        cases h
      refine op_guard ?_
      have h11 : a.eval (.tmp 20) = .pointer (some ⟨bx, 8, none⟩) := hd ⟨11, .data⟩ (by simp) rfl
      have kk0 := pc_bx_8 W g
      obtain ⟨ρ, hρ⟩ : ∃ ρ, a.eval = ρ := ⟨_, rfl⟩
      rw [hρ] at h11
      refine op_val ρ hρ (.slice a3 l3 c3) ?_ ⟨_, rfl, Old.refl _, rfl, (fun h => absurd h (by decide))⟩
      clear g hF hd hρ HK  ha3 px_bx b_bx pc_bx_5 pc_bx_6 pc_bx_7 pc_bx_8 
      go_simp
      all_goals (first | (rw [IntKind.wrap_i64]; omega) | (rw [IntKind.wrap_u64]; omega) | omega)
    · intro a W g hF hd
      refine ⟨fun _ => ?_, fun h => ?_⟩
      rotate_left
      · rw [wanted_of (j := 9) (s := 18) (want := true) (b := true) rfl rfl (by rw [hF.size, hsz]; decide) (hd ⟨9, .guard⟩ (by simp) rfl)] at h
        cases h
      refine op_guard ?_
      have h12 : a.eval (.tmp 21) = .slice a3 l3 c3 := hd ⟨12, .data⟩ (by simp) rfl
      obtain ⟨ρ, hρ⟩ : ∃ ρ, a.eval = ρ := ⟨_, rfl⟩
      rw [hρ] at h12
      refine op_val ρ hρ (.int .i64 (l3 : Int)) ?_ ⟨_, rfl, Old.refl _, rfl, (fun h => absurd h (by decide))⟩
      clear g hF hd hρ HK  ha3 px_bx b_bx pc_bx_5 pc_bx_6 pc_bx_7 pc_bx_8 
      go_simp
      all_goals (first | (rw [IntKind.wrap_i64]; omega) | (rw [IntKind.wrap_u64]; omega) | omega)
    · intro a W g hF hd
      refine ⟨fun _ => ?_, fun h => ?_⟩
      rotate_left
      · rw [wanted_of (j := 9) (s := 18) (want := true) (b := true) rfl rfl (by rw [hF.size, hsz]; decide) (hd ⟨9, .guard⟩ (by simp) rfl)] at h
        cases h
      refine op_guard ?_
      have h13 : a.eval (.tmp 22) = .int .i64 (l3 : Int) := hd ⟨13, .data⟩ (by simp) rfl
      have c1 : a.eval (.const (.int .i64 0)) = .int .i64 0 := rfl
      obtain ⟨ρ, hρ⟩ : ∃ ρ, a.eval = ρ := ⟨_, rfl⟩
      rw [hρ] at h13 c1
      refine op_val ρ hρ (.bool true) ?_ ⟨_, rfl, Old.refl _, rfl, (fun h => absurd h (by decide))⟩
      clear g hF hd hρ HK  ha3 px_bx b_bx pc_bx_5 pc_bx_6 pc_bx_7 pc_bx_8 
      go_simp
      all_goals (first | (rw [IntKind.wrap_i64]; omega) | (rw [IntKind.wrap_u64]; omega) | omega)
    · intro a W g hF hd
      refine ⟨fun _ => ?_, fun h => by rw [wanted_none rfl] at h; cases h⟩
      have h9 : a.eval (.tmp 18) = .bool true := hd ⟨9, .data⟩ (by simp) rfl
      have h14 : a.eval (.tmp 23) = .bool true := hd ⟨14, .data⟩ (by simp) rfl
      obtain ⟨ρ, hρ⟩ : ∃ ρ, a.eval = ρ := ⟨_, rfl⟩
      rw [hρ] at h9 h14
      refine op_val ρ hρ (.bool true) ?_ ⟨_, rfl, Old.refl _, rfl, (fun h => absurd h (by decide))⟩
      clear g hF hd hρ HK  ha3 px_bx b_bx pc_bx_5 pc_bx_6 pc_bx_7 pc_bx_8 
      go_simp
      all_goals (first | (rw [IntKind.wrap_i64]; omega) | (rw [IntKind.wrap_u64]; omega) | omega)
    · intro a W g hF hd
      refine ⟨fun _ => ?_, fun h => by rw [wanted_none rfl] at h; cases h⟩
      refine op_move ?_
      exact ⟨_, rfl, Old.refl _, hd ⟨15, .data⟩ (by simp) rfl, (fun h => absurd h (by decide))⟩
    · intro a W g hF hd
      refine ⟨fun _ => ?_, fun h => ?_⟩
      rotate_left
      · rw [wanted_of (j := 16) (s := 25) (want := true) (b := true) rfl rfl (by rw [hF.size, hsz]; decide) (hd ⟨16, .guard⟩ (by simp) rfl)] at h
        cases h
      refine op_guard ?_
      have e3 := (hF.same 3 slotGbc_no3).trans ha3
      obtain ⟨ρ, hρ⟩ : ∃ ρ, a.eval = ρ := ⟨_, rfl⟩
      rw [hρ] at e3
      refine op_val ρ hρ (.pointer (some ⟨bx, 7, none⟩)) ?_ ⟨_, rfl, Old.refl _, rfl, (fun h => absurd h (by decide))⟩
      clear g hF hd hρ HK  ha3 px_bx b_bx pc_bx_5 pc_bx_6 pc_bx_7 pc_bx_8 
      go_simp
      all_goals (first | (rw [IntKind.wrap_i64]; omega) | (rw [IntKind.wrap_u64]; omega) | omega)
    · intro a W g hF hd
      refine ⟨fun _ => ?_, fun h => ?_⟩
      rotate_left
      · rw [wanted_of (j := 16) (s := 25) (want := true) (b := true) rfl rfl (by rw [hF.size, hsz]; decide) (hd ⟨16, .guard⟩ (by simp) rfl)] at h
        cases h
      refine op_guard ?_
      have h17 : a.eval (.tmp 26) = .pointer (some ⟨bx, 7, none⟩) := hd ⟨17, .data⟩ (by simp) rfl
      obtain ⟨ρ, hρ⟩ : ∃ ρ, a.eval = ρ := ⟨_, rfl⟩
      rw [hρ] at h17
      refine op_val ρ hρ (.pointer (some ⟨bx, 7, none⟩)) ?_ ⟨_, rfl, Old.refl _, rfl, (fun h => absurd h (by decide))⟩
      clear g hF hd hρ HK  ha3 px_bx b_bx pc_bx_5 pc_bx_6 pc_bx_7 pc_bx_8 
      go_simp
      all_goals (first | (rw [IntKind.wrap_i64]; omega) | (rw [IntKind.wrap_u64]; omega) | omega)
    · intro a W g hF hd
      refine ⟨fun _ => ?_, fun h => ?_⟩
      rotate_left
      · rw [wanted_of (j := 16) (s := 25) (want := true) (b := true) rfl rfl (by rw [hF.size, hsz]; decide) (hd ⟨16, .guard⟩ (by simp) rfl)] at h
        cases h
      refine op_guard ?_
      have h18 : a.eval (.tmp 27) = .pointer (some ⟨bx, 7, none⟩) := hd ⟨18, .data⟩ (by simp) rfl
      have kk0 := pc_bx_7 W g
      obtain ⟨ρ, hρ⟩ : ∃ ρ, a.eval = ρ := ⟨_, rfl⟩
      rw [hρ] at h18
      refine op_val ρ hρ (.bool sg) ?_ ⟨_, rfl, Old.refl _, rfl, (fun h => absurd h (by decide))⟩
      clear g hF hd hρ HK  ha3 px_bx b_bx pc_bx_5 pc_bx_6 pc_bx_7 pc_bx_8 
      go_simp
      all_goals (first | (rw [IntKind.wrap_i64]; omega) | (rw [IntKind.wrap_u64]; omega) | omega)
    · intro a W g hF hd
      refine ⟨fun _ => ?_, fun h => ?_⟩
      rotate_left
      · rw [wanted_of (j := 16) (s := 25) (want := true) (b := true) rfl rfl (by rw [hF.size, hsz]; decide) (hd ⟨16, .guard⟩ (by simp) rfl)] at h
        cases h
      refine op_guard ?_
      have h19 : a.eval (.tmp 28) = .bool sg := hd ⟨19, .data⟩ (by simp) rfl
      obtain ⟨ρ, hρ⟩ : ∃ ρ, a.eval = ρ := ⟨_, rfl⟩
      rw [hρ] at h19
      refine op_val ρ hρ (.bool (!sg)) ?_ ⟨_, rfl, Old.refl _, rfl, (fun h => absurd h (by decide))⟩
      clear g hF hd hρ HK  ha3 px_bx b_bx pc_bx_5 pc_bx_6 pc_bx_7 pc_bx_8 
      go_simp
      all_goals (first | (rw [IntKind.wrap_i64]; omega) | (rw [IntKind.wrap_u64]; omega) | omega)
    · intro a W g hF hd
      refine ⟨fun _ => ?_, fun h => by rw [wanted_none rfl] at h; cases h⟩
      have h16 : a.eval (.tmp 25) = .bool true := hd ⟨16, .data⟩ (by simp) rfl
      have h20 : a.eval (.tmp 29) = .bool (!sg) := hd ⟨20, .data⟩ (by simp) rfl
      obtain ⟨ρ, hρ⟩ : ∃ ρ, a.eval = ρ := ⟨_, rfl⟩
      rw [hρ] at h16 h20
      refine op_val ρ hρ (.bool (!sg)) ?_ ⟨_, rfl, Old.refl _, rfl, (fun h => absurd h (by decide))⟩
      clear g hF hd hρ HK  ha3 px_bx b_bx pc_bx_5 pc_bx_6 pc_bx_7 pc_bx_8 
      go_simp
      all_goals (first | (rw [IntKind.wrap_i64]; omega) | (rw [IntKind.wrap_u64]; omega) | omega)
    · intro a W g hF hd
      refine ⟨fun _ => ?_, fun h => by rw [wanted_none rfl] at h; cases h⟩
      refine op_assign ?_
      exact ⟨_, rfl, Old.refl _, hd ⟨3, .data⟩ (by simp) rfl, (fun h => absurd h (by decide))⟩
  · intro a W g hF hq hne
    have hput := fram_put (show Fram 23 slotGbc b0 a from hF) (fun i j hi hj => slotGbc_inj i hi j hj)
    have hk := HK.out (fun i => a.eval (.tmp (slotGbc i))) W g  (hq 22 (by decide))
    rw [← hput] at hk
    refine op_assign ?_
    show tailWp _ _ _ _ _
    show tailWp _ _ _ (Act.put a (some 6) (a.eval (.tmp 30))) _
    rw [show a.eval (.tmp 30) = .bool (!sg) from hq 21 (by decide)]
    exact hk
def slotGbd (i : Nat) : Nat := [31, 32, 33, 34, 35, 36, 37, 38, 39].getD i 0
theorem slotGbd_lt : ∀ i, i < 9 → slotGbd i < 89 := by decide
theorem slotGbd_inj : ∀ i, i < 9 → ∀ j, j < 9 → slotGbd i = slotGbd j → i = j := by decide
theorem slotGbd_no2 : ∀ i, i < 9 → slotGbd i ≠ 2 := by decide
theorem slotGbd_no3 : ∀ i, i < 9 → slotGbd i ≠ 3 := by decide
def qGbd (rb : Nat) (N T E : Int) (a3 : Option Addr) (l3 c3 : Nat) (a4 : Option Addr) (l4 c4 : Nat) (a6 : Option Addr) (l6 c6 : Nat) (bx : Nat) (kd M0 M1 M2 : Int) (x0 : Option Addr) (y0 z0 : Nat) (x1 : Option Addr) (y1 z1 : Nat) (x2 : Option Addr) (y2 z2 : Nat) (sg : Bool) (x3 : Option Addr) (y3 z3 : Nat) (x4 : Option Addr) (y4 z4 : Nat) (n : Nat) (B : Bool)  (i : Nat) (W : World) (x : Value) : Prop :=
  match i with
  | 0 => x = .agg #[.int .i64 N, .int .i64 T, .int .i64 E, .slice a3 l3 c3, .slice a4 l4 c4, .bool false, .slice a6 l6 c6]
  | 1 => x = .pointer (some ⟨bx, 9, none⟩)
  | 2 => x = .slice x4 y4 z4
  | 3 => x = .agg #[.int .i64 N, .int .i64 T, .int .i64 E, .slice a3 l3 c3, .slice a4 l4 c4, .bool false, .slice a6 l6 c6]
  | 4 => x = .pointer (some ⟨bx, 0, none⟩)
  | 5 => x = .int .i64 kd
  | 6 => x = .int .i64 (n : Int)
  | 7 => x = .bool B
  | 8 => x = .bool (!B)
  | _ => True
theorem qGbd_old (rb : Nat) (N T E : Int) (a3 : Option Addr) (l3 c3 : Nat) (a4 : Option Addr) (l4 c4 : Nat) (a6 : Option Addr) (l6 c6 : Nat) (bx : Nat) (kd M0 M1 M2 : Int) (x0 : Option Addr) (y0 z0 : Nat) (x1 : Option Addr) (y1 z1 : Nat) (x2 : Option Addr) (y2 z2 : Nat) (sg : Bool) (x3 : Option Addr) (y3 z3 : Nat) (x4 : Option Addr) (y4 z4 : Nat) (n : Nat) (B : Bool)   (i : Nat) (W W' : World) (x : Value) (h : qGbd rb N T E a3 l3 c3 a4 l4 c4 a6 l6 c6 bx kd M0 M1 M2 x0 y0 z0 x1 y1 z1 x2 y2 z2 sg x3 y3 z3 x4 y4 z4 n B  i W x) (qo : Old W W') : qGbd rb N T E a3 l3 c3 a4 l4 c4 a6 l6 c6 bx kd M0 M1 M2 x0 y0 z0 x1 y1 z1 x2 y2 z2 sg x3 y3 z3 x4 y4 z4 n B  i W' x := by
  unfold qGbd at h ⊢
  split at h
  all_goals first | exact h | trivial
set_option maxRecDepth 100000 in
set_option maxHeartbeats 8000000 in
theorem reg_Gbd (w0 : World) (rb : Nat) (N T E : Int) (a3 : Option Addr) (l3 c3 : Nat) (a4 : Option Addr) (l4 c4 : Nat) (a6 : Option Addr) (l6 c6 : Nat) (bx : Nat) (kd M0 M1 M2 : Int) (x0 : Option Addr) (y0 z0 : Nat) (x1 : Option Addr) (y1 z1 : Nat) (x2 : Option Addr) (y2 z2 : Nat) (sg : Bool) (x3 : Option Addr) (y3 z3 : Nat) (x4 : Option Addr) (y4 z4 : Nat) (n : Nat) (B : Bool)     (b_bx : w0.heap[bx]? = some (.cells #[.int .i64 kd, .int .i64 M0, .int .i64 M1, .int .i64 M2, .slice x0 y0 z0, .slice x1 y1 z1, .slice x2 y2 z2, .bool sg, .slice x3 y3 z3, .slice x4 y4 z4] 59 (0, 0))) (b_rb : w0.heap[rb]? = some (.cells #[.int .i64 N, .int .i64 T, .int .i64 E, .slice a3 l3 c3, .slice a4 l4 c4, .bool false, .slice a6 l6 c6] 81 (0, 0))) 
    
    (K1 : ∀ W, Old w0 W → Calls Tryz.prog 130 #[.agg #[.int .i64 N, .int .i64 T, .int .i64 E, .slice a3 l3 c3, .slice a4 l4 c4, .bool false, .slice a6 l6 c6], .int .i64 kd] W fun e w' => e = .returned (.int .i64 (n : Int)) ∧ Old W w')
    (K2 : ∀ W, Old w0 W → Calls Tryz.prog 129 #[.agg #[.int .i64 N, .int .i64 T, .int .i64 E, .slice a3 l3 c3, .slice a4 l4 c4, .bool false, .slice a6 l6 c6], .slice x4 y4 z4, .int .i64 (n : Int)] W fun e w' => e = .returned (.bool B) ∧ Old W w')
    (Q : Exit → Act → World → Prop) (b0 : Act) (hsz : b0.tmps.size = 89) (ha2 : b0.eval (.tmp 2) = .pointer (some ⟨rb, 0, none⟩)) (ha3 : b0.eval (.tmp 3) = .pointer (some ⟨bx, 0, none⟩))
    (HK : Hid (∀ (us : Nat → Value) (W : World) , Old w0 W → us 8 = .bool (!B) → Q .normal (putAll b0 ((List.range 9).map fun i => (slotGbd i, us i))) W)) :
    Code.wp Tryz.prog ((Tryz.f100.body.bind (regionAtmul 2)).getD .skip) Q b0 w0 := by
  conv => arg 2; whnf
  have px_bx : ∀ W, Old w0 W → W.heap[bx]? = some (.cells #[.int .i64 kd, .int .i64 M0, .int .i64 M1, .int .i64 M2, .slice x0 y0 z0, .slice x1 y1 z1, .slice x2 y2 z2, .bool sg, .slice x3 y3 z3, .slice x4 y4 z4] 59 (0, 0)) := fun W g => (g.block bx (lt_of_some b_bx)).trans b_bx
  have px_rb : ∀ W, Old w0 W → W.heap[rb]? = some (.cells #[.int .i64 N, .int .i64 T, .int .i64 E, .slice a3 l3 c3, .slice a4 l4 c4, .bool false, .slice a6 l6 c6] 81 (0, 0)) := fun W g => (g.block rb (lt_of_some b_rb)).trans b_rb
  have pc_bx_0 : ∀ W, Old w0 W → W.cell? ⟨bx, 0, none⟩ = some (.int .i64 kd) := fun W g => cell_of_row W bx 0 _ _ (0, 0) (px_bx W g)
  have pc_bx_9 : ∀ W, Old w0 W → W.cell? ⟨bx, 9, none⟩ = some (.slice x4 y4 z4) := fun W g => cell_of_row W bx 9 _ _ (0, 0) (px_bx W g)
  refine wp_region_old (by kernel_rfl) (by kernel_rfl) (by kernel_rfl) slotGbd (fun i hi => by rw [hsz]; exact slotGbd_lt i hi) (fun i j hi hj => slotGbd_inj i hi j hj) (qGbd rb N T E a3 l3 c3 a4 l4 c4 a6 l6 c6 bx kd M0 M1 M2 x0 y0 z0 x1 y1 z1 x2 y2 z2 sg x3 y3 z3 x4 y4 z4 n B  ) (qGbd_old rb N T E a3 l3 c3 a4 l4 c4 a6 l6 c6 bx kd M0 M1 M2 x0 y0 z0 x1 y1 z1 x2 y2 z2 sg x3 y3 z3 x4 y4 z4 n B  ) ?_ ?_
  · refine ⟨?_, ?_, ?_, ?_, ?_, ?_, ?_, ?_, ?_, trivial⟩
    · intro a W g hF hd
      have e2 := (hF.same 2 slotGbd_no2).trans ha2
      refine op_load (k := rb) e2 (px_rb W g) Tryz.underlying81 rfl (by kernel_rfl) ?_
      exact ⟨_, rfl, Old.refl _, rfl⟩
    · intro a W g hF hd
      have e3 := (hF.same 3 slotGbd_no3).trans ha3
      obtain ⟨ρ, hρ⟩ : ∃ ρ, a.eval = ρ := ⟨_, rfl⟩
      rw [hρ] at e3
      refine op_val ρ hρ (.pointer (some ⟨bx, 9, none⟩)) ?_ ⟨_, rfl, Old.refl _, rfl⟩
      clear g hF hd hρ HK K1 K2 ha2 ha3 px_bx b_bx px_rb b_rb pc_bx_0 pc_bx_9 
      go_simp
      all_goals (first | (rw [IntKind.wrap_i64]; omega) | (rw [IntKind.wrap_u64]; omega) | omega)
    · intro a W g hF hd
      have h1 : a.eval (.tmp 32) = .pointer (some ⟨bx, 9, none⟩) := hd ⟨1, .data⟩ (by simp) rfl
      have kk0 := pc_bx_9 W g
      obtain ⟨ρ, hρ⟩ : ∃ ρ, a.eval = ρ := ⟨_, rfl⟩
      rw [hρ] at h1
      refine op_val ρ hρ (.slice x4 y4 z4) ?_ ⟨_, rfl, Old.refl _, rfl⟩
      clear g hF hd hρ HK K1 K2 ha2 ha3 px_bx b_bx px_rb b_rb pc_bx_0 pc_bx_9 
      go_simp
      all_goals (first | (rw [IntKind.wrap_i64]; omega) | (rw [IntKind.wrap_u64]; omega) | omega)
    · intro a W g hF hd
      have e2 := (hF.same 2 slotGbd_no2).trans ha2
      refine op_load (k := rb) e2 (px_rb W g) Tryz.underlying81 rfl (by kernel_rfl) ?_
      exact ⟨_, rfl, Old.refl _, rfl⟩
    · intro a W g hF hd
      have e3 := (hF.same 3 slotGbd_no3).trans ha3
      obtain ⟨ρ, hρ⟩ : ∃ ρ, a.eval = ρ := ⟨_, rfl⟩
      rw [hρ] at e3
      refine op_val ρ hρ (.pointer (some ⟨bx, 0, none⟩)) ?_ ⟨_, rfl, Old.refl _, rfl⟩
      clear g hF hd hρ HK K1 K2 ha2 ha3 px_bx b_bx px_rb b_rb pc_bx_0 pc_bx_9 
      go_simp
      all_goals (first | (rw [IntKind.wrap_i64]; omega) | (rw [IntKind.wrap_u64]; omega) | omega)
    · intro a W g hF hd
      have h4 : a.eval (.tmp 35) = .pointer (some ⟨bx, 0, none⟩) := hd ⟨4, .data⟩ (by simp) rfl
      have kk0 := pc_bx_0 W g
      obtain ⟨ρ, hρ⟩ : ∃ ρ, a.eval = ρ := ⟨_, rfl⟩
      rw [hρ] at h4
      refine op_val ρ hρ (.int .i64 kd) ?_ ⟨_, rfl, Old.refl _, rfl⟩
      clear g hF hd hρ HK K1 K2 ha2 ha3 px_bx b_bx px_rb b_rb pc_bx_0 pc_bx_9 
      go_simp
      all_goals (first | (rw [IntKind.wrap_i64]; omega) | (rw [IntKind.wrap_u64]; omega) | omega)
    · intro a W g hF hd
      have h3 : a.eval (.tmp 34) = .agg #[.int .i64 N, .int .i64 T, .int .i64 E, .slice a3 l3 c3, .slice a4 l4 c4, .bool false, .slice a6 l6 c6] := hd ⟨3, .data⟩ (by simp) rfl
      have h5 : a.eval (.tmp 36) = .int .i64 kd := hd ⟨5, .data⟩ (by simp) rfl
      refine op_call_ret (R := fun v w' => v = .int .i64 (n : Int) ∧ Old W w') Tryz.call130 (vs := #[.agg #[.int .i64 N, .int .i64 T, .int .i64 E, .slice a3 l3 c3, .slice a4 l4 c4, .bool false, .slice a6 l6 c6], .int .i64 kd]) (by simp [h3, h5]) ((K1 W g).mono fun e w' h => ⟨_, h.1, rfl, h.2⟩) ?_
      rintro x w' ⟨rfl, g'⟩
      exact ⟨_, rfl, g', rfl⟩
    · intro a W g hF hd
      have h0 : a.eval (.tmp 31) = .agg #[.int .i64 N, .int .i64 T, .int .i64 E, .slice a3 l3 c3, .slice a4 l4 c4, .bool false, .slice a6 l6 c6] := hd ⟨0, .data⟩ (by simp) rfl
      have h2 : a.eval (.tmp 33) = .slice x4 y4 z4 := hd ⟨2, .data⟩ (by simp) rfl
      have h6 : a.eval (.tmp 37) = .int .i64 (n : Int) := hd ⟨6, .data⟩ (by simp) rfl
      refine op_call_ret (R := fun v w' => v = .bool B ∧ Old W w') Tryz.call129 (vs := #[.agg #[.int .i64 N, .int .i64 T, .int .i64 E, .slice a3 l3 c3, .slice a4 l4 c4, .bool false, .slice a6 l6 c6], .slice x4 y4 z4, .int .i64 (n : Int)]) (by simp [h0, h2, h6]) ((K2 W g).mono fun e w' h => ⟨_, h.1, rfl, h.2⟩) ?_
      rintro x w' ⟨rfl, g'⟩
      exact ⟨_, rfl, g', rfl⟩
    · intro a W g hF hd
      have h7 : a.eval (.tmp 38) = .bool B := hd ⟨7, .data⟩ (by simp) rfl
      obtain ⟨ρ, hρ⟩ : ∃ ρ, a.eval = ρ := ⟨_, rfl⟩
      rw [hρ] at h7
      refine op_val ρ hρ (.bool (!B)) ?_ ⟨_, rfl, Old.refl _, rfl⟩
      clear g hF hd hρ HK K1 K2 ha2 ha3 px_bx b_bx px_rb b_rb pc_bx_0 pc_bx_9 
      go_simp
      all_goals (first | (rw [IntKind.wrap_i64]; omega) | (rw [IntKind.wrap_u64]; omega) | omega)
  · intro a W g hF hq
    have hput := fram_put (show Fram 9 slotGbd b0 a from hF) (fun i j hi hj => slotGbd_inj i hi j hj)
    have hk := HK.out (fun i => a.eval (.tmp (slotGbd i))) W g  (hq 8 (by decide))
    rw [← hput] at hk
    exact hk
end Go.Proofs.YtanijpekdnkicaaGreatDoor
/- Proved: drawn regions of a box's Cipher and Bound. -/
namespace Go.Proofs.YtanijpekdnkicaaGreatDoor
open Go.ChangeShapes Go.WideShapes Go.ChangeAt Go.RowKit
set_option linter.unusedVariables false
set_option linter.unusedSimpArgs false
def slotLca (i : Nat) : Nat := [24, 25, 26, 27, 28, 29, 30, 31, 32, 33, 34, 35, 36, 37, 38, 39, 40, 41, 42, 43, 44, 45, 46, 47, 48, 49].getD i 0
theorem slotLca_lt : ∀ i, i < 26 → slotLca i < 50 := by decide
theorem slotLca_inj : ∀ i, i < 26 → ∀ j, j < 26 → slotLca i = slotLca j → i = j := by decide
theorem slotLca_no1 : ∀ i, i < 26 → slotLca i ≠ 1 := by decide
def qLca (bx : Nat) (kd N T E : Int) (a0 : Option Addr) (l0 c0 : Nat) (a1 : Option Addr) (l1 c1 : Nat) (a2 : Option Addr) (l2 c2 : Nat) (sg : Bool) (a3 : Option Addr) (l3 c3 : Nat) (a4 : Option Addr) (l4 c4 : Nat)  (i : Nat) (W : World) (x : Value) : Prop :=
  match i with
  | 0 => x = .pointer (some ⟨bx, 1, none⟩)
  | 1 => x = .agg #[.int .i64 N, .int .i64 T, .int .i64 E, .slice a0 l0 c0]
  | 2 => x = .pointer (some ⟨bx, 6, none⟩)
  | 3 => x = .agg #[.slice a2 l2 c2]
  | 4 => x = .bool false
  | 5 => x = .bool false
  | 6 => True
  | 7 => True
  | 8 => True
  | 9 => x = .bool false
  | 10 => x = .bool false
  | 11 => True
  | 12 => True
  | 13 => True
  | 14 => True
  | 15 => x = .bool false
  | 16 => x = .bool false
  | 17 => True
  | 18 => True
  | 19 => True
  | 20 => True
  | 21 => True
  | 22 => True
  | 23 => True
  | 24 => True
  | 25 => x = .bool false
  | _ => True
theorem qLca_old (bx : Nat) (kd N T E : Int) (a0 : Option Addr) (l0 c0 : Nat) (a1 : Option Addr) (l1 c1 : Nat) (a2 : Option Addr) (l2 c2 : Nat) (sg : Bool) (a3 : Option Addr) (l3 c3 : Nat) (a4 : Option Addr) (l4 c4 : Nat)   (i : Nat) (W W' : World) (x : Value) (h : qLca bx kd N T E a0 l0 c0 a1 l1 c1 a2 l2 c2 sg a3 l3 c3 a4 l4 c4  i W x) (qo : Old W W') : qLca bx kd N T E a0 l0 c0 a1 l1 c1 a2 l2 c2 sg a3 l3 c3 a4 l4 c4  i W' x := by
  unfold qLca at h ⊢
  split at h
  all_goals first | exact h | trivial
set_option maxRecDepth 100000 in
set_option maxHeartbeats 8000000 in
theorem reg_Lca (w0 : World) (bx : Nat) (kd N T E : Int) (a0 : Option Addr) (l0 c0 : Nat) (a1 : Option Addr) (l1 c1 : Nat) (a2 : Option Addr) (l2 c2 : Nat) (sg : Bool) (a3 : Option Addr) (l3 c3 : Nat) (a4 : Option Addr) (l4 c4 : Nat)     (b_bx : w0.heap[bx]? = some (.cells #[.int .i64 kd, .int .i64 N, .int .i64 T, .int .i64 E, .slice a0 l0 c0, .slice a1 l1 c1, .slice a2 l2 c2, .bool sg, .slice a3 l3 c3, .slice a4 l4 c4] 59 (0, 0))) 
    
    (K1 : ∀ W, Old w0 W → Calls Tryz.prog 76 #[.agg #[.int .i64 N, .int .i64 T, .int .i64 E, .slice a0 l0 c0], .agg #[.slice a2 l2 c2]] W fun e w' => e = .returned (.bool false) ∧ Old W w')
    (Q : Exit → Act → World → Prop) (b0 : Act) (hsz : b0.tmps.size = 50) (ha1 : b0.eval (.tmp 1) = .pointer (some ⟨bx, 0, none⟩))
    (HK : Hid (∀ (us : Nat → Value) (W : World) , Old w0 W → Q .normal ((putAll b0 ((List.range 26).map fun i => (slotLca i, us i))).put (some 2) (.bool false)) W)) :
    Code.wp Tryz.prog ((Tryz.f97.body.bind (regionAtmul 3)).getD .skip) Q b0 w0 := by
  conv => arg 2; whnf
  have px_bx : ∀ W, Old w0 W → W.heap[bx]? = some (.cells #[.int .i64 kd, .int .i64 N, .int .i64 T, .int .i64 E, .slice a0 l0 c0, .slice a1 l1 c1, .slice a2 l2 c2, .bool sg, .slice a3 l3 c3, .slice a4 l4 c4] 59 (0, 0)) := fun W g => (g.block bx (lt_of_some b_bx)).trans b_bx
  have pc_bx_1 : ∀ W, Old w0 W → W.cell? ⟨bx, 1, none⟩ = some (.int .i64 N) := fun W g => cell_of_row W bx 1 _ _ (0, 0) (px_bx W g)
  have pc_bx_2 : ∀ W, Old w0 W → W.cell? ⟨bx, 2, none⟩ = some (.int .i64 T) := fun W g => cell_of_row W bx 2 _ _ (0, 0) (px_bx W g)
  have pc_bx_3 : ∀ W, Old w0 W → W.cell? ⟨bx, 3, none⟩ = some (.int .i64 E) := fun W g => cell_of_row W bx 3 _ _ (0, 0) (px_bx W g)
  have pc_bx_4 : ∀ W, Old w0 W → W.cell? ⟨bx, 4, none⟩ = some (.slice a0 l0 c0) := fun W g => cell_of_row W bx 4 _ _ (0, 0) (px_bx W g)
  have pc_bx_6 : ∀ W, Old w0 W → W.cell? ⟨bx, 6, none⟩ = some (.slice a2 l2 c2) := fun W g => cell_of_row W bx 6 _ _ (0, 0) (px_bx W g)
  refine wp_region_tailG 26 (by decide) (by kernel_rfl) (by kernel_rfl) (by kernel_rfl) (by kernel_rfl) (by kernel_rfl) slotLca (fun i hi => by rw [hsz]; exact slotLca_lt i hi) (fun i j hi hj => slotLca_inj i hi j hj) (qLca bx kd N T E a0 l0 c0 a1 l1 c1 a2 l2 c2 sg a3 l3 c3 a4 l4 c4  ) (qLca_old bx kd N T E a0 l0 c0 a1 l1 c1 a2 l2 c2 sg a3 l3 c3 a4 l4 c4  ) [] (fun i W v hi hq => by cases hi) ?_ ?_
  · refine ⟨?_, ?_, ?_, ?_, ?_, ?_, ?_, ?_, ?_, ?_, ?_, ?_, ?_, ?_, ?_, ?_, ?_, ?_, ?_, ?_, ?_, ?_, ?_, ?_, ?_, ?_, trivial⟩
    · intro a W g hF hd
      refine ⟨fun _ => ?_, fun h => by rw [wanted_none rfl] at h; cases h⟩
      have e1 := (hF.same 1 slotLca_no1).trans ha1
      obtain ⟨ρ, hρ⟩ : ∃ ρ, a.eval = ρ := ⟨_, rfl⟩
      rw [hρ] at e1
      refine op_val ρ hρ (.pointer (some ⟨bx, 1, none⟩)) ?_ ⟨_, rfl, Old.refl _, rfl, (fun h => absurd h (by decide))⟩
      clear g hF hd hρ HK K1 ha1 px_bx b_bx pc_bx_1 pc_bx_2 pc_bx_3 pc_bx_4 pc_bx_6 
      go_simp
      all_goals (first | (rw [IntKind.wrap_i64]; omega) | (rw [IntKind.wrap_u64]; omega) | omega)
    · intro a W g hF hd
      refine ⟨fun _ => ?_, fun h => by rw [wanted_none rfl] at h; cases h⟩
      have h0 : a.eval (.tmp 24) = .pointer (some ⟨bx, 1, none⟩) := hd ⟨0, .data⟩ (by simp) rfl
      have kk0 := pc_bx_1 W g
      have kk1 := pc_bx_2 W g
      have kk2 := pc_bx_3 W g
      have kk3 := pc_bx_4 W g
      obtain ⟨ρ, hρ⟩ : ∃ ρ, a.eval = ρ := ⟨_, rfl⟩
      rw [hρ] at h0
      refine op_val ρ hρ (.agg #[.int .i64 N, .int .i64 T, .int .i64 E, .slice a0 l0 c0]) ?_ ⟨_, rfl, Old.refl _, rfl, (fun h => absurd h (by decide))⟩
      clear g hF hd hρ HK K1 ha1 px_bx b_bx pc_bx_1 pc_bx_2 pc_bx_3 pc_bx_4 pc_bx_6 
      go_simp
      all_goals (first | (rw [IntKind.wrap_i64]; omega) | (rw [IntKind.wrap_u64]; omega) | omega)
    · intro a W g hF hd
      refine ⟨fun _ => ?_, fun h => by rw [wanted_none rfl] at h; cases h⟩
      have e1 := (hF.same 1 slotLca_no1).trans ha1
      obtain ⟨ρ, hρ⟩ : ∃ ρ, a.eval = ρ := ⟨_, rfl⟩
      rw [hρ] at e1
      refine op_val ρ hρ (.pointer (some ⟨bx, 6, none⟩)) ?_ ⟨_, rfl, Old.refl _, rfl, (fun h => absurd h (by decide))⟩
      clear g hF hd hρ HK K1 ha1 px_bx b_bx pc_bx_1 pc_bx_2 pc_bx_3 pc_bx_4 pc_bx_6 
      go_simp
      all_goals (first | (rw [IntKind.wrap_i64]; omega) | (rw [IntKind.wrap_u64]; omega) | omega)
    · intro a W g hF hd
      refine ⟨fun _ => ?_, fun h => by rw [wanted_none rfl] at h; cases h⟩
      have h2 : a.eval (.tmp 26) = .pointer (some ⟨bx, 6, none⟩) := hd ⟨2, .data⟩ (by simp) rfl
      have kk0 := pc_bx_6 W g
      obtain ⟨ρ, hρ⟩ : ∃ ρ, a.eval = ρ := ⟨_, rfl⟩
      rw [hρ] at h2
      refine op_val ρ hρ (.agg #[.slice a2 l2 c2]) ?_ ⟨_, rfl, Old.refl _, rfl, (fun h => absurd h (by decide))⟩
      clear g hF hd hρ HK K1 ha1 px_bx b_bx pc_bx_1 pc_bx_2 pc_bx_3 pc_bx_4 pc_bx_6 
      go_simp
      all_goals (first | (rw [IntKind.wrap_i64]; omega) | (rw [IntKind.wrap_u64]; omega) | omega)
    · intro a W g hF hd
      refine ⟨fun _ => ?_, fun h => by rw [wanted_none rfl] at h; cases h⟩
      have h1 : a.eval (.tmp 25) = .agg #[.int .i64 N, .int .i64 T, .int .i64 E, .slice a0 l0 c0] := hd ⟨1, .data⟩ (by simp) rfl
      have h3 : a.eval (.tmp 27) = .agg #[.slice a2 l2 c2] := hd ⟨3, .data⟩ (by simp) rfl
      refine op_call_ret (R := fun v w' => v = .bool false ∧ Old W w') Tryz.call76 (vs := #[.agg #[.int .i64 N, .int .i64 T, .int .i64 E, .slice a0 l0 c0], .agg #[.slice a2 l2 c2]]) (by simp [h1, h3]) ((K1 W g).mono fun e w' h => ⟨_, h.1, rfl, h.2⟩) ?_
      rintro x w' ⟨rfl, g'⟩
      exact ⟨_, rfl, g', rfl, (fun h => absurd h (by decide))⟩
    · intro a W g hF hd
      refine ⟨fun _ => ?_, fun h => by rw [wanted_none rfl] at h; cases h⟩
      refine op_move ?_
      exact ⟨_, rfl, Old.refl _, hd ⟨4, .data⟩ (by simp) rfl, (fun h => absurd h (by decide))⟩
    · intro a W g hF hd
      refine ⟨fun h => ?_, fun _ => ⟨rfl, trivial, rfl⟩⟩
      rw [wanted_of (j := 5) (s := 29) (want := true) (b := false) rfl rfl (by rw [hF.size, hsz]; decide) (hd ⟨5, .guard⟩ (by simp) rfl)] at h
      cases h
    · intro a W g hF hd
      refine ⟨fun h => ?_, fun _ => ⟨rfl, trivial, rfl⟩⟩
      rw [wanted_of (j := 5) (s := 29) (want := true) (b := false) rfl rfl (by rw [hF.size, hsz]; decide) (hd ⟨5, .guard⟩ (by simp) rfl)] at h
      cases h
    · intro a W g hF hd
      refine ⟨fun h => ?_, fun _ => ⟨rfl, trivial, rfl⟩⟩
      rw [wanted_of (j := 5) (s := 29) (want := true) (b := false) rfl rfl (by rw [hF.size, hsz]; decide) (hd ⟨5, .guard⟩ (by simp) rfl)] at h
      cases h
    · intro a W g hF hd
      refine ⟨fun _ => ?_, fun h => by rw [wanted_none rfl] at h; cases h⟩
      have h5 : a.eval (.tmp 29) = .bool false := hd ⟨5, .data⟩ (by simp) rfl
      have c1 : a.eval (.const (.bool false)) = .bool false := rfl
      obtain ⟨ρ, hρ⟩ : ∃ ρ, a.eval = ρ := ⟨_, rfl⟩
      rw [hρ] at h5 c1
      refine op_val ρ hρ (.bool false) ?_ ⟨_, rfl, Old.refl _, rfl, (fun h => absurd h (by decide))⟩
      clear g hF hd hρ HK K1 ha1 px_bx b_bx pc_bx_1 pc_bx_2 pc_bx_3 pc_bx_4 pc_bx_6 
      go_simp
      all_goals (first | (rw [IntKind.wrap_i64]; omega) | (rw [IntKind.wrap_u64]; omega) | omega)
    · intro a W g hF hd
      refine ⟨fun _ => ?_, fun h => by rw [wanted_none rfl] at h; cases h⟩
      refine op_move ?_
      exact ⟨_, rfl, Old.refl _, hd ⟨9, .data⟩ (by simp) rfl, (fun h => absurd h (by decide))⟩
    · intro a W g hF hd
      refine ⟨fun h => ?_, fun _ => ⟨rfl, trivial, rfl⟩⟩
      rw [wanted_of (j := 10) (s := 34) (want := true) (b := false) rfl rfl (by rw [hF.size, hsz]; decide) (hd ⟨10, .guard⟩ (by simp) rfl)] at h
      cases h
    · intro a W g hF hd
      refine ⟨fun h => ?_, fun _ => ⟨rfl, trivial, rfl⟩⟩
      rw [wanted_of (j := 10) (s := 34) (want := true) (b := false) rfl rfl (by rw [hF.size, hsz]; decide) (hd ⟨10, .guard⟩ (by simp) rfl)] at h
      cases h
    · intro a W g hF hd
      refine ⟨fun h => ?_, fun _ => ⟨rfl, trivial, rfl⟩⟩
      rw [wanted_of (j := 10) (s := 34) (want := true) (b := false) rfl rfl (by rw [hF.size, hsz]; decide) (hd ⟨10, .guard⟩ (by simp) rfl)] at h
      cases h
    · intro a W g hF hd
      refine ⟨fun h => ?_, fun _ => ⟨rfl, trivial, rfl⟩⟩
      rw [wanted_of (j := 10) (s := 34) (want := true) (b := false) rfl rfl (by rw [hF.size, hsz]; decide) (hd ⟨10, .guard⟩ (by simp) rfl)] at h
      cases h
    · intro a W g hF hd
      refine ⟨fun _ => ?_, fun h => by rw [wanted_none rfl] at h; cases h⟩
      have h10 : a.eval (.tmp 34) = .bool false := hd ⟨10, .data⟩ (by simp) rfl
      have c1 : a.eval (.const (.bool false)) = .bool false := rfl
      obtain ⟨ρ, hρ⟩ : ∃ ρ, a.eval = ρ := ⟨_, rfl⟩
      rw [hρ] at h10 c1
      refine op_val ρ hρ (.bool false) ?_ ⟨_, rfl, Old.refl _, rfl, (fun h => absurd h (by decide))⟩
      clear g hF hd hρ HK K1 ha1 px_bx b_bx pc_bx_1 pc_bx_2 pc_bx_3 pc_bx_4 pc_bx_6 
      go_simp
      all_goals (first | (rw [IntKind.wrap_i64]; omega) | (rw [IntKind.wrap_u64]; omega) | omega)
    · intro a W g hF hd
      refine ⟨fun _ => ?_, fun h => by rw [wanted_none rfl] at h; cases h⟩
      refine op_move ?_
      exact ⟨_, rfl, Old.refl _, hd ⟨15, .data⟩ (by simp) rfl, (fun h => absurd h (by decide))⟩
    · intro a W g hF hd
      refine ⟨fun h => ?_, fun _ => ⟨rfl, trivial, rfl⟩⟩
      rw [wanted_of (j := 16) (s := 40) (want := true) (b := false) rfl rfl (by rw [hF.size, hsz]; decide) (hd ⟨16, .guard⟩ (by simp) rfl)] at h
      cases h
    · intro a W g hF hd
      refine ⟨fun h => ?_, fun _ => ⟨rfl, trivial, rfl⟩⟩
      rw [wanted_of (j := 16) (s := 40) (want := true) (b := false) rfl rfl (by rw [hF.size, hsz]; decide) (hd ⟨16, .guard⟩ (by simp) rfl)] at h
      cases h
    · intro a W g hF hd
      refine ⟨fun h => ?_, fun _ => ⟨rfl, trivial, rfl⟩⟩
      rw [wanted_of (j := 16) (s := 40) (want := true) (b := false) rfl rfl (by rw [hF.size, hsz]; decide) (hd ⟨16, .guard⟩ (by simp) rfl)] at h
      cases h
    · intro a W g hF hd
      refine ⟨fun h => ?_, fun _ => ⟨rfl, trivial, rfl⟩⟩
      rw [wanted_of (j := 16) (s := 40) (want := true) (b := false) rfl rfl (by rw [hF.size, hsz]; decide) (hd ⟨16, .guard⟩ (by simp) rfl)] at h
      cases h
    · intro a W g hF hd
      refine ⟨fun h => ?_, fun _ => ⟨rfl, trivial, rfl⟩⟩
      rw [wanted_of (j := 16) (s := 40) (want := true) (b := false) rfl rfl (by rw [hF.size, hsz]; decide) (hd ⟨16, .guard⟩ (by simp) rfl)] at h
      cases h
    · intro a W g hF hd
      refine ⟨fun h => ?_, fun _ => ⟨rfl, trivial, rfl⟩⟩
      rw [wanted_of (j := 16) (s := 40) (want := true) (b := false) rfl rfl (by rw [hF.size, hsz]; decide) (hd ⟨16, .guard⟩ (by simp) rfl)] at h
      cases h
    · intro a W g hF hd
      refine ⟨fun h => ?_, fun _ => ⟨rfl, trivial, rfl⟩⟩
      rw [wanted_of (j := 16) (s := 40) (want := true) (b := false) rfl rfl (by rw [hF.size, hsz]; decide) (hd ⟨16, .guard⟩ (by simp) rfl)] at h
      cases h
    · intro a W g hF hd
      refine ⟨fun h => ?_, fun _ => ⟨rfl, trivial, rfl⟩⟩
      rw [wanted_of (j := 16) (s := 40) (want := true) (b := false) rfl rfl (by rw [hF.size, hsz]; decide) (hd ⟨16, .guard⟩ (by simp) rfl)] at h
      cases h
    · intro a W g hF hd
      refine ⟨fun _ => ?_, fun h => by rw [wanted_none rfl] at h; cases h⟩
      have h16 : a.eval (.tmp 40) = .bool false := hd ⟨16, .data⟩ (by simp) rfl
      have c1 : a.eval (.const (.bool false)) = .bool false := rfl
      obtain ⟨ρ, hρ⟩ : ∃ ρ, a.eval = ρ := ⟨_, rfl⟩
      rw [hρ] at h16 c1
      refine op_val ρ hρ (.bool false) ?_ ⟨_, rfl, Old.refl _, rfl, (fun h => absurd h (by decide))⟩
      clear g hF hd hρ HK K1 ha1 px_bx b_bx pc_bx_1 pc_bx_2 pc_bx_3 pc_bx_4 pc_bx_6 
      go_simp
      all_goals (first | (rw [IntKind.wrap_i64]; omega) | (rw [IntKind.wrap_u64]; omega) | omega)
  · intro a W g hF hq hne
    have hput := fram_put (show Fram 26 slotLca b0 a from hF) (fun i j hi hj => slotLca_inj i hi j hj)
    have hk := HK.out (fun i => a.eval (.tmp (slotLca i))) W g  
    rw [← hput] at hk
    refine op_assign ?_
    show tailWp _ _ _ _ _
    show tailWp _ _ _ (Act.put a (some 2) (a.eval (.tmp 49))) _
    rw [show a.eval (.tmp 49) = .bool false from hq 25 (by decide)]
    exact hk
def slotLcb (i : Nat) : Nat := [24, 25, 26, 27, 28, 29, 30, 31, 32, 33, 34, 35, 36, 37, 38, 39, 40, 41, 42, 43, 44, 45, 46, 47, 48, 49].getD i 0
theorem slotLcb_lt : ∀ i, i < 26 → slotLcb i < 50 := by decide
theorem slotLcb_inj : ∀ i, i < 26 → ∀ j, j < 26 → slotLcb i = slotLcb j → i = j := by decide
theorem slotLcb_no1 : ∀ i, i < 26 → slotLcb i ≠ 1 := by decide
def qLcb (bx : Nat) (kd N T E : Int) (a0 : Option Addr) (l0 c0 : Nat) (a1 : Option Addr) (l1 c1 : Nat) (a2 : Option Addr) (l2 c2 : Nat) (sg : Bool) (a3 : Option Addr) (l3 c3 : Nat) (a4 : Option Addr) (l4 c4 : Nat)  (i : Nat) (W : World) (x : Value) : Prop :=
  match i with
  | 0 => x = .pointer (some ⟨bx, 1, none⟩)
  | 1 => x = .agg #[.int .i64 N, .int .i64 T, .int .i64 E, .slice a0 l0 c0]
  | 2 => x = .pointer (some ⟨bx, 6, none⟩)
  | 3 => x = .agg #[.slice a2 l2 c2]
  | 4 => x = .bool true
  | 5 => x = .bool true
  | 6 => x = .pointer (some ⟨bx, 7, none⟩)
  | 7 => x = .agg #[.bool sg, .slice a3 l3 c3]
  | 8 => x = .bool false
  | 9 => x = .bool false
  | 10 => x = .bool false
  | 11 => True
  | 12 => True
  | 13 => True
  | 14 => True
  | 15 => x = .bool false
  | 16 => x = .bool false
  | 17 => True
  | 18 => True
  | 19 => True
  | 20 => True
  | 21 => True
  | 22 => True
  | 23 => True
  | 24 => True
  | 25 => x = .bool false
  | _ => True
theorem qLcb_old (bx : Nat) (kd N T E : Int) (a0 : Option Addr) (l0 c0 : Nat) (a1 : Option Addr) (l1 c1 : Nat) (a2 : Option Addr) (l2 c2 : Nat) (sg : Bool) (a3 : Option Addr) (l3 c3 : Nat) (a4 : Option Addr) (l4 c4 : Nat)   (i : Nat) (W W' : World) (x : Value) (h : qLcb bx kd N T E a0 l0 c0 a1 l1 c1 a2 l2 c2 sg a3 l3 c3 a4 l4 c4  i W x) (qo : Old W W') : qLcb bx kd N T E a0 l0 c0 a1 l1 c1 a2 l2 c2 sg a3 l3 c3 a4 l4 c4  i W' x := by
  unfold qLcb at h ⊢
  split at h
  all_goals first | exact h | trivial
set_option maxRecDepth 100000 in
set_option maxHeartbeats 8000000 in
theorem reg_Lcb (w0 : World) (bx : Nat) (kd N T E : Int) (a0 : Option Addr) (l0 c0 : Nat) (a1 : Option Addr) (l1 c1 : Nat) (a2 : Option Addr) (l2 c2 : Nat) (sg : Bool) (a3 : Option Addr) (l3 c3 : Nat) (a4 : Option Addr) (l4 c4 : Nat)     (b_bx : w0.heap[bx]? = some (.cells #[.int .i64 kd, .int .i64 N, .int .i64 T, .int .i64 E, .slice a0 l0 c0, .slice a1 l1 c1, .slice a2 l2 c2, .bool sg, .slice a3 l3 c3, .slice a4 l4 c4] 59 (0, 0))) 
    
    (K1 : ∀ W, Old w0 W → Calls Tryz.prog 76 #[.agg #[.int .i64 N, .int .i64 T, .int .i64 E, .slice a0 l0 c0], .agg #[.slice a2 l2 c2]] W fun e w' => e = .returned (.bool true) ∧ Old W w')
    (K2 : ∀ W, Old w0 W → Calls Tryz.prog 124 #[.agg #[.bool sg, .slice a3 l3 c3]] W fun e w' => e = .returned (.bool false) ∧ Old W w')
    (Q : Exit → Act → World → Prop) (b0 : Act) (hsz : b0.tmps.size = 50) (ha1 : b0.eval (.tmp 1) = .pointer (some ⟨bx, 0, none⟩))
    (HK : Hid (∀ (us : Nat → Value) (W : World) , Old w0 W → Q .normal ((putAll b0 ((List.range 26).map fun i => (slotLcb i, us i))).put (some 2) (.bool false)) W)) :
    Code.wp Tryz.prog ((Tryz.f97.body.bind (regionAtmul 3)).getD .skip) Q b0 w0 := by
  conv => arg 2; whnf
  have px_bx : ∀ W, Old w0 W → W.heap[bx]? = some (.cells #[.int .i64 kd, .int .i64 N, .int .i64 T, .int .i64 E, .slice a0 l0 c0, .slice a1 l1 c1, .slice a2 l2 c2, .bool sg, .slice a3 l3 c3, .slice a4 l4 c4] 59 (0, 0)) := fun W g => (g.block bx (lt_of_some b_bx)).trans b_bx
  have pc_bx_1 : ∀ W, Old w0 W → W.cell? ⟨bx, 1, none⟩ = some (.int .i64 N) := fun W g => cell_of_row W bx 1 _ _ (0, 0) (px_bx W g)
  have pc_bx_2 : ∀ W, Old w0 W → W.cell? ⟨bx, 2, none⟩ = some (.int .i64 T) := fun W g => cell_of_row W bx 2 _ _ (0, 0) (px_bx W g)
  have pc_bx_3 : ∀ W, Old w0 W → W.cell? ⟨bx, 3, none⟩ = some (.int .i64 E) := fun W g => cell_of_row W bx 3 _ _ (0, 0) (px_bx W g)
  have pc_bx_4 : ∀ W, Old w0 W → W.cell? ⟨bx, 4, none⟩ = some (.slice a0 l0 c0) := fun W g => cell_of_row W bx 4 _ _ (0, 0) (px_bx W g)
  have pc_bx_6 : ∀ W, Old w0 W → W.cell? ⟨bx, 6, none⟩ = some (.slice a2 l2 c2) := fun W g => cell_of_row W bx 6 _ _ (0, 0) (px_bx W g)
  have pc_bx_7 : ∀ W, Old w0 W → W.cell? ⟨bx, 7, none⟩ = some (.bool sg) := fun W g => cell_of_row W bx 7 _ _ (0, 0) (px_bx W g)
  have pc_bx_8 : ∀ W, Old w0 W → W.cell? ⟨bx, 8, none⟩ = some (.slice a3 l3 c3) := fun W g => cell_of_row W bx 8 _ _ (0, 0) (px_bx W g)
  refine wp_region_tailG 26 (by decide) (by kernel_rfl) (by kernel_rfl) (by kernel_rfl) (by kernel_rfl) (by kernel_rfl) slotLcb (fun i hi => by rw [hsz]; exact slotLcb_lt i hi) (fun i j hi hj => slotLcb_inj i hi j hj) (qLcb bx kd N T E a0 l0 c0 a1 l1 c1 a2 l2 c2 sg a3 l3 c3 a4 l4 c4  ) (qLcb_old bx kd N T E a0 l0 c0 a1 l1 c1 a2 l2 c2 sg a3 l3 c3 a4 l4 c4  ) [] (fun i W v hi hq => by cases hi) ?_ ?_
  · refine ⟨?_, ?_, ?_, ?_, ?_, ?_, ?_, ?_, ?_, ?_, ?_, ?_, ?_, ?_, ?_, ?_, ?_, ?_, ?_, ?_, ?_, ?_, ?_, ?_, ?_, ?_, trivial⟩
    · intro a W g hF hd
      refine ⟨fun _ => ?_, fun h => by rw [wanted_none rfl] at h; cases h⟩
      have e1 := (hF.same 1 slotLcb_no1).trans ha1
      obtain ⟨ρ, hρ⟩ : ∃ ρ, a.eval = ρ := ⟨_, rfl⟩
      rw [hρ] at e1
      refine op_val ρ hρ (.pointer (some ⟨bx, 1, none⟩)) ?_ ⟨_, rfl, Old.refl _, rfl, (fun h => absurd h (by decide))⟩
      clear g hF hd hρ HK K1 K2 ha1 px_bx b_bx pc_bx_1 pc_bx_2 pc_bx_3 pc_bx_4 pc_bx_6 pc_bx_7 pc_bx_8 
      go_simp
      all_goals (first | (rw [IntKind.wrap_i64]; omega) | (rw [IntKind.wrap_u64]; omega) | omega)
    · intro a W g hF hd
      refine ⟨fun _ => ?_, fun h => by rw [wanted_none rfl] at h; cases h⟩
      have h0 : a.eval (.tmp 24) = .pointer (some ⟨bx, 1, none⟩) := hd ⟨0, .data⟩ (by simp) rfl
      have kk0 := pc_bx_1 W g
      have kk1 := pc_bx_2 W g
      have kk2 := pc_bx_3 W g
      have kk3 := pc_bx_4 W g
      obtain ⟨ρ, hρ⟩ : ∃ ρ, a.eval = ρ := ⟨_, rfl⟩
      rw [hρ] at h0
      refine op_val ρ hρ (.agg #[.int .i64 N, .int .i64 T, .int .i64 E, .slice a0 l0 c0]) ?_ ⟨_, rfl, Old.refl _, rfl, (fun h => absurd h (by decide))⟩
      clear g hF hd hρ HK K1 K2 ha1 px_bx b_bx pc_bx_1 pc_bx_2 pc_bx_3 pc_bx_4 pc_bx_6 pc_bx_7 pc_bx_8 
      go_simp
      all_goals (first | (rw [IntKind.wrap_i64]; omega) | (rw [IntKind.wrap_u64]; omega) | omega)
    · intro a W g hF hd
      refine ⟨fun _ => ?_, fun h => by rw [wanted_none rfl] at h; cases h⟩
      have e1 := (hF.same 1 slotLcb_no1).trans ha1
      obtain ⟨ρ, hρ⟩ : ∃ ρ, a.eval = ρ := ⟨_, rfl⟩
      rw [hρ] at e1
      refine op_val ρ hρ (.pointer (some ⟨bx, 6, none⟩)) ?_ ⟨_, rfl, Old.refl _, rfl, (fun h => absurd h (by decide))⟩
      clear g hF hd hρ HK K1 K2 ha1 px_bx b_bx pc_bx_1 pc_bx_2 pc_bx_3 pc_bx_4 pc_bx_6 pc_bx_7 pc_bx_8 
      go_simp
      all_goals (first | (rw [IntKind.wrap_i64]; omega) | (rw [IntKind.wrap_u64]; omega) | omega)
    · intro a W g hF hd
      refine ⟨fun _ => ?_, fun h => by rw [wanted_none rfl] at h; cases h⟩
      have h2 : a.eval (.tmp 26) = .pointer (some ⟨bx, 6, none⟩) := hd ⟨2, .data⟩ (by simp) rfl
      have kk0 := pc_bx_6 W g
      obtain ⟨ρ, hρ⟩ : ∃ ρ, a.eval = ρ := ⟨_, rfl⟩
      rw [hρ] at h2
      refine op_val ρ hρ (.agg #[.slice a2 l2 c2]) ?_ ⟨_, rfl, Old.refl _, rfl, (fun h => absurd h (by decide))⟩
      clear g hF hd hρ HK K1 K2 ha1 px_bx b_bx pc_bx_1 pc_bx_2 pc_bx_3 pc_bx_4 pc_bx_6 pc_bx_7 pc_bx_8 
      go_simp
      all_goals (first | (rw [IntKind.wrap_i64]; omega) | (rw [IntKind.wrap_u64]; omega) | omega)
    · intro a W g hF hd
      refine ⟨fun _ => ?_, fun h => by rw [wanted_none rfl] at h; cases h⟩
      have h1 : a.eval (.tmp 25) = .agg #[.int .i64 N, .int .i64 T, .int .i64 E, .slice a0 l0 c0] := hd ⟨1, .data⟩ (by simp) rfl
      have h3 : a.eval (.tmp 27) = .agg #[.slice a2 l2 c2] := hd ⟨3, .data⟩ (by simp) rfl
      refine op_call_ret (R := fun v w' => v = .bool true ∧ Old W w') Tryz.call76 (vs := #[.agg #[.int .i64 N, .int .i64 T, .int .i64 E, .slice a0 l0 c0], .agg #[.slice a2 l2 c2]]) (by simp [h1, h3]) ((K1 W g).mono fun e w' h => ⟨_, h.1, rfl, h.2⟩) ?_
      rintro x w' ⟨rfl, g'⟩
      exact ⟨_, rfl, g', rfl, (fun h => absurd h (by decide))⟩
    · intro a W g hF hd
      refine ⟨fun _ => ?_, fun h => by rw [wanted_none rfl] at h; cases h⟩
      refine op_move ?_
      exact ⟨_, rfl, Old.refl _, hd ⟨4, .data⟩ (by simp) rfl, (fun h => absurd h (by decide))⟩
    · intro a W g hF hd
      refine ⟨fun _ => ?_, fun h => ?_⟩
      rotate_left
      · rw [wanted_of (j := 5) (s := 29) (want := true) (b := true) rfl rfl (by rw [hF.size, hsz]; decide) (hd ⟨5, .guard⟩ (by simp) rfl)] at h
        cases h
      refine op_guard ?_
      have e1 := (hF.same 1 slotLcb_no1).trans ha1
      obtain ⟨ρ, hρ⟩ : ∃ ρ, a.eval = ρ := ⟨_, rfl⟩
      rw [hρ] at e1
      refine op_val ρ hρ (.pointer (some ⟨bx, 7, none⟩)) ?_ ⟨_, rfl, Old.refl _, rfl, (fun h => absurd h (by decide))⟩
      clear g hF hd hρ HK K1 K2 ha1 px_bx b_bx pc_bx_1 pc_bx_2 pc_bx_3 pc_bx_4 pc_bx_6 pc_bx_7 pc_bx_8 
      go_simp
      all_goals (first | (rw [IntKind.wrap_i64]; omega) | (rw [IntKind.wrap_u64]; omega) | omega)
    · intro a W g hF hd
      refine ⟨fun _ => ?_, fun h => ?_⟩
      rotate_left
      · rw [wanted_of (j := 5) (s := 29) (want := true) (b := true) rfl rfl (by rw [hF.size, hsz]; decide) (hd ⟨5, .guard⟩ (by simp) rfl)] at h
        cases h
      refine op_guard ?_
      have h6 : a.eval (.tmp 30) = .pointer (some ⟨bx, 7, none⟩) := hd ⟨6, .data⟩ (by simp) rfl
      have kk0 := pc_bx_7 W g
      have kk1 := pc_bx_8 W g
      obtain ⟨ρ, hρ⟩ : ∃ ρ, a.eval = ρ := ⟨_, rfl⟩
      rw [hρ] at h6
      refine op_val ρ hρ (.agg #[.bool sg, .slice a3 l3 c3]) ?_ ⟨_, rfl, Old.refl _, rfl, (fun h => absurd h (by decide))⟩
      clear g hF hd hρ HK K1 K2 ha1 px_bx b_bx pc_bx_1 pc_bx_2 pc_bx_3 pc_bx_4 pc_bx_6 pc_bx_7 pc_bx_8 
      go_simp
      all_goals (first | (rw [IntKind.wrap_i64]; omega) | (rw [IntKind.wrap_u64]; omega) | omega)
    · intro a W g hF hd
      refine ⟨fun _ => ?_, fun h => ?_⟩
      rotate_left
      · rw [wanted_of (j := 5) (s := 29) (want := true) (b := true) rfl rfl (by rw [hF.size, hsz]; decide) (hd ⟨5, .guard⟩ (by simp) rfl)] at h
        cases h
      refine op_guard ?_
      have h7 : a.eval (.tmp 31) = .agg #[.bool sg, .slice a3 l3 c3] := hd ⟨7, .data⟩ (by simp) rfl
      refine op_call_ret (R := fun v w' => v = .bool false ∧ Old W w') Tryz.call124 (vs := #[.agg #[.bool sg, .slice a3 l3 c3]]) (by simp [h7]) ((K2 W g).mono fun e w' h => ⟨_, h.1, rfl, h.2⟩) ?_
      rintro x w' ⟨rfl, g'⟩
      exact ⟨_, rfl, g', rfl, (fun h => absurd h (by decide))⟩
    · intro a W g hF hd
      refine ⟨fun _ => ?_, fun h => by rw [wanted_none rfl] at h; cases h⟩
      have h5 : a.eval (.tmp 29) = .bool true := hd ⟨5, .data⟩ (by simp) rfl
      have h8 : a.eval (.tmp 32) = .bool false := hd ⟨8, .data⟩ (by simp) rfl
      obtain ⟨ρ, hρ⟩ : ∃ ρ, a.eval = ρ := ⟨_, rfl⟩
      rw [hρ] at h5 h8
      refine op_val ρ hρ (.bool false) ?_ ⟨_, rfl, Old.refl _, rfl, (fun h => absurd h (by decide))⟩
      clear g hF hd hρ HK K1 K2 ha1 px_bx b_bx pc_bx_1 pc_bx_2 pc_bx_3 pc_bx_4 pc_bx_6 pc_bx_7 pc_bx_8 
      go_simp
      all_goals (first | (rw [IntKind.wrap_i64]; omega) | (rw [IntKind.wrap_u64]; omega) | omega)
    · intro a W g hF hd
      refine ⟨fun _ => ?_, fun h => by rw [wanted_none rfl] at h; cases h⟩
      refine op_move ?_
      exact ⟨_, rfl, Old.refl _, hd ⟨9, .data⟩ (by simp) rfl, (fun h => absurd h (by decide))⟩
    · intro a W g hF hd
      refine ⟨fun h => ?_, fun _ => ⟨rfl, trivial, rfl⟩⟩
      rw [wanted_of (j := 10) (s := 34) (want := true) (b := false) rfl rfl (by rw [hF.size, hsz]; decide) (hd ⟨10, .guard⟩ (by simp) rfl)] at h
      cases h
    · intro a W g hF hd
      refine ⟨fun h => ?_, fun _ => ⟨rfl, trivial, rfl⟩⟩
      rw [wanted_of (j := 10) (s := 34) (want := true) (b := false) rfl rfl (by rw [hF.size, hsz]; decide) (hd ⟨10, .guard⟩ (by simp) rfl)] at h
      cases h
    · intro a W g hF hd
      refine ⟨fun h => ?_, fun _ => ⟨rfl, trivial, rfl⟩⟩
      rw [wanted_of (j := 10) (s := 34) (want := true) (b := false) rfl rfl (by rw [hF.size, hsz]; decide) (hd ⟨10, .guard⟩ (by simp) rfl)] at h
      cases h
    · intro a W g hF hd
      refine ⟨fun h => ?_, fun _ => ⟨rfl, trivial, rfl⟩⟩
      rw [wanted_of (j := 10) (s := 34) (want := true) (b := false) rfl rfl (by rw [hF.size, hsz]; decide) (hd ⟨10, .guard⟩ (by simp) rfl)] at h
      cases h
    · intro a W g hF hd
      refine ⟨fun _ => ?_, fun h => by rw [wanted_none rfl] at h; cases h⟩
      have h10 : a.eval (.tmp 34) = .bool false := hd ⟨10, .data⟩ (by simp) rfl
      have c1 : a.eval (.const (.bool false)) = .bool false := rfl
      obtain ⟨ρ, hρ⟩ : ∃ ρ, a.eval = ρ := ⟨_, rfl⟩
      rw [hρ] at h10 c1
      refine op_val ρ hρ (.bool false) ?_ ⟨_, rfl, Old.refl _, rfl, (fun h => absurd h (by decide))⟩
      clear g hF hd hρ HK K1 K2 ha1 px_bx b_bx pc_bx_1 pc_bx_2 pc_bx_3 pc_bx_4 pc_bx_6 pc_bx_7 pc_bx_8 
      go_simp
      all_goals (first | (rw [IntKind.wrap_i64]; omega) | (rw [IntKind.wrap_u64]; omega) | omega)
    · intro a W g hF hd
      refine ⟨fun _ => ?_, fun h => by rw [wanted_none rfl] at h; cases h⟩
      refine op_move ?_
      exact ⟨_, rfl, Old.refl _, hd ⟨15, .data⟩ (by simp) rfl, (fun h => absurd h (by decide))⟩
    · intro a W g hF hd
      refine ⟨fun h => ?_, fun _ => ⟨rfl, trivial, rfl⟩⟩
      rw [wanted_of (j := 16) (s := 40) (want := true) (b := false) rfl rfl (by rw [hF.size, hsz]; decide) (hd ⟨16, .guard⟩ (by simp) rfl)] at h
      cases h
    · intro a W g hF hd
      refine ⟨fun h => ?_, fun _ => ⟨rfl, trivial, rfl⟩⟩
      rw [wanted_of (j := 16) (s := 40) (want := true) (b := false) rfl rfl (by rw [hF.size, hsz]; decide) (hd ⟨16, .guard⟩ (by simp) rfl)] at h
      cases h
    · intro a W g hF hd
      refine ⟨fun h => ?_, fun _ => ⟨rfl, trivial, rfl⟩⟩
      rw [wanted_of (j := 16) (s := 40) (want := true) (b := false) rfl rfl (by rw [hF.size, hsz]; decide) (hd ⟨16, .guard⟩ (by simp) rfl)] at h
      cases h
    · intro a W g hF hd
      refine ⟨fun h => ?_, fun _ => ⟨rfl, trivial, rfl⟩⟩
      rw [wanted_of (j := 16) (s := 40) (want := true) (b := false) rfl rfl (by rw [hF.size, hsz]; decide) (hd ⟨16, .guard⟩ (by simp) rfl)] at h
      cases h
    · intro a W g hF hd
      refine ⟨fun h => ?_, fun _ => ⟨rfl, trivial, rfl⟩⟩
      rw [wanted_of (j := 16) (s := 40) (want := true) (b := false) rfl rfl (by rw [hF.size, hsz]; decide) (hd ⟨16, .guard⟩ (by simp) rfl)] at h
      cases h
    · intro a W g hF hd
      refine ⟨fun h => ?_, fun _ => ⟨rfl, trivial, rfl⟩⟩
      rw [wanted_of (j := 16) (s := 40) (want := true) (b := false) rfl rfl (by rw [hF.size, hsz]; decide) (hd ⟨16, .guard⟩ (by simp) rfl)] at h
      cases h
    · intro a W g hF hd
      refine ⟨fun h => ?_, fun _ => ⟨rfl, trivial, rfl⟩⟩
      rw [wanted_of (j := 16) (s := 40) (want := true) (b := false) rfl rfl (by rw [hF.size, hsz]; decide) (hd ⟨16, .guard⟩ (by simp) rfl)] at h
      cases h
    · intro a W g hF hd
      refine ⟨fun h => ?_, fun _ => ⟨rfl, trivial, rfl⟩⟩
      rw [wanted_of (j := 16) (s := 40) (want := true) (b := false) rfl rfl (by rw [hF.size, hsz]; decide) (hd ⟨16, .guard⟩ (by simp) rfl)] at h
      cases h
    · intro a W g hF hd
      refine ⟨fun _ => ?_, fun h => by rw [wanted_none rfl] at h; cases h⟩
      have h16 : a.eval (.tmp 40) = .bool false := hd ⟨16, .data⟩ (by simp) rfl
      have c1 : a.eval (.const (.bool false)) = .bool false := rfl
      obtain ⟨ρ, hρ⟩ : ∃ ρ, a.eval = ρ := ⟨_, rfl⟩
      rw [hρ] at h16 c1
      refine op_val ρ hρ (.bool false) ?_ ⟨_, rfl, Old.refl _, rfl, (fun h => absurd h (by decide))⟩
      clear g hF hd hρ HK K1 K2 ha1 px_bx b_bx pc_bx_1 pc_bx_2 pc_bx_3 pc_bx_4 pc_bx_6 pc_bx_7 pc_bx_8 
      go_simp
      all_goals (first | (rw [IntKind.wrap_i64]; omega) | (rw [IntKind.wrap_u64]; omega) | omega)
  · intro a W g hF hq hne
    have hput := fram_put (show Fram 26 slotLcb b0 a from hF) (fun i j hi hj => slotLcb_inj i hi j hj)
    have hk := HK.out (fun i => a.eval (.tmp (slotLcb i))) W g  
    rw [← hput] at hk
    refine op_assign ?_
    show tailWp _ _ _ _ _
    show tailWp _ _ _ (Act.put a (some 2) (a.eval (.tmp 49))) _
    rw [show a.eval (.tmp 49) = .bool false from hq 25 (by decide)]
    exact hk
def slotLcc (i : Nat) : Nat := [24, 25, 26, 27, 28, 29, 30, 31, 32, 33, 34, 35, 36, 37, 38, 39, 40, 41, 42, 43, 44, 45, 46, 47, 48, 49].getD i 0
theorem slotLcc_lt : ∀ i, i < 26 → slotLcc i < 50 := by decide
theorem slotLcc_inj : ∀ i, i < 26 → ∀ j, j < 26 → slotLcc i = slotLcc j → i = j := by decide
theorem slotLcc_no1 : ∀ i, i < 26 → slotLcc i ≠ 1 := by decide
def qLcc (bx : Nat) (kd N T E : Int) (a0 : Option Addr) (l0 c0 : Nat) (a1 : Option Addr) (l1 c1 : Nat) (a2 : Option Addr) (l2 c2 : Nat) (a3 : Option Addr) (l3 c3 : Nat) (a4 : Option Addr) (l4 c4 : Nat)  (i : Nat) (W : World) (x : Value) : Prop :=
  match i with
  | 0 => x = .pointer (some ⟨bx, 1, none⟩)
  | 1 => x = .agg #[.int .i64 N, .int .i64 T, .int .i64 E, .slice a0 l0 c0]
  | 2 => x = .pointer (some ⟨bx, 6, none⟩)
  | 3 => x = .agg #[.slice a2 l2 c2]
  | 4 => x = .bool true
  | 5 => x = .bool true
  | 6 => x = .pointer (some ⟨bx, 7, none⟩)
  | 7 => x = .agg #[.bool true, .slice a3 l3 c3]
  | 8 => x = .bool true
  | 9 => x = .bool true
  | 10 => x = .bool true
  | 11 => x = .pointer (some ⟨bx, 7, none⟩)
  | 12 => x = .pointer (some ⟨bx, 7, none⟩)
  | 13 => x = .bool true
  | 14 => x = .bool false
  | 15 => x = .bool false
  | 16 => x = .bool false
  | 17 => True
  | 18 => True
  | 19 => True
  | 20 => True
  | 21 => True
  | 22 => True
  | 23 => True
  | 24 => True
  | 25 => x = .bool false
  | _ => True
theorem qLcc_old (bx : Nat) (kd N T E : Int) (a0 : Option Addr) (l0 c0 : Nat) (a1 : Option Addr) (l1 c1 : Nat) (a2 : Option Addr) (l2 c2 : Nat) (a3 : Option Addr) (l3 c3 : Nat) (a4 : Option Addr) (l4 c4 : Nat)   (i : Nat) (W W' : World) (x : Value) (h : qLcc bx kd N T E a0 l0 c0 a1 l1 c1 a2 l2 c2 a3 l3 c3 a4 l4 c4  i W x) (qo : Old W W') : qLcc bx kd N T E a0 l0 c0 a1 l1 c1 a2 l2 c2 a3 l3 c3 a4 l4 c4  i W' x := by
  unfold qLcc at h ⊢
  split at h
  all_goals first | exact h | trivial
set_option maxRecDepth 100000 in
set_option maxHeartbeats 8000000 in
theorem reg_Lcc (w0 : World) (bx : Nat) (kd N T E : Int) (a0 : Option Addr) (l0 c0 : Nat) (a1 : Option Addr) (l1 c1 : Nat) (a2 : Option Addr) (l2 c2 : Nat) (a3 : Option Addr) (l3 c3 : Nat) (a4 : Option Addr) (l4 c4 : Nat)     (b_bx : w0.heap[bx]? = some (.cells #[.int .i64 kd, .int .i64 N, .int .i64 T, .int .i64 E, .slice a0 l0 c0, .slice a1 l1 c1, .slice a2 l2 c2, .bool true, .slice a3 l3 c3, .slice a4 l4 c4] 59 (0, 0))) 
    
    (K1 : ∀ W, Old w0 W → Calls Tryz.prog 76 #[.agg #[.int .i64 N, .int .i64 T, .int .i64 E, .slice a0 l0 c0], .agg #[.slice a2 l2 c2]] W fun e w' => e = .returned (.bool true) ∧ Old W w')
    (K2 : ∀ W, Old w0 W → Calls Tryz.prog 124 #[.agg #[.bool true, .slice a3 l3 c3]] W fun e w' => e = .returned (.bool true) ∧ Old W w')
    (Q : Exit → Act → World → Prop) (b0 : Act) (hsz : b0.tmps.size = 50) (ha1 : b0.eval (.tmp 1) = .pointer (some ⟨bx, 0, none⟩))
    (HK : Hid (∀ (us : Nat → Value) (W : World) , Old w0 W → Q .normal ((putAll b0 ((List.range 26).map fun i => (slotLcc i, us i))).put (some 2) (.bool false)) W)) :
    Code.wp Tryz.prog ((Tryz.f97.body.bind (regionAtmul 3)).getD .skip) Q b0 w0 := by
  conv => arg 2; whnf
  have px_bx : ∀ W, Old w0 W → W.heap[bx]? = some (.cells #[.int .i64 kd, .int .i64 N, .int .i64 T, .int .i64 E, .slice a0 l0 c0, .slice a1 l1 c1, .slice a2 l2 c2, .bool true, .slice a3 l3 c3, .slice a4 l4 c4] 59 (0, 0)) := fun W g => (g.block bx (lt_of_some b_bx)).trans b_bx
  have pc_bx_1 : ∀ W, Old w0 W → W.cell? ⟨bx, 1, none⟩ = some (.int .i64 N) := fun W g => cell_of_row W bx 1 _ _ (0, 0) (px_bx W g)
  have pc_bx_2 : ∀ W, Old w0 W → W.cell? ⟨bx, 2, none⟩ = some (.int .i64 T) := fun W g => cell_of_row W bx 2 _ _ (0, 0) (px_bx W g)
  have pc_bx_3 : ∀ W, Old w0 W → W.cell? ⟨bx, 3, none⟩ = some (.int .i64 E) := fun W g => cell_of_row W bx 3 _ _ (0, 0) (px_bx W g)
  have pc_bx_4 : ∀ W, Old w0 W → W.cell? ⟨bx, 4, none⟩ = some (.slice a0 l0 c0) := fun W g => cell_of_row W bx 4 _ _ (0, 0) (px_bx W g)
  have pc_bx_6 : ∀ W, Old w0 W → W.cell? ⟨bx, 6, none⟩ = some (.slice a2 l2 c2) := fun W g => cell_of_row W bx 6 _ _ (0, 0) (px_bx W g)
  have pc_bx_7 : ∀ W, Old w0 W → W.cell? ⟨bx, 7, none⟩ = some (.bool true) := fun W g => cell_of_row W bx 7 _ _ (0, 0) (px_bx W g)
  have pc_bx_8 : ∀ W, Old w0 W → W.cell? ⟨bx, 8, none⟩ = some (.slice a3 l3 c3) := fun W g => cell_of_row W bx 8 _ _ (0, 0) (px_bx W g)
  refine wp_region_tailG 26 (by decide) (by kernel_rfl) (by kernel_rfl) (by kernel_rfl) (by kernel_rfl) (by kernel_rfl) slotLcc (fun i hi => by rw [hsz]; exact slotLcc_lt i hi) (fun i j hi hj => slotLcc_inj i hi j hj) (qLcc bx kd N T E a0 l0 c0 a1 l1 c1 a2 l2 c2 a3 l3 c3 a4 l4 c4  ) (qLcc_old bx kd N T E a0 l0 c0 a1 l1 c1 a2 l2 c2 a3 l3 c3 a4 l4 c4  ) [] (fun i W v hi hq => by cases hi) ?_ ?_
  · refine ⟨?_, ?_, ?_, ?_, ?_, ?_, ?_, ?_, ?_, ?_, ?_, ?_, ?_, ?_, ?_, ?_, ?_, ?_, ?_, ?_, ?_, ?_, ?_, ?_, ?_, ?_, trivial⟩
    · intro a W g hF hd
      refine ⟨fun _ => ?_, fun h => by rw [wanted_none rfl] at h; cases h⟩
      have e1 := (hF.same 1 slotLcc_no1).trans ha1
      obtain ⟨ρ, hρ⟩ : ∃ ρ, a.eval = ρ := ⟨_, rfl⟩
      rw [hρ] at e1
      refine op_val ρ hρ (.pointer (some ⟨bx, 1, none⟩)) ?_ ⟨_, rfl, Old.refl _, rfl, (fun h => absurd h (by decide))⟩
      clear g hF hd hρ HK K1 K2 ha1 px_bx b_bx pc_bx_1 pc_bx_2 pc_bx_3 pc_bx_4 pc_bx_6 pc_bx_7 pc_bx_8 
      go_simp
      all_goals (first | (rw [IntKind.wrap_i64]; omega) | (rw [IntKind.wrap_u64]; omega) | omega)
    · intro a W g hF hd
      refine ⟨fun _ => ?_, fun h => by rw [wanted_none rfl] at h; cases h⟩
      have h0 : a.eval (.tmp 24) = .pointer (some ⟨bx, 1, none⟩) := hd ⟨0, .data⟩ (by simp) rfl
      have kk0 := pc_bx_1 W g
      have kk1 := pc_bx_2 W g
      have kk2 := pc_bx_3 W g
      have kk3 := pc_bx_4 W g
      obtain ⟨ρ, hρ⟩ : ∃ ρ, a.eval = ρ := ⟨_, rfl⟩
      rw [hρ] at h0
      refine op_val ρ hρ (.agg #[.int .i64 N, .int .i64 T, .int .i64 E, .slice a0 l0 c0]) ?_ ⟨_, rfl, Old.refl _, rfl, (fun h => absurd h (by decide))⟩
      clear g hF hd hρ HK K1 K2 ha1 px_bx b_bx pc_bx_1 pc_bx_2 pc_bx_3 pc_bx_4 pc_bx_6 pc_bx_7 pc_bx_8 
      go_simp
      all_goals (first | (rw [IntKind.wrap_i64]; omega) | (rw [IntKind.wrap_u64]; omega) | omega)
    · intro a W g hF hd
      refine ⟨fun _ => ?_, fun h => by rw [wanted_none rfl] at h; cases h⟩
      have e1 := (hF.same 1 slotLcc_no1).trans ha1
      obtain ⟨ρ, hρ⟩ : ∃ ρ, a.eval = ρ := ⟨_, rfl⟩
      rw [hρ] at e1
      refine op_val ρ hρ (.pointer (some ⟨bx, 6, none⟩)) ?_ ⟨_, rfl, Old.refl _, rfl, (fun h => absurd h (by decide))⟩
      clear g hF hd hρ HK K1 K2 ha1 px_bx b_bx pc_bx_1 pc_bx_2 pc_bx_3 pc_bx_4 pc_bx_6 pc_bx_7 pc_bx_8 
      go_simp
      all_goals (first | (rw [IntKind.wrap_i64]; omega) | (rw [IntKind.wrap_u64]; omega) | omega)
    · intro a W g hF hd
      refine ⟨fun _ => ?_, fun h => by rw [wanted_none rfl] at h; cases h⟩
      have h2 : a.eval (.tmp 26) = .pointer (some ⟨bx, 6, none⟩) := hd ⟨2, .data⟩ (by simp) rfl
      have kk0 := pc_bx_6 W g
      obtain ⟨ρ, hρ⟩ : ∃ ρ, a.eval = ρ := ⟨_, rfl⟩
      rw [hρ] at h2
      refine op_val ρ hρ (.agg #[.slice a2 l2 c2]) ?_ ⟨_, rfl, Old.refl _, rfl, (fun h => absurd h (by decide))⟩
      clear g hF hd hρ HK K1 K2 ha1 px_bx b_bx pc_bx_1 pc_bx_2 pc_bx_3 pc_bx_4 pc_bx_6 pc_bx_7 pc_bx_8 
      go_simp
      all_goals (first | (rw [IntKind.wrap_i64]; omega) | (rw [IntKind.wrap_u64]; omega) | omega)
    · intro a W g hF hd
      refine ⟨fun _ => ?_, fun h => by rw [wanted_none rfl] at h; cases h⟩
      have h1 : a.eval (.tmp 25) = .agg #[.int .i64 N, .int .i64 T, .int .i64 E, .slice a0 l0 c0] := hd ⟨1, .data⟩ (by simp) rfl
      have h3 : a.eval (.tmp 27) = .agg #[.slice a2 l2 c2] := hd ⟨3, .data⟩ (by simp) rfl
      refine op_call_ret (R := fun v w' => v = .bool true ∧ Old W w') Tryz.call76 (vs := #[.agg #[.int .i64 N, .int .i64 T, .int .i64 E, .slice a0 l0 c0], .agg #[.slice a2 l2 c2]]) (by simp [h1, h3]) ((K1 W g).mono fun e w' h => ⟨_, h.1, rfl, h.2⟩) ?_
      rintro x w' ⟨rfl, g'⟩
      exact ⟨_, rfl, g', rfl, (fun h => absurd h (by decide))⟩
    · intro a W g hF hd
      refine ⟨fun _ => ?_, fun h => by rw [wanted_none rfl] at h; cases h⟩
      refine op_move ?_
      exact ⟨_, rfl, Old.refl _, hd ⟨4, .data⟩ (by simp) rfl, (fun h => absurd h (by decide))⟩
    · intro a W g hF hd
      refine ⟨fun _ => ?_, fun h => ?_⟩
      rotate_left
      · rw [wanted_of (j := 5) (s := 29) (want := true) (b := true) rfl rfl (by rw [hF.size, hsz]; decide) (hd ⟨5, .guard⟩ (by simp) rfl)] at h
        cases h
      refine op_guard ?_
      have e1 := (hF.same 1 slotLcc_no1).trans ha1
      obtain ⟨ρ, hρ⟩ : ∃ ρ, a.eval = ρ := ⟨_, rfl⟩
      rw [hρ] at e1
      refine op_val ρ hρ (.pointer (some ⟨bx, 7, none⟩)) ?_ ⟨_, rfl, Old.refl _, rfl, (fun h => absurd h (by decide))⟩
      clear g hF hd hρ HK K1 K2 ha1 px_bx b_bx pc_bx_1 pc_bx_2 pc_bx_3 pc_bx_4 pc_bx_6 pc_bx_7 pc_bx_8 
      go_simp
      all_goals (first | (rw [IntKind.wrap_i64]; omega) | (rw [IntKind.wrap_u64]; omega) | omega)
    · intro a W g hF hd
      refine ⟨fun _ => ?_, fun h => ?_⟩
      rotate_left
      · rw [wanted_of (j := 5) (s := 29) (want := true) (b := true) rfl rfl (by rw [hF.size, hsz]; decide) (hd ⟨5, .guard⟩ (by simp) rfl)] at h
        cases h
      refine op_guard ?_
      have h6 : a.eval (.tmp 30) = .pointer (some ⟨bx, 7, none⟩) := hd ⟨6, .data⟩ (by simp) rfl
      have kk0 := pc_bx_7 W g
      have kk1 := pc_bx_8 W g
      obtain ⟨ρ, hρ⟩ : ∃ ρ, a.eval = ρ := ⟨_, rfl⟩
      rw [hρ] at h6
      refine op_val ρ hρ (.agg #[.bool true, .slice a3 l3 c3]) ?_ ⟨_, rfl, Old.refl _, rfl, (fun h => absurd h (by decide))⟩
      clear g hF hd hρ HK K1 K2 ha1 px_bx b_bx pc_bx_1 pc_bx_2 pc_bx_3 pc_bx_4 pc_bx_6 pc_bx_7 pc_bx_8 
      go_simp
      all_goals (first | (rw [IntKind.wrap_i64]; omega) | (rw [IntKind.wrap_u64]; omega) | omega)
    · intro a W g hF hd
      refine ⟨fun _ => ?_, fun h => ?_⟩
      rotate_left
      · rw [wanted_of (j := 5) (s := 29) (want := true) (b := true) rfl rfl (by rw [hF.size, hsz]; decide) (hd ⟨5, .guard⟩ (by simp) rfl)] at h
        cases h
      refine op_guard ?_
      have h7 : a.eval (.tmp 31) = .agg #[.bool true, .slice a3 l3 c3] := hd ⟨7, .data⟩ (by simp) rfl
      refine op_call_ret (R := fun v w' => v = .bool true ∧ Old W w') Tryz.call124 (vs := #[.agg #[.bool true, .slice a3 l3 c3]]) (by simp [h7]) ((K2 W g).mono fun e w' h => ⟨_, h.1, rfl, h.2⟩) ?_
      rintro x w' ⟨rfl, g'⟩
      exact ⟨_, rfl, g', rfl, (fun h => absurd h (by decide))⟩
    · intro a W g hF hd
      refine ⟨fun _ => ?_, fun h => by rw [wanted_none rfl] at h; cases h⟩
      have h5 : a.eval (.tmp 29) = .bool true := hd ⟨5, .data⟩ (by simp) rfl
      have h8 : a.eval (.tmp 32) = .bool true := hd ⟨8, .data⟩ (by simp) rfl
      obtain ⟨ρ, hρ⟩ : ∃ ρ, a.eval = ρ := ⟨_, rfl⟩
      rw [hρ] at h5 h8
      refine op_val ρ hρ (.bool true) ?_ ⟨_, rfl, Old.refl _, rfl, (fun h => absurd h (by decide))⟩
      clear g hF hd hρ HK K1 K2 ha1 px_bx b_bx pc_bx_1 pc_bx_2 pc_bx_3 pc_bx_4 pc_bx_6 pc_bx_7 pc_bx_8 
      go_simp
      all_goals (first | (rw [IntKind.wrap_i64]; omega) | (rw [IntKind.wrap_u64]; omega) | omega)
    · intro a W g hF hd
      refine ⟨fun _ => ?_, fun h => by rw [wanted_none rfl] at h; cases h⟩
      refine op_move ?_
      exact ⟨_, rfl, Old.refl _, hd ⟨9, .data⟩ (by simp) rfl, (fun h => absurd h (by decide))⟩
    · intro a W g hF hd
      refine ⟨fun _ => ?_, fun h => ?_⟩
      rotate_left
      · rw [wanted_of (j := 10) (s := 34) (want := true) (b := true) rfl rfl (by rw [hF.size, hsz]; decide) (hd ⟨10, .guard⟩ (by simp) rfl)] at h
        cases h
      refine op_guard ?_
      have e1 := (hF.same 1 slotLcc_no1).trans ha1
      obtain ⟨ρ, hρ⟩ : ∃ ρ, a.eval = ρ := ⟨_, rfl⟩
      rw [hρ] at e1
      refine op_val ρ hρ (.pointer (some ⟨bx, 7, none⟩)) ?_ ⟨_, rfl, Old.refl _, rfl, (fun h => absurd h (by decide))⟩
      clear g hF hd hρ HK K1 K2 ha1 px_bx b_bx pc_bx_1 pc_bx_2 pc_bx_3 pc_bx_4 pc_bx_6 pc_bx_7 pc_bx_8 
      go_simp
      all_goals (first | (rw [IntKind.wrap_i64]; omega) | (rw [IntKind.wrap_u64]; omega) | omega)
    · intro a W g hF hd
      refine ⟨fun _ => ?_, fun h => ?_⟩
      rotate_left
      · rw [wanted_of (j := 10) (s := 34) (want := true) (b := true) rfl rfl (by rw [hF.size, hsz]; decide) (hd ⟨10, .guard⟩ (by simp) rfl)] at h
        cases h
      refine op_guard ?_
      have h11 : a.eval (.tmp 35) = .pointer (some ⟨bx, 7, none⟩) := hd ⟨11, .data⟩ (by simp) rfl
      obtain ⟨ρ, hρ⟩ : ∃ ρ, a.eval = ρ := ⟨_, rfl⟩
      rw [hρ] at h11
      refine op_val ρ hρ (.pointer (some ⟨bx, 7, none⟩)) ?_ ⟨_, rfl, Old.refl _, rfl, (fun h => absurd h (by decide))⟩
      clear g hF hd hρ HK K1 K2 ha1 px_bx b_bx pc_bx_1 pc_bx_2 pc_bx_3 pc_bx_4 pc_bx_6 pc_bx_7 pc_bx_8 
      go_simp
      all_goals (first | (rw [IntKind.wrap_i64]; omega) | (rw [IntKind.wrap_u64]; omega) | omega)
    · intro a W g hF hd
      refine ⟨fun _ => ?_, fun h => ?_⟩
      rotate_left
      · rw [wanted_of (j := 10) (s := 34) (want := true) (b := true) rfl rfl (by rw [hF.size, hsz]; decide) (hd ⟨10, .guard⟩ (by simp) rfl)] at h
        cases h
      refine op_guard ?_
      have h12 : a.eval (.tmp 36) = .pointer (some ⟨bx, 7, none⟩) := hd ⟨12, .data⟩ (by simp) rfl
      have kk0 := pc_bx_7 W g
      obtain ⟨ρ, hρ⟩ : ∃ ρ, a.eval = ρ := ⟨_, rfl⟩
      rw [hρ] at h12
      refine op_val ρ hρ (.bool true) ?_ ⟨_, rfl, Old.refl _, rfl, (fun h => absurd h (by decide))⟩
      clear g hF hd hρ HK K1 K2 ha1 px_bx b_bx pc_bx_1 pc_bx_2 pc_bx_3 pc_bx_4 pc_bx_6 pc_bx_7 pc_bx_8 
      go_simp
      all_goals (first | (rw [IntKind.wrap_i64]; omega) | (rw [IntKind.wrap_u64]; omega) | omega)
    · intro a W g hF hd
      refine ⟨fun _ => ?_, fun h => ?_⟩
      rotate_left
      · rw [wanted_of (j := 10) (s := 34) (want := true) (b := true) rfl rfl (by rw [hF.size, hsz]; decide) (hd ⟨10, .guard⟩ (by simp) rfl)] at h
        cases h
      refine op_guard ?_
      have h13 : a.eval (.tmp 37) = .bool true := hd ⟨13, .data⟩ (by simp) rfl
      obtain ⟨ρ, hρ⟩ : ∃ ρ, a.eval = ρ := ⟨_, rfl⟩
      rw [hρ] at h13
      refine op_val ρ hρ (.bool false) ?_ ⟨_, rfl, Old.refl _, rfl, (fun h => absurd h (by decide))⟩
      clear g hF hd hρ HK K1 K2 ha1 px_bx b_bx pc_bx_1 pc_bx_2 pc_bx_3 pc_bx_4 pc_bx_6 pc_bx_7 pc_bx_8 
      go_simp
      all_goals (first | (rw [IntKind.wrap_i64]; omega) | (rw [IntKind.wrap_u64]; omega) | omega)
    · intro a W g hF hd
      refine ⟨fun _ => ?_, fun h => by rw [wanted_none rfl] at h; cases h⟩
      have h10 : a.eval (.tmp 34) = .bool true := hd ⟨10, .data⟩ (by simp) rfl
      have h14 : a.eval (.tmp 38) = .bool false := hd ⟨14, .data⟩ (by simp) rfl
      obtain ⟨ρ, hρ⟩ : ∃ ρ, a.eval = ρ := ⟨_, rfl⟩
      rw [hρ] at h10 h14
      refine op_val ρ hρ (.bool false) ?_ ⟨_, rfl, Old.refl _, rfl, (fun h => absurd h (by decide))⟩
      clear g hF hd hρ HK K1 K2 ha1 px_bx b_bx pc_bx_1 pc_bx_2 pc_bx_3 pc_bx_4 pc_bx_6 pc_bx_7 pc_bx_8 
      go_simp
      all_goals (first | (rw [IntKind.wrap_i64]; omega) | (rw [IntKind.wrap_u64]; omega) | omega)
    · intro a W g hF hd
      refine ⟨fun _ => ?_, fun h => by rw [wanted_none rfl] at h; cases h⟩
      refine op_move ?_
      exact ⟨_, rfl, Old.refl _, hd ⟨15, .data⟩ (by simp) rfl, (fun h => absurd h (by decide))⟩
    · intro a W g hF hd
      refine ⟨fun h => ?_, fun _ => ⟨rfl, trivial, rfl⟩⟩
      rw [wanted_of (j := 16) (s := 40) (want := true) (b := false) rfl rfl (by rw [hF.size, hsz]; decide) (hd ⟨16, .guard⟩ (by simp) rfl)] at h
      cases h
    · intro a W g hF hd
      refine ⟨fun h => ?_, fun _ => ⟨rfl, trivial, rfl⟩⟩
      rw [wanted_of (j := 16) (s := 40) (want := true) (b := false) rfl rfl (by rw [hF.size, hsz]; decide) (hd ⟨16, .guard⟩ (by simp) rfl)] at h
      cases h
    · intro a W g hF hd
      refine ⟨fun h => ?_, fun _ => ⟨rfl, trivial, rfl⟩⟩
      rw [wanted_of (j := 16) (s := 40) (want := true) (b := false) rfl rfl (by rw [hF.size, hsz]; decide) (hd ⟨16, .guard⟩ (by simp) rfl)] at h
      cases h
    · intro a W g hF hd
      refine ⟨fun h => ?_, fun _ => ⟨rfl, trivial, rfl⟩⟩
      rw [wanted_of (j := 16) (s := 40) (want := true) (b := false) rfl rfl (by rw [hF.size, hsz]; decide) (hd ⟨16, .guard⟩ (by simp) rfl)] at h
      cases h
    · intro a W g hF hd
      refine ⟨fun h => ?_, fun _ => ⟨rfl, trivial, rfl⟩⟩
      rw [wanted_of (j := 16) (s := 40) (want := true) (b := false) rfl rfl (by rw [hF.size, hsz]; decide) (hd ⟨16, .guard⟩ (by simp) rfl)] at h
      cases h
    · intro a W g hF hd
      refine ⟨fun h => ?_, fun _ => ⟨rfl, trivial, rfl⟩⟩
      rw [wanted_of (j := 16) (s := 40) (want := true) (b := false) rfl rfl (by rw [hF.size, hsz]; decide) (hd ⟨16, .guard⟩ (by simp) rfl)] at h
      cases h
    · intro a W g hF hd
      refine ⟨fun h => ?_, fun _ => ⟨rfl, trivial, rfl⟩⟩
      rw [wanted_of (j := 16) (s := 40) (want := true) (b := false) rfl rfl (by rw [hF.size, hsz]; decide) (hd ⟨16, .guard⟩ (by simp) rfl)] at h
      cases h
    · intro a W g hF hd
      refine ⟨fun h => ?_, fun _ => ⟨rfl, trivial, rfl⟩⟩
      rw [wanted_of (j := 16) (s := 40) (want := true) (b := false) rfl rfl (by rw [hF.size, hsz]; decide) (hd ⟨16, .guard⟩ (by simp) rfl)] at h
      cases h
    · intro a W g hF hd
      refine ⟨fun _ => ?_, fun h => by rw [wanted_none rfl] at h; cases h⟩
      have h16 : a.eval (.tmp 40) = .bool false := hd ⟨16, .data⟩ (by simp) rfl
      have c1 : a.eval (.const (.bool false)) = .bool false := rfl
      obtain ⟨ρ, hρ⟩ : ∃ ρ, a.eval = ρ := ⟨_, rfl⟩
      rw [hρ] at h16 c1
      refine op_val ρ hρ (.bool false) ?_ ⟨_, rfl, Old.refl _, rfl, (fun h => absurd h (by decide))⟩
      clear g hF hd hρ HK K1 K2 ha1 px_bx b_bx pc_bx_1 pc_bx_2 pc_bx_3 pc_bx_4 pc_bx_6 pc_bx_7 pc_bx_8 
      go_simp
      all_goals (first | (rw [IntKind.wrap_i64]; omega) | (rw [IntKind.wrap_u64]; omega) | omega)
  · intro a W g hF hq hne
    have hput := fram_put (show Fram 26 slotLcc b0 a from hF) (fun i j hi hj => slotLcc_inj i hi j hj)
    have hk := HK.out (fun i => a.eval (.tmp (slotLcc i))) W g  
    rw [← hput] at hk
    refine op_assign ?_
    show tailWp _ _ _ _ _
    show tailWp _ _ _ (Act.put a (some 2) (a.eval (.tmp 49))) _
    rw [show a.eval (.tmp 49) = .bool false from hq 25 (by decide)]
    exact hk
def slotLcd (i : Nat) : Nat := [24, 25, 26, 27, 28, 29, 30, 31, 32, 33, 34, 35, 36, 37, 38, 39, 40, 41, 42, 43, 44, 45, 46, 47, 48, 49].getD i 0
theorem slotLcd_lt : ∀ i, i < 26 → slotLcd i < 50 := by decide
theorem slotLcd_inj : ∀ i, i < 26 → ∀ j, j < 26 → slotLcd i = slotLcd j → i = j := by decide
theorem slotLcd_no1 : ∀ i, i < 26 → slotLcd i ≠ 1 := by decide
def qLcd (bx : Nat) (kd N T E : Int) (a0 : Option Addr) (l0 c0 : Nat) (a1 : Option Addr) (l1 c1 : Nat) (a2 : Option Addr) (l2 c2 : Nat) (a3 : Option Addr) (l3 c3 : Nat) (a4 : Option Addr) (l4 c4 : Nat) (c : Int) (PQ : World → Value → Prop) (i : Nat) (W : World) (x : Value) : Prop :=
  match i with
  | 0 => x = .pointer (some ⟨bx, 1, none⟩)
  | 1 => x = .agg #[.int .i64 N, .int .i64 T, .int .i64 E, .slice a0 l0 c0]
  | 2 => x = .pointer (some ⟨bx, 6, none⟩)
  | 3 => x = .agg #[.slice a2 l2 c2]
  | 4 => x = .bool true
  | 5 => x = .bool true
  | 6 => x = .pointer (some ⟨bx, 7, none⟩)
  | 7 => x = .agg #[.bool false, .slice a3 l3 c3]
  | 8 => x = .bool true
  | 9 => x = .bool true
  | 10 => x = .bool true
  | 11 => x = .pointer (some ⟨bx, 7, none⟩)
  | 12 => x = .pointer (some ⟨bx, 7, none⟩)
  | 13 => x = .bool false
  | 14 => x = .bool true
  | 15 => x = .bool true
  | 16 => x = .bool true
  | 17 => x = .pointer (some ⟨bx, 7, none⟩)
  | 18 => x = .pointer (some ⟨bx, 8, none⟩)
  | 19 => x = .slice a3 l3 c3
  | 20 => x = .pointer (some ⟨bx, 1, none⟩)
  | 21 => x = .agg #[.int .i64 N, .int .i64 T, .int .i64 E, .slice a0 l0 c0]
  | 22 => PQ W x
  | 23 => x = .int .i64 c
  | 24 => x = .bool (decide (c ≤ 0))
  | 25 => x = .bool (decide (c ≤ 0))
  | _ => True
theorem qLcd_old (bx : Nat) (kd N T E : Int) (a0 : Option Addr) (l0 c0 : Nat) (a1 : Option Addr) (l1 c1 : Nat) (a2 : Option Addr) (l2 c2 : Nat) (a3 : Option Addr) (l3 c3 : Nat) (a4 : Option Addr) (l4 c4 : Nat) (c : Int) (PQ : World → Value → Prop) (hM_PQ : ∀ W W' v, PQ W v → Old W W' → PQ W' v) (i : Nat) (W W' : World) (x : Value) (h : qLcd bx kd N T E a0 l0 c0 a1 l1 c1 a2 l2 c2 a3 l3 c3 a4 l4 c4 c PQ i W x) (qo : Old W W') : qLcd bx kd N T E a0 l0 c0 a1 l1 c1 a2 l2 c2 a3 l3 c3 a4 l4 c4 c PQ i W' x := by
  unfold qLcd at h ⊢
  split at h
  case h_23 => exact hM_PQ _ _ _ h qo
  all_goals first | exact h | trivial
set_option maxRecDepth 100000 in
set_option maxHeartbeats 8000000 in
theorem reg_Lcd (w0 : World) (bx : Nat) (kd N T E : Int) (a0 : Option Addr) (l0 c0 : Nat) (a1 : Option Addr) (l1 c1 : Nat) (a2 : Option Addr) (l2 c2 : Nat) (a3 : Option Addr) (l3 c3 : Nat) (a4 : Option Addr) (l4 c4 : Nat) (c : Int) (PQ : World → Value → Prop) (hM_PQ : ∀ W W' v, PQ W v → Old W W' → PQ W' v)   (b_bx : w0.heap[bx]? = some (.cells #[.int .i64 kd, .int .i64 N, .int .i64 T, .int .i64 E, .slice a0 l0 c0, .slice a1 l1 c1, .slice a2 l2 c2, .bool false, .slice a3 l3 c3, .slice a4 l4 c4] 59 (0, 0))) 
    
    (K1 : ∀ W, Old w0 W → Calls Tryz.prog 76 #[.agg #[.int .i64 N, .int .i64 T, .int .i64 E, .slice a0 l0 c0], .agg #[.slice a2 l2 c2]] W fun e w' => e = .returned (.bool true) ∧ Old W w')
    (K2 : ∀ W, Old w0 W → Calls Tryz.prog 124 #[.agg #[.bool false, .slice a3 l3 c3]] W fun e w' => e = .returned (.bool true) ∧ Old W w')
    (K3 : ∀ W, Old w0 W → Calls Tryz.prog 126 #[.agg #[.int .i64 N, .int .i64 T, .int .i64 E, .slice a0 l0 c0]] W fun e w' => ∃ v, e = .returned v ∧ Old W w' ∧ PQ w' v)
    (K4 : ∀ W, Old w0 W → ∀ (u22 : Value), PQ W u22 → Calls Tryz.prog 125 #[.slice a3 l3 c3, u22] W fun e w' => e = .returned (.int .i64 c) ∧ Old W w')
    (Q : Exit → Act → World → Prop) (b0 : Act) (hsz : b0.tmps.size = 50) (ha1 : b0.eval (.tmp 1) = .pointer (some ⟨bx, 0, none⟩))
    (HK : Hid (∀ (us : Nat → Value) (W : World) , Old w0 W → Q .normal ((putAll b0 ((List.range 26).map fun i => (slotLcd i, us i))).put (some 2) (.bool (decide (c ≤ 0)))) W)) :
    Code.wp Tryz.prog ((Tryz.f97.body.bind (regionAtmul 3)).getD .skip) Q b0 w0 := by
  conv => arg 2; whnf
  have px_bx : ∀ W, Old w0 W → W.heap[bx]? = some (.cells #[.int .i64 kd, .int .i64 N, .int .i64 T, .int .i64 E, .slice a0 l0 c0, .slice a1 l1 c1, .slice a2 l2 c2, .bool false, .slice a3 l3 c3, .slice a4 l4 c4] 59 (0, 0)) := fun W g => (g.block bx (lt_of_some b_bx)).trans b_bx
  have pc_bx_1 : ∀ W, Old w0 W → W.cell? ⟨bx, 1, none⟩ = some (.int .i64 N) := fun W g => cell_of_row W bx 1 _ _ (0, 0) (px_bx W g)
  have pc_bx_2 : ∀ W, Old w0 W → W.cell? ⟨bx, 2, none⟩ = some (.int .i64 T) := fun W g => cell_of_row W bx 2 _ _ (0, 0) (px_bx W g)
  have pc_bx_3 : ∀ W, Old w0 W → W.cell? ⟨bx, 3, none⟩ = some (.int .i64 E) := fun W g => cell_of_row W bx 3 _ _ (0, 0) (px_bx W g)
  have pc_bx_4 : ∀ W, Old w0 W → W.cell? ⟨bx, 4, none⟩ = some (.slice a0 l0 c0) := fun W g => cell_of_row W bx 4 _ _ (0, 0) (px_bx W g)
  have pc_bx_6 : ∀ W, Old w0 W → W.cell? ⟨bx, 6, none⟩ = some (.slice a2 l2 c2) := fun W g => cell_of_row W bx 6 _ _ (0, 0) (px_bx W g)
  have pc_bx_7 : ∀ W, Old w0 W → W.cell? ⟨bx, 7, none⟩ = some (.bool false) := fun W g => cell_of_row W bx 7 _ _ (0, 0) (px_bx W g)
  have pc_bx_8 : ∀ W, Old w0 W → W.cell? ⟨bx, 8, none⟩ = some (.slice a3 l3 c3) := fun W g => cell_of_row W bx 8 _ _ (0, 0) (px_bx W g)
  refine wp_region_tailG 26 (by decide) (by kernel_rfl) (by kernel_rfl) (by kernel_rfl) (by kernel_rfl) (by kernel_rfl) slotLcd (fun i hi => by rw [hsz]; exact slotLcd_lt i hi) (fun i j hi hj => slotLcd_inj i hi j hj) (qLcd bx kd N T E a0 l0 c0 a1 l1 c1 a2 l2 c2 a3 l3 c3 a4 l4 c4 c PQ ) (qLcd_old bx kd N T E a0 l0 c0 a1 l1 c1 a2 l2 c2 a3 l3 c3 a4 l4 c4 c PQ hM_PQ) [] (fun i W v hi hq => by cases hi) ?_ ?_
  · refine ⟨?_, ?_, ?_, ?_, ?_, ?_, ?_, ?_, ?_, ?_, ?_, ?_, ?_, ?_, ?_, ?_, ?_, ?_, ?_, ?_, ?_, ?_, ?_, ?_, ?_, ?_, trivial⟩
    · intro a W g hF hd
      refine ⟨fun _ => ?_, fun h => by rw [wanted_none rfl] at h; cases h⟩
      have e1 := (hF.same 1 slotLcd_no1).trans ha1
      obtain ⟨ρ, hρ⟩ : ∃ ρ, a.eval = ρ := ⟨_, rfl⟩
      rw [hρ] at e1
      refine op_val ρ hρ (.pointer (some ⟨bx, 1, none⟩)) ?_ ⟨_, rfl, Old.refl _, rfl, (fun h => absurd h (by decide))⟩
      clear g hF hd hρ HK K1 K2 K3 K4 ha1 px_bx b_bx pc_bx_1 pc_bx_2 pc_bx_3 pc_bx_4 pc_bx_6 pc_bx_7 pc_bx_8 
      go_simp
      all_goals (first | (rw [IntKind.wrap_i64]; omega) | (rw [IntKind.wrap_u64]; omega) | omega)
    · intro a W g hF hd
      refine ⟨fun _ => ?_, fun h => by rw [wanted_none rfl] at h; cases h⟩
      have h0 : a.eval (.tmp 24) = .pointer (some ⟨bx, 1, none⟩) := hd ⟨0, .data⟩ (by simp) rfl
      have kk0 := pc_bx_1 W g
      have kk1 := pc_bx_2 W g
      have kk2 := pc_bx_3 W g
      have kk3 := pc_bx_4 W g
      obtain ⟨ρ, hρ⟩ : ∃ ρ, a.eval = ρ := ⟨_, rfl⟩
      rw [hρ] at h0
      refine op_val ρ hρ (.agg #[.int .i64 N, .int .i64 T, .int .i64 E, .slice a0 l0 c0]) ?_ ⟨_, rfl, Old.refl _, rfl, (fun h => absurd h (by decide))⟩
      clear g hF hd hρ HK K1 K2 K3 K4 ha1 px_bx b_bx pc_bx_1 pc_bx_2 pc_bx_3 pc_bx_4 pc_bx_6 pc_bx_7 pc_bx_8 
      go_simp
      all_goals (first | (rw [IntKind.wrap_i64]; omega) | (rw [IntKind.wrap_u64]; omega) | omega)
    · intro a W g hF hd
      refine ⟨fun _ => ?_, fun h => by rw [wanted_none rfl] at h; cases h⟩
      have e1 := (hF.same 1 slotLcd_no1).trans ha1
      obtain ⟨ρ, hρ⟩ : ∃ ρ, a.eval = ρ := ⟨_, rfl⟩
      rw [hρ] at e1
      refine op_val ρ hρ (.pointer (some ⟨bx, 6, none⟩)) ?_ ⟨_, rfl, Old.refl _, rfl, (fun h => absurd h (by decide))⟩
      clear g hF hd hρ HK K1 K2 K3 K4 ha1 px_bx b_bx pc_bx_1 pc_bx_2 pc_bx_3 pc_bx_4 pc_bx_6 pc_bx_7 pc_bx_8 
      go_simp
      all_goals (first | (rw [IntKind.wrap_i64]; omega) | (rw [IntKind.wrap_u64]; omega) | omega)
    · intro a W g hF hd
      refine ⟨fun _ => ?_, fun h => by rw [wanted_none rfl] at h; cases h⟩
      have h2 : a.eval (.tmp 26) = .pointer (some ⟨bx, 6, none⟩) := hd ⟨2, .data⟩ (by simp) rfl
      have kk0 := pc_bx_6 W g
      obtain ⟨ρ, hρ⟩ : ∃ ρ, a.eval = ρ := ⟨_, rfl⟩
      rw [hρ] at h2
      refine op_val ρ hρ (.agg #[.slice a2 l2 c2]) ?_ ⟨_, rfl, Old.refl _, rfl, (fun h => absurd h (by decide))⟩
      clear g hF hd hρ HK K1 K2 K3 K4 ha1 px_bx b_bx pc_bx_1 pc_bx_2 pc_bx_3 pc_bx_4 pc_bx_6 pc_bx_7 pc_bx_8 
      go_simp
      all_goals (first | (rw [IntKind.wrap_i64]; omega) | (rw [IntKind.wrap_u64]; omega) | omega)
    · intro a W g hF hd
      refine ⟨fun _ => ?_, fun h => by rw [wanted_none rfl] at h; cases h⟩
      have h1 : a.eval (.tmp 25) = .agg #[.int .i64 N, .int .i64 T, .int .i64 E, .slice a0 l0 c0] := hd ⟨1, .data⟩ (by simp) rfl
      have h3 : a.eval (.tmp 27) = .agg #[.slice a2 l2 c2] := hd ⟨3, .data⟩ (by simp) rfl
      refine op_call_ret (R := fun v w' => v = .bool true ∧ Old W w') Tryz.call76 (vs := #[.agg #[.int .i64 N, .int .i64 T, .int .i64 E, .slice a0 l0 c0], .agg #[.slice a2 l2 c2]]) (by simp [h1, h3]) ((K1 W g).mono fun e w' h => ⟨_, h.1, rfl, h.2⟩) ?_
      rintro x w' ⟨rfl, g'⟩
      exact ⟨_, rfl, g', rfl, (fun h => absurd h (by decide))⟩
    · intro a W g hF hd
      refine ⟨fun _ => ?_, fun h => by rw [wanted_none rfl] at h; cases h⟩
      refine op_move ?_
      exact ⟨_, rfl, Old.refl _, hd ⟨4, .data⟩ (by simp) rfl, (fun h => absurd h (by decide))⟩
    · intro a W g hF hd
      refine ⟨fun _ => ?_, fun h => ?_⟩
      rotate_left
      · rw [wanted_of (j := 5) (s := 29) (want := true) (b := true) rfl rfl (by rw [hF.size, hsz]; decide) (hd ⟨5, .guard⟩ (by simp) rfl)] at h
        cases h
      refine op_guard ?_
      have e1 := (hF.same 1 slotLcd_no1).trans ha1
      obtain ⟨ρ, hρ⟩ : ∃ ρ, a.eval = ρ := ⟨_, rfl⟩
      rw [hρ] at e1
      refine op_val ρ hρ (.pointer (some ⟨bx, 7, none⟩)) ?_ ⟨_, rfl, Old.refl _, rfl, (fun h => absurd h (by decide))⟩
      clear g hF hd hρ HK K1 K2 K3 K4 ha1 px_bx b_bx pc_bx_1 pc_bx_2 pc_bx_3 pc_bx_4 pc_bx_6 pc_bx_7 pc_bx_8 
      go_simp
      all_goals (first | (rw [IntKind.wrap_i64]; omega) | (rw [IntKind.wrap_u64]; omega) | omega)
    · intro a W g hF hd
      refine ⟨fun _ => ?_, fun h => ?_⟩
      rotate_left
      · rw [wanted_of (j := 5) (s := 29) (want := true) (b := true) rfl rfl (by rw [hF.size, hsz]; decide) (hd ⟨5, .guard⟩ (by simp) rfl)] at h
        cases h
      refine op_guard ?_
      have h6 : a.eval (.tmp 30) = .pointer (some ⟨bx, 7, none⟩) := hd ⟨6, .data⟩ (by simp) rfl
      have kk0 := pc_bx_7 W g
      have kk1 := pc_bx_8 W g
      obtain ⟨ρ, hρ⟩ : ∃ ρ, a.eval = ρ := ⟨_, rfl⟩
      rw [hρ] at h6
      refine op_val ρ hρ (.agg #[.bool false, .slice a3 l3 c3]) ?_ ⟨_, rfl, Old.refl _, rfl, (fun h => absurd h (by decide))⟩
      clear g hF hd hρ HK K1 K2 K3 K4 ha1 px_bx b_bx pc_bx_1 pc_bx_2 pc_bx_3 pc_bx_4 pc_bx_6 pc_bx_7 pc_bx_8 
      go_simp
      all_goals (first | (rw [IntKind.wrap_i64]; omega) | (rw [IntKind.wrap_u64]; omega) | omega)
    · intro a W g hF hd
      refine ⟨fun _ => ?_, fun h => ?_⟩
      rotate_left
      · rw [wanted_of (j := 5) (s := 29) (want := true) (b := true) rfl rfl (by rw [hF.size, hsz]; decide) (hd ⟨5, .guard⟩ (by simp) rfl)] at h
        cases h
      refine op_guard ?_
      have h7 : a.eval (.tmp 31) = .agg #[.bool false, .slice a3 l3 c3] := hd ⟨7, .data⟩ (by simp) rfl
      refine op_call_ret (R := fun v w' => v = .bool true ∧ Old W w') Tryz.call124 (vs := #[.agg #[.bool false, .slice a3 l3 c3]]) (by simp [h7]) ((K2 W g).mono fun e w' h => ⟨_, h.1, rfl, h.2⟩) ?_
      rintro x w' ⟨rfl, g'⟩
      exact ⟨_, rfl, g', rfl, (fun h => absurd h (by decide))⟩
    · intro a W g hF hd
      refine ⟨fun _ => ?_, fun h => by rw [wanted_none rfl] at h; cases h⟩
      have h5 : a.eval (.tmp 29) = .bool true := hd ⟨5, .data⟩ (by simp) rfl
      have h8 : a.eval (.tmp 32) = .bool true := hd ⟨8, .data⟩ (by simp) rfl
      obtain ⟨ρ, hρ⟩ : ∃ ρ, a.eval = ρ := ⟨_, rfl⟩
      rw [hρ] at h5 h8
      refine op_val ρ hρ (.bool true) ?_ ⟨_, rfl, Old.refl _, rfl, (fun h => absurd h (by decide))⟩
      clear g hF hd hρ HK K1 K2 K3 K4 ha1 px_bx b_bx pc_bx_1 pc_bx_2 pc_bx_3 pc_bx_4 pc_bx_6 pc_bx_7 pc_bx_8 
      go_simp
      all_goals (first | (rw [IntKind.wrap_i64]; omega) | (rw [IntKind.wrap_u64]; omega) | omega)
    · intro a W g hF hd
      refine ⟨fun _ => ?_, fun h => by rw [wanted_none rfl] at h; cases h⟩
      refine op_move ?_
      exact ⟨_, rfl, Old.refl _, hd ⟨9, .data⟩ (by simp) rfl, (fun h => absurd h (by decide))⟩
    · intro a W g hF hd
      refine ⟨fun _ => ?_, fun h => ?_⟩
      rotate_left
      · rw [wanted_of (j := 10) (s := 34) (want := true) (b := true) rfl rfl (by rw [hF.size, hsz]; decide) (hd ⟨10, .guard⟩ (by simp) rfl)] at h
        cases h
      refine op_guard ?_
      have e1 := (hF.same 1 slotLcd_no1).trans ha1
      obtain ⟨ρ, hρ⟩ : ∃ ρ, a.eval = ρ := ⟨_, rfl⟩
      rw [hρ] at e1
      refine op_val ρ hρ (.pointer (some ⟨bx, 7, none⟩)) ?_ ⟨_, rfl, Old.refl _, rfl, (fun h => absurd h (by decide))⟩
      clear g hF hd hρ HK K1 K2 K3 K4 ha1 px_bx b_bx pc_bx_1 pc_bx_2 pc_bx_3 pc_bx_4 pc_bx_6 pc_bx_7 pc_bx_8 
      go_simp
      all_goals (first | (rw [IntKind.wrap_i64]; omega) | (rw [IntKind.wrap_u64]; omega) | omega)
    · intro a W g hF hd
      refine ⟨fun _ => ?_, fun h => ?_⟩
      rotate_left
      · rw [wanted_of (j := 10) (s := 34) (want := true) (b := true) rfl rfl (by rw [hF.size, hsz]; decide) (hd ⟨10, .guard⟩ (by simp) rfl)] at h
        cases h
      refine op_guard ?_
      have h11 : a.eval (.tmp 35) = .pointer (some ⟨bx, 7, none⟩) := hd ⟨11, .data⟩ (by simp) rfl
      obtain ⟨ρ, hρ⟩ : ∃ ρ, a.eval = ρ := ⟨_, rfl⟩
      rw [hρ] at h11
      refine op_val ρ hρ (.pointer (some ⟨bx, 7, none⟩)) ?_ ⟨_, rfl, Old.refl _, rfl, (fun h => absurd h (by decide))⟩
      clear g hF hd hρ HK K1 K2 K3 K4 ha1 px_bx b_bx pc_bx_1 pc_bx_2 pc_bx_3 pc_bx_4 pc_bx_6 pc_bx_7 pc_bx_8 
      go_simp
      all_goals (first | (rw [IntKind.wrap_i64]; omega) | (rw [IntKind.wrap_u64]; omega) | omega)
    · intro a W g hF hd
      refine ⟨fun _ => ?_, fun h => ?_⟩
      rotate_left
      · rw [wanted_of (j := 10) (s := 34) (want := true) (b := true) rfl rfl (by rw [hF.size, hsz]; decide) (hd ⟨10, .guard⟩ (by simp) rfl)] at h
        cases h
      refine op_guard ?_
      have h12 : a.eval (.tmp 36) = .pointer (some ⟨bx, 7, none⟩) := hd ⟨12, .data⟩ (by simp) rfl
      have kk0 := pc_bx_7 W g
      obtain ⟨ρ, hρ⟩ : ∃ ρ, a.eval = ρ := ⟨_, rfl⟩
      rw [hρ] at h12
      refine op_val ρ hρ (.bool false) ?_ ⟨_, rfl, Old.refl _, rfl, (fun h => absurd h (by decide))⟩
      clear g hF hd hρ HK K1 K2 K3 K4 ha1 px_bx b_bx pc_bx_1 pc_bx_2 pc_bx_3 pc_bx_4 pc_bx_6 pc_bx_7 pc_bx_8 
      go_simp
      all_goals (first | (rw [IntKind.wrap_i64]; omega) | (rw [IntKind.wrap_u64]; omega) | omega)
    · intro a W g hF hd
      refine ⟨fun _ => ?_, fun h => ?_⟩
      rotate_left
      · rw [wanted_of (j := 10) (s := 34) (want := true) (b := true) rfl rfl (by rw [hF.size, hsz]; decide) (hd ⟨10, .guard⟩ (by simp) rfl)] at h
        cases h
      refine op_guard ?_
      have h13 : a.eval (.tmp 37) = .bool false := hd ⟨13, .data⟩ (by simp) rfl
      obtain ⟨ρ, hρ⟩ : ∃ ρ, a.eval = ρ := ⟨_, rfl⟩
      rw [hρ] at h13
      refine op_val ρ hρ (.bool true) ?_ ⟨_, rfl, Old.refl _, rfl, (fun h => absurd h (by decide))⟩
      clear g hF hd hρ HK K1 K2 K3 K4 ha1 px_bx b_bx pc_bx_1 pc_bx_2 pc_bx_3 pc_bx_4 pc_bx_6 pc_bx_7 pc_bx_8 
      go_simp
      all_goals (first | (rw [IntKind.wrap_i64]; omega) | (rw [IntKind.wrap_u64]; omega) | omega)
    · intro a W g hF hd
      refine ⟨fun _ => ?_, fun h => by rw [wanted_none rfl] at h; cases h⟩
      have h10 : a.eval (.tmp 34) = .bool true := hd ⟨10, .data⟩ (by simp) rfl
      have h14 : a.eval (.tmp 38) = .bool true := hd ⟨14, .data⟩ (by simp) rfl
      obtain ⟨ρ, hρ⟩ : ∃ ρ, a.eval = ρ := ⟨_, rfl⟩
      rw [hρ] at h10 h14
      refine op_val ρ hρ (.bool true) ?_ ⟨_, rfl, Old.refl _, rfl, (fun h => absurd h (by decide))⟩
      clear g hF hd hρ HK K1 K2 K3 K4 ha1 px_bx b_bx pc_bx_1 pc_bx_2 pc_bx_3 pc_bx_4 pc_bx_6 pc_bx_7 pc_bx_8 
      go_simp
      all_goals (first | (rw [IntKind.wrap_i64]; omega) | (rw [IntKind.wrap_u64]; omega) | omega)
    · intro a W g hF hd
      refine ⟨fun _ => ?_, fun h => by rw [wanted_none rfl] at h; cases h⟩
      refine op_move ?_
      exact ⟨_, rfl, Old.refl _, hd ⟨15, .data⟩ (by simp) rfl, (fun h => absurd h (by decide))⟩
    · intro a W g hF hd
      refine ⟨fun _ => ?_, fun h => ?_⟩
      rotate_left
      · rw [wanted_of (j := 16) (s := 40) (want := true) (b := true) rfl rfl (by rw [hF.size, hsz]; decide) (hd ⟨16, .guard⟩ (by simp) rfl)] at h
        cases h
      refine op_guard ?_
      have e1 := (hF.same 1 slotLcd_no1).trans ha1
      obtain ⟨ρ, hρ⟩ : ∃ ρ, a.eval = ρ := ⟨_, rfl⟩
      rw [hρ] at e1
      refine op_val ρ hρ (.pointer (some ⟨bx, 7, none⟩)) ?_ ⟨_, rfl, Old.refl _, rfl, (fun h => absurd h (by decide))⟩
      clear g hF hd hρ HK K1 K2 K3 K4 ha1 px_bx b_bx pc_bx_1 pc_bx_2 pc_bx_3 pc_bx_4 pc_bx_6 pc_bx_7 pc_bx_8 
      go_simp
      all_goals (first | (rw [IntKind.wrap_i64]; omega) | (rw [IntKind.wrap_u64]; omega) | omega)
    · intro a W g hF hd
      refine ⟨fun _ => ?_, fun h => ?_⟩
      rotate_left
      · rw [wanted_of (j := 16) (s := 40) (want := true) (b := true) rfl rfl (by rw [hF.size, hsz]; decide) (hd ⟨16, .guard⟩ (by simp) rfl)] at h
        cases h
      refine op_guard ?_
      have h17 : a.eval (.tmp 41) = .pointer (some ⟨bx, 7, none⟩) := hd ⟨17, .data⟩ (by simp) rfl
      obtain ⟨ρ, hρ⟩ : ∃ ρ, a.eval = ρ := ⟨_, rfl⟩
      rw [hρ] at h17
      refine op_val ρ hρ (.pointer (some ⟨bx, 8, none⟩)) ?_ ⟨_, rfl, Old.refl _, rfl, (fun h => absurd h (by decide))⟩
      clear g hF hd hρ HK K1 K2 K3 K4 ha1 px_bx b_bx pc_bx_1 pc_bx_2 pc_bx_3 pc_bx_4 pc_bx_6 pc_bx_7 pc_bx_8 
      go_simp
      all_goals (first | (rw [IntKind.wrap_i64]; omega) | (rw [IntKind.wrap_u64]; omega) | omega)
    · intro a W g hF hd
      refine ⟨fun _ => ?_, fun h => ?_⟩
      rotate_left
      · rw [wanted_of (j := 16) (s := 40) (want := true) (b := true) rfl rfl (by rw [hF.size, hsz]; decide) (hd ⟨16, .guard⟩ (by simp) rfl)] at h
        cases h
      refine op_guard ?_
      have h18 : a.eval (.tmp 42) = .pointer (some ⟨bx, 8, none⟩) := hd ⟨18, .data⟩ (by simp) rfl
      have kk0 := pc_bx_8 W g
      obtain ⟨ρ, hρ⟩ : ∃ ρ, a.eval = ρ := ⟨_, rfl⟩
      rw [hρ] at h18
      refine op_val ρ hρ (.slice a3 l3 c3) ?_ ⟨_, rfl, Old.refl _, rfl, (fun h => absurd h (by decide))⟩
      clear g hF hd hρ HK K1 K2 K3 K4 ha1 px_bx b_bx pc_bx_1 pc_bx_2 pc_bx_3 pc_bx_4 pc_bx_6 pc_bx_7 pc_bx_8 
      go_simp
      all_goals (first | (rw [IntKind.wrap_i64]; omega) | (rw [IntKind.wrap_u64]; omega) | omega)
    · intro a W g hF hd
      refine ⟨fun _ => ?_, fun h => ?_⟩
      rotate_left
      · rw [wanted_of (j := 16) (s := 40) (want := true) (b := true) rfl rfl (by rw [hF.size, hsz]; decide) (hd ⟨16, .guard⟩ (by simp) rfl)] at h
        cases h
      refine op_guard ?_
      have e1 := (hF.same 1 slotLcd_no1).trans ha1
      obtain ⟨ρ, hρ⟩ : ∃ ρ, a.eval = ρ := ⟨_, rfl⟩
      rw [hρ] at e1
      refine op_val ρ hρ (.pointer (some ⟨bx, 1, none⟩)) ?_ ⟨_, rfl, Old.refl _, rfl, (fun h => absurd h (by decide))⟩
      clear g hF hd hρ HK K1 K2 K3 K4 ha1 px_bx b_bx pc_bx_1 pc_bx_2 pc_bx_3 pc_bx_4 pc_bx_6 pc_bx_7 pc_bx_8 
      go_simp
      all_goals (first | (rw [IntKind.wrap_i64]; omega) | (rw [IntKind.wrap_u64]; omega) | omega)
    · intro a W g hF hd
      refine ⟨fun _ => ?_, fun h => ?_⟩
      rotate_left
      · rw [wanted_of (j := 16) (s := 40) (want := true) (b := true) rfl rfl (by rw [hF.size, hsz]; decide) (hd ⟨16, .guard⟩ (by simp) rfl)] at h
        cases h
      refine op_guard ?_
      have h20 : a.eval (.tmp 44) = .pointer (some ⟨bx, 1, none⟩) := hd ⟨20, .data⟩ (by simp) rfl
      have kk0 := pc_bx_1 W g
      have kk1 := pc_bx_2 W g
      have kk2 := pc_bx_3 W g
      have kk3 := pc_bx_4 W g
      obtain ⟨ρ, hρ⟩ : ∃ ρ, a.eval = ρ := ⟨_, rfl⟩
      rw [hρ] at h20
      refine op_val ρ hρ (.agg #[.int .i64 N, .int .i64 T, .int .i64 E, .slice a0 l0 c0]) ?_ ⟨_, rfl, Old.refl _, rfl, (fun h => absurd h (by decide))⟩
      clear g hF hd hρ HK K1 K2 K3 K4 ha1 px_bx b_bx pc_bx_1 pc_bx_2 pc_bx_3 pc_bx_4 pc_bx_6 pc_bx_7 pc_bx_8 
      go_simp
      all_goals (first | (rw [IntKind.wrap_i64]; omega) | (rw [IntKind.wrap_u64]; omega) | omega)
    · intro a W g hF hd
      refine ⟨fun _ => ?_, fun h => ?_⟩
      rotate_left
      · rw [wanted_of (j := 16) (s := 40) (want := true) (b := true) rfl rfl (by rw [hF.size, hsz]; decide) (hd ⟨16, .guard⟩ (by simp) rfl)] at h
        cases h
      refine op_guard ?_
      have h21 : a.eval (.tmp 45) = .agg #[.int .i64 N, .int .i64 T, .int .i64 E, .slice a0 l0 c0] := hd ⟨21, .data⟩ (by simp) rfl
      refine op_call_ret (R := fun v w' => Old W w' ∧ PQ w' v) Tryz.call126 (vs := #[.agg #[.int .i64 N, .int .i64 T, .int .i64 E, .slice a0 l0 c0]]) (by simp [h21]) (K3 W g) ?_
      rintro x w' ⟨g', hp⟩
      exact ⟨_, rfl, g', hp, (fun h => absurd h (by decide))⟩
    · intro a W g hF hd
      refine ⟨fun _ => ?_, fun h => ?_⟩
      rotate_left
      · rw [wanted_of (j := 16) (s := 40) (want := true) (b := true) rfl rfl (by rw [hF.size, hsz]; decide) (hd ⟨16, .guard⟩ (by simp) rfl)] at h
        cases h
      refine op_guard ?_
      have h19 : a.eval (.tmp 43) = .slice a3 l3 c3 := hd ⟨19, .data⟩ (by simp) rfl
      have p22 : PQ W (a.eval (.tmp 46)) := hd ⟨22, .data⟩ (by simp) rfl
      refine op_call_ret (R := fun v w' => v = .int .i64 c ∧ Old W w') Tryz.call125 (vs := #[.slice a3 l3 c3, a.eval (.tmp 46)]) (by simp [h19]) ((K4 W g _ p22).mono fun e w' h => ⟨_, h.1, rfl, h.2⟩) ?_
      rintro x w' ⟨rfl, g'⟩
      exact ⟨_, rfl, g', rfl, (fun h => absurd h (by decide))⟩
    · intro a W g hF hd
      refine ⟨fun _ => ?_, fun h => ?_⟩
      rotate_left
      · rw [wanted_of (j := 16) (s := 40) (want := true) (b := true) rfl rfl (by rw [hF.size, hsz]; decide) (hd ⟨16, .guard⟩ (by simp) rfl)] at h
        cases h
      refine op_guard ?_
      have h23 : a.eval (.tmp 47) = .int .i64 c := hd ⟨23, .data⟩ (by simp) rfl
      have c1 : a.eval (.const (.int .i64 0)) = .int .i64 0 := rfl
      obtain ⟨ρ, hρ⟩ : ∃ ρ, a.eval = ρ := ⟨_, rfl⟩
      rw [hρ] at h23 c1
      refine op_val ρ hρ (.bool (decide (c ≤ 0))) ?_ ⟨_, rfl, Old.refl _, rfl, (fun h => absurd h (by decide))⟩
      clear g hF hd hρ HK K1 K2 K3 K4 ha1 px_bx b_bx pc_bx_1 pc_bx_2 pc_bx_3 pc_bx_4 pc_bx_6 pc_bx_7 pc_bx_8 
      go_simp
      all_goals (first | (rw [IntKind.wrap_i64]; omega) | (rw [IntKind.wrap_u64]; omega) | omega)
    · intro a W g hF hd
      refine ⟨fun _ => ?_, fun h => by rw [wanted_none rfl] at h; cases h⟩
      have h16 : a.eval (.tmp 40) = .bool true := hd ⟨16, .data⟩ (by simp) rfl
      have h24 : a.eval (.tmp 48) = .bool (decide (c ≤ 0)) := hd ⟨24, .data⟩ (by simp) rfl
      obtain ⟨ρ, hρ⟩ : ∃ ρ, a.eval = ρ := ⟨_, rfl⟩
      rw [hρ] at h16 h24
      refine op_val ρ hρ (.bool (decide (c ≤ 0))) ?_ ⟨_, rfl, Old.refl _, rfl, (fun h => absurd h (by decide))⟩
      clear g hF hd hρ HK K1 K2 K3 K4 ha1 px_bx b_bx pc_bx_1 pc_bx_2 pc_bx_3 pc_bx_4 pc_bx_6 pc_bx_7 pc_bx_8 
      go_simp
      all_goals (first | (rw [IntKind.wrap_i64]; omega) | (rw [IntKind.wrap_u64]; omega) | omega)
  · intro a W g hF hq hne
    have hput := fram_put (show Fram 26 slotLcd b0 a from hF) (fun i j hi hj => slotLcd_inj i hi j hj)
    have hk := HK.out (fun i => a.eval (.tmp (slotLcd i))) W g  
    rw [← hput] at hk
    refine op_assign ?_
    show tailWp _ _ _ _ _
    show tailWp _ _ _ (Act.put a (some 2) (a.eval (.tmp 49))) _
    rw [show a.eval (.tmp 49) = .bool (decide (c ≤ 0)) from hq 25 (by decide)]
    exact hk
end Go.Proofs.YtanijpekdnkicaaGreatDoor
