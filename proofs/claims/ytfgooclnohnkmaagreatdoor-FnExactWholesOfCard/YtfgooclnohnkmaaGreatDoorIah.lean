/- Proved: the program's AheadRows and BackRows, out of eachRow. -/
import Derived.Test.YtfgooclnohnkmaaGreatDoorAhm
namespace Go.Proofs.YtfgooclnohnkmaaGreatDoor
open Go.ChangeShapes Go.WideShapes Go.ChangeAt Go.RowKit
set_option linter.unusedVariables false
set_option linter.unusedSimpArgs false
set_option maxRecDepth 100000 in
set_option maxHeartbeats 4000000 in
theorem impl_BackRows_of (N : Int) (ps : List Int) (xss : List (List Int)) (a : Bool) (a0 a1 : Option Addr) (cap0 cap1 : Nat) (w : World) (n : Bool) (zss : List (List Int)) (ok : Bool)
    (c : ∀ W, Old w W → Calls Tryz.prog 156 #[.agg #[.int .i64 N, .slice a0 ps.length cap0], .agg #[.bool a, .slice a1 xss.length cap1], .bool false, .func (.func 157) #[] #[]] W (Rs W n zss ok)) :
    Calls Tryz.prog 87 #[.agg #[.int .i64 N, .slice a0 ps.length cap0], .agg #[.bool a, .slice a1 xss.length cap1]] w (Rs w n zss ok) := by
  have HA : Hid (Old w (((w.alloc (.cells #[.int .i64 N, .slice a0 ps.length cap0] 56)).alloc (.cells #[.bool a, .slice a1 xss.length cap1] 58)).alloc (.cells #[.bool false, .slice none 0 0] 58))) := (((Old.refl w).alloc _).alloc _).alloc _
  have HS : Hid (StW (((w.alloc (.cells #[.int .i64 N, .slice a0 ps.length cap0] 56)).alloc (.cells #[.bool a, .slice a1 xss.length cap1] 58)).alloc (.cells #[.bool false, .slice none 0 0] 58)) (w.heap.size + 1 + 1) (.bool false) (.slice none 0 0) 58) := by
    have := StW.new ((w.alloc (.cells #[.int .i64 N, .slice a0 ps.length cap0] 56)).alloc (.cells #[.bool a, .slice a1 xss.length cap1] 58)) (.bool false) (.slice none 0 0) 58
    simp at this
    exact this
  have HBX : Hid (∀ W', Old (((w.alloc (.cells #[.int .i64 N, .slice a0 ps.length cap0] 56)).alloc (.cells #[.bool a, .slice a1 xss.length cap1] 58)).alloc (.cells #[.bool false, .slice none 0 0] 58)) W' → StW W' w.heap.size (.int .i64 N) (.slice a0 ps.length cap0) 56 ∧ StW W' (w.heap.size + 1) (.bool a) (.slice a1 xss.length cap1) 58) := fun W' g => by
    have g1 := Old.trans ((Old.refl _).alloc _) g
    have g0 := Old.trans ((Old.refl _).alloc _) g1
    refine ⟨(StW.new w (.int .i64 N) (.slice a0 ps.length cap0) 56).old g0, ?_⟩
    have h := (StW.new (w.alloc (.cells #[.int .i64 N, .slice a0 ps.length cap0] 56)) (.bool a) (.slice a1 xss.length cap1) 58).old g1
    simp at h
    exact h
  go_enter Tryz.func87, Tryz.ntmps87
  go_wp2_with fail
  refine (c _ HA.out).mono ?_
  rintro e w2 ⟨r0, rfl, g2, xr⟩
  obtain ⟨ax, cx, rfl, ox⟩ := xr
  have HG2 : Hid (Old w w2) := Old.trans HA.out g2
  have S2 : Hid (StW w2 (w.heap.size + 1 + 1) (.bool false) (.slice none 0 0) 58) := HS.out.old g2
  have OX : Hid (OwS zss w2 (((w.alloc (.cells #[.int .i64 N, .slice a0 ps.length cap0] 56)).alloc (.cells #[.bool a, .slice a1 xss.length cap1] 58)).alloc (.cells #[.bool false, .slice none 0 0] 58)).heap.size w2.heap.size (.slice ax zss.length cx)) := ox
  have HSZ : Hid ((((w.alloc (.cells #[.int .i64 N, .slice a0 ps.length cap0] 56)).alloc (.cells #[.bool a, .slice a1 xss.length cap1] 58)).alloc (.cells #[.bool false, .slice none 0 0] 58)).heap.size = w.heap.size + 1 + 1 + 1) := by show _ = _; simp
  have q0 := S2.out.c0
  have q1 := S2.out.c1
  have f0 := S2.out.f0
  have f1 := S2.out.f1
  clear g2 ox
  go_wp2_with fail
  have hs3 := HSZ.out
  refine bodyPost_ret (ret_rb Tryz.results87 _ _ rfl rfl (st_put2 S2.out _ _)) rfl ⟨_, rfl, ?_, ax, cx, rfl, ?_⟩
  · exact (HG2.out.own (p := ⟨w.heap.size + 1 + 1, 0, none⟩) (by simp; omega) _).own (p := ⟨w.heap.size + 1 + 1, 1, none⟩) (by simp; omega) _
  · have h2 := (OX.out.put (k := w.heap.size + 1 + 1) (j := 0) (x := .bool n) (by omega)).put (k := w.heap.size + 1 + 1) (j := 1) (x := .slice ax zss.length cx) (by omega)
    have h3 := h2.low (lo' := w.heap.size) (by omega)
    exact h3.high (by simp) (Nat.le_refl _)
end Go.Proofs.YtfgooclnohnkmaaGreatDoor
