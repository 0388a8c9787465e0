/-
  The program's Arrive, whatever comes. No conditions.
-/
import Derived.Test.YtiikdbadbocjcaaM3
import Derived.Deep.RegionWith
import Derived.Deep.CutRange
import Derived.Deep.DeepCutAuto
namespace Go.Proofs.Ytiikdbadbocjcaa
open Go.RowKit
set_option linter.unusedVariables false
attribute [local go_sem] Later.cell Later.frozen
set_option maxHeartbeats 1000000 in
theorem arrive_any (m a k r t s : Int) (w : World) :
    Calls Try.prog 10 #[.int .i64 m, .agg #[.int .i64 a, .int .i64 k], .int .i64 r, .agg #[.int .i64 t, .int .i64 s]] w fun e w' => e = .returned (.tuple #[.int .i64 (arL m a k r t s), .agg #[.int .i64 (arA m a k r t s), .int .i64 (arW m a k r t s)], .int .i64 (arE m a k r t s)]) ∧ Below w.heap.size w w' := by
  have D := fun w => drain_any m a k r t w
  by_cases h0 : drE m a k r t = 0
  · obtain ⟨j1, ⟨j2, j3⟩, ⟨j4, j5⟩, j6, j7, j8⟩ := dr_ok h0
    obtain ⟨i1, i2⟩ := dr_bd h0
    obtain ⟨⟨g1, g2⟩, g3, g4, g5⟩ := isq_iff.1 i1
    rw [h0, j7] at D
    rcases arE_cases m a k r t s with ⟨e, _⟩ | ⟨_, v2, hE⟩ | ⟨_, v2, v3, hE⟩ | ⟨_, v2, v3, hE⟩
    · exact absurd h0 e
    · rw [show arL m a k r t s = 0 by unfold arL; rw [hE]; rfl, show arA m a k r t s = 0 by unfold arA; rw [hE]; rfl, show arW m a k r t s = 0 by unfold arW; rw [hE]; rfl, hE]; clear hE
      generalize drW m a k r t = k' at *
      clear j7 j8 h0
      go_enter Try.func10, Try.ntmps10
      go_wp2_with fail
      refine (D _).mono ?_
      rintro e w1 ⟨rfl, hw1⟩
      have X : At2 w1 (w.heap.size + 1) (.int .i64 t) (.int .i64 s) := At2.below (by constructor <;> simp [go_sem]) hw1 (by simp <;> omega)
      have R : At2 w1 (w.heap.size + 1 + 1) (.int .i64 0) (.int .i64 0) := At2.below (by constructor <;> simp [go_sem]) hw1 (by simp <;> omega)
      have hb : Below w.heap.size w w1 := Below.call (by go_grown) (by simp <;> omega) hw1
      have hs := hb.size
      have hsx := X.lt
      have hsr := R.lt
      clear hw1 D
      obtain ⟨x0, x1, x2, x3, x4⟩ := id X
      obtain ⟨z0, z1, z2, z3, z4⟩ := id R
      go_wp2_with fail
      refine (within_any _ _ _ _ v2 _).mono ?_
      rintro e w2 ⟨rfl, hw2⟩; subst hw2
      obtain ⟨u0, u1, _, _, _⟩ := (R.put (.int .i64 (0)) (.int .i64 (0))).alloc (.cells #[.int .i64 t, .int .i64 k'] 23)
      go_wp2_with (exact bodyPost_ret (v := .tuple #[.int .i64 (0), .agg #[.int .i64 (0), .int .i64 (0)], .int .i64 9]) (by simp [results, Try.results10, go_sem, u0, u1]) rfl ⟨rfl, by go_grown⟩)
    · rw [show arL m a k r t s = 0 by unfold arL; rw [hE]; rfl, show arA m a k r t s = 0 by unfold arA; rw [hE]; rfl, show arW m a k r t s = 0 by unfold arW; rw [hE]; rfl, hE]; clear hE
      generalize drW m a k r t = k' at *
      clear j7 j8 h0
      obtain ⟨s2, s3⟩ := wi_iff.1 v2
      have d1 : decide (m * 1000000 < k' + s * 1000000) = true := decide_eq_true v3
      go_enter Try.func10, Try.ntmps10
      go_wp2_with fail
      refine (D _).mono ?_
      rintro e w1 ⟨rfl, hw1⟩
      have X : At2 w1 (w.heap.size + 1) (.int .i64 t) (.int .i64 s) := At2.below (by constructor <;> simp [go_sem]) hw1 (by simp <;> omega)
      have R : At2 w1 (w.heap.size + 1 + 1) (.int .i64 0) (.int .i64 0) := At2.below (by constructor <;> simp [go_sem]) hw1 (by simp <;> omega)
      have hb : Below w.heap.size w w1 := Below.call (by go_grown) (by simp <;> omega) hw1
      have hs := hb.size
      have hsx := X.lt
      have hsr := R.lt
      clear hw1 D
      obtain ⟨x0, x1, x2, x3, x4⟩ := id X
      obtain ⟨z0, z1, z2, z3, z4⟩ := id R
      go_wp2_with fail
      refine (within_any _ _ _ _ v2 _).mono ?_
      rintro e w2 ⟨rfl, hw2⟩; subst hw2
      obtain ⟨u0, u1, _, _, _⟩ := (R.put (.int .i64 (0)) (.int .i64 (0))).alloc (.cells #[.int .i64 t, .int .i64 k'] 23)
      go_wp2_with (exact bodyPost_ret (v := .tuple #[.int .i64 (0), .agg #[.int .i64 (0), .int .i64 (0)], .int .i64 2]) (by simp [results, Try.results10, go_sem, u0, u1]) rfl ⟨rfl, by go_grown⟩)
    · rw [show arL m a k r t s = t + (drW m a k r t + s * 1000000 + r - 1) / r by unfold arL; rw [hE]; rfl, show arA m a k r t s = t by unfold arA; rw [hE]; rfl, show arW m a k r t s = drW m a k r t + s * 1000000 by unfold arW; rw [hE]; rfl, hE]; clear hE
      generalize drW m a k r t = k' at *
      clear j7 j8 h0
      obtain ⟨s2, s3⟩ := wi_iff.1 v2
      have d1 : decide (m * 1000000 < k' + s * 1000000) = false := decide_eq_false (by omega)
      obtain ⟨q0, q1⟩ := up_bd (x := k' + s * 1000000) (r := r) (by omega) j2
      go_enter Try.func10, Try.ntmps10
      go_wp2_with fail
      refine (D _).mono ?_
      rintro e w1 ⟨rfl, hw1⟩
      have X : At2 w1 (w.heap.size + 1) (.int .i64 t) (.int .i64 s) := At2.below (by constructor <;> simp [go_sem]) hw1 (by simp <;> omega)
      have R : At2 w1 (w.heap.size + 1 + 1) (.int .i64 0) (.int .i64 0) := At2.below (by constructor <;> simp [go_sem]) hw1 (by simp <;> omega)
      have hb : Below w.heap.size w w1 := Below.call (by go_grown) (by simp <;> omega) hw1
      have hs := hb.size
      have hsx := X.lt
      have hsr := R.lt
      clear hw1 D
      obtain ⟨x0, x1, x2, x3, x4⟩ := id X
      obtain ⟨z0, z1, z2, z3, z4⟩ := id R
      go_wp2_with fail
      refine (within_any _ _ _ _ v2 _).mono ?_
      rintro e w2 ⟨rfl, hw2⟩; subst hw2
      go_upto_region 9 with fail
      refine wp_forget (fun W => At2 W w1.heap.size (.int .i64 t) (.int .i64 (k' + s * 1000000)) ∧ At2 W (w.heap.size + 1) (.int .i64 t) (.int .i64 s) ∧ At2 W (w.heap.size + 1 + 1) (.int .i64 0) (.int .i64 0) ∧ Below w.heap.size w W) ⟨At2.fresh _ _ _ _, X.alloc _, R.alloc _, by go_grown⟩ ?_
      clear X R hb x0 x1 x2 x3 x4 z0 z1 z2 z3 z4
      rintro w2 ⟨N, X, R, hb⟩
      have hb2 := hb.size
      obtain ⟨n0, n1, n2, n3, n4⟩ := id N
      obtain ⟨x0, x1, x2, x3, x4⟩ := id X
      obtain ⟨z0, z1, z2, z3, z4⟩ := id R
      obtain ⟨u0, u1⟩ := R.outs (.int .i64 t) (.int .i64 (k' + s * 1000000))
      have hwr : IntKind.i64.wrap (t + (k' + s * 1000000 + r - 1) / r) = t + (k' + s * 1000000 + r - 1) / r := by rw [IntKind.wrap_i64]; omega
      go_wp2_with fail
      go_region_with (go_at_call 23; refine (through_any _ _ (by omega) (by omega) j2 j3 _).mono ?_; rintro e w3 ⟨rfl, hw3⟩; subst hw3)
      all_goals go_wp2_with (exact bodyPost_ret (v := .tuple #[.int .i64 (t + (k' + s * 1000000 + r - 1) / r), .agg #[.int .i64 t, .int .i64 (k' + s * 1000000)], .int .i64 0]) (by simp [results, Try.results10, go_sem, u0, u1]) rfl ⟨rfl, by go_grown⟩)
  · rcases arE_cases m a k r t s with ⟨_, hE⟩ | ⟨e, _⟩ | ⟨e, _⟩ | ⟨e, _⟩
    · obtain ⟨k1, k2⟩ := dr_no h0
      rw [k1, k2] at D
      obtain ⟨l1, l2, l3⟩ := ar_no (s := s) (show arE m a k r t s ≠ 0 by rw [hE]; exact h0)
      rw [l1, l2, l3, hE]
      clear k1 k2 l1 l2 l3 hE
      generalize drE m a k r t = E at *
      have hE1 : (E == 0) = false := by simp [h0]
      have hE2 : (E != 0) = true := by simp [h0]
      clear h0
      go_enter Try.func10, Try.ntmps10
      go_wp2_with fail
      refine (D _).mono ?_
      rintro e w1 ⟨rfl, hw1⟩
      have R : At2 w1 (w.heap.size + 1 + 1) (.int .i64 0) (.int .i64 0) := At2.below (by constructor <;> simp [go_sem]) hw1 (by simp <;> omega)
      have hb : Below w.heap.size w w1 := Below.call (by go_grown) (by simp <;> omega) hw1
      have hs := hb.size
      have hsr := R.lt
      clear hw1 D
      obtain ⟨z0, z1, z2, z3, z4⟩ := id R
      obtain ⟨u0, u1, _, _, _⟩ := (R.put (.int .i64 0) (.int .i64 0)).alloc (.cells #[.int .i64 0, .int .i64 0] 23)
      go_wp2_with (exact bodyPost_ret (v := .tuple #[.int .i64 0, .agg #[.int .i64 0, .int .i64 0], .int .i64 E]) (by simp [results, Try.results10, go_sem, u0, u1]) rfl ⟨rfl, by go_grown⟩)
    · exact absurd e h0
    · exact absurd e h0
    · exact absurd e h0
end Go.Proofs.Ytiikdbadbocjcaa
