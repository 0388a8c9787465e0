/-
  The program's Drain of layer 28, whatever comes. No conditions.
-/
import Derived.Test.YtiikdbadbocjcaaM2
namespace Go.Proofs.Ytiikdbadbocjcaa
open Go.RowKit
set_option linter.unusedVariables false
attribute [local go_sem] Later.cell Later.frozen
theorem drain_any (m a k r t : Int) (w : World) :
    Calls Try.prog 8 #[.int .i64 m, .agg #[.int .i64 a, .int .i64 k], .int .i64 r, .int .i64 t] w fun e w' => e = .returned (.tuple #[.agg #[.int .i64 (drA m a k r t), .int .i64 (drW m a k r t)], .int .i64 (drE m a k r t)]) ∧ Below w.heap.size w w' := by
  rcases drE_cases m a k r t with ⟨v1, hE⟩ | ⟨v1, v2, hE⟩ | ⟨v1, v2, v3, hE⟩ | ⟨v1, v2, v3, hta, hE⟩ | ⟨v1, v2, v3, hta, hE⟩
  · rw [show drA m a k r t = 0 by unfold drA; rw [hE]; rfl, show drW m a k r t = 0 by unfold drW; rw [hE]; rfl, hE]; clear hE
    go_enter Try.func8, Try.ntmps8
    go_wp2_with fail
    refine (isq_any m a k _ v1 _).mono ?_
    rintro e w1 ⟨rfl, hw1⟩
    have A : At2 w1 w.heap.size (.int .i64 a) (.int .i64 k) := At2.below (by constructor <;> simp [go_sem]) hw1 (by simp <;> omega)
    have R : At2 w1 (w.heap.size + 1) (.int .i64 0) (.int .i64 0) := At2.below (by constructor <;> simp [go_sem]) hw1 (by simp <;> omega)
    have hb : Below w.heap.size w w1 := Below.call (by go_grown) (by simp <;> omega) hw1
    have hs := hb.size
    clear hw1
    obtain ⟨x0, x1, x2, x3, x4⟩ := id A
    obtain ⟨z0, z1, z2, z3, z4⟩ := id R
    obtain ⟨u0, u1⟩ := R.outs (.int .i64 (0)) (.int .i64 (0))
    go_wp2_with (exact bodyPost_ret (v := .tuple #[.agg #[.int .i64 (0), .int .i64 (0)], .int .i64 1]) (by simp [results, Try.results8, go_sem, u0, u1]) rfl ⟨rfl, by go_grown⟩)
  · rw [show drA m a k r t = 0 by unfold drA; rw [hE]; rfl, show drW m a k r t = 0 by unfold drW; rw [hE]; rfl, hE]; clear hE
    go_enter Try.func8, Try.ntmps8
    go_wp2_with fail
    refine (isq_any m a k _ v1 _).mono ?_
    rintro e w1 ⟨rfl, hw1⟩
    have A : At2 w1 w.heap.size (.int .i64 a) (.int .i64 k) := At2.below (by constructor <;> simp [go_sem]) hw1 (by simp <;> omega)
    have R : At2 w1 (w.heap.size + 1) (.int .i64 0) (.int .i64 0) := At2.below (by constructor <;> simp [go_sem]) hw1 (by simp <;> omega)
    have hb : Below w.heap.size w w1 := Below.call (by go_grown) (by simp <;> omega) hw1
    have hs := hb.size
    clear hw1
    obtain ⟨x0, x1, x2, x3, x4⟩ := id A
    obtain ⟨z0, z1, z2, z3, z4⟩ := id R
    go_wp2_with fail
    refine (within_any _ _ _ _ v2 _).mono ?_
    rintro e w2 ⟨rfl, hw2⟩; subst hw2
    obtain ⟨u0, u1⟩ := R.outs (.int .i64 (0)) (.int .i64 (0))
    go_wp2_with (exact bodyPost_ret (v := .tuple #[.agg #[.int .i64 (0), .int .i64 (0)], .int .i64 8]) (by simp [results, Try.results8, go_sem, u0, u1]) rfl ⟨rfl, by go_grown⟩)
  · rw [show drA m a k r t = 0 by unfold drA; rw [hE]; rfl, show drW m a k r t = 0 by unfold drW; rw [hE]; rfl, hE]; clear hE
    go_enter Try.func8, Try.ntmps8
    go_wp2_with fail
    refine (isq_any m a k _ v1 _).mono ?_
    rintro e w1 ⟨rfl, hw1⟩
    have A : At2 w1 w.heap.size (.int .i64 a) (.int .i64 k) := At2.below (by constructor <;> simp [go_sem]) hw1 (by simp <;> omega)
    have R : At2 w1 (w.heap.size + 1) (.int .i64 0) (.int .i64 0) := At2.below (by constructor <;> simp [go_sem]) hw1 (by simp <;> omega)
    have hb : Below w.heap.size w w1 := Below.call (by go_grown) (by simp <;> omega) hw1
    have hs := hb.size
    clear hw1
    obtain ⟨x0, x1, x2, x3, x4⟩ := id A
    obtain ⟨z0, z1, z2, z3, z4⟩ := id R
    go_wp2_with fail
    refine (within_any _ _ _ _ v2 _).mono ?_
    rintro e w2 ⟨rfl, hw2⟩; subst hw2
    go_wp2_with fail
    refine (isTime_any _ _ v3 _).mono ?_
    rintro e w2 ⟨rfl, hw2⟩; subst hw2
    obtain ⟨u0, u1⟩ := R.outs (.int .i64 (0)) (.int .i64 (0))
    go_wp2_with (exact bodyPost_ret (v := .tuple #[.agg #[.int .i64 (0), .int .i64 (0)], .int .i64 10]) (by simp [results, Try.results8, go_sem, u0, u1]) rfl ⟨rfl, by go_grown⟩)
  · rw [show drA m a k r t = 0 by unfold drA; rw [hE]; rfl, show drW m a k r t = 0 by unfold drW; rw [hE]; rfl, hE]; clear hE
    go_enter Try.func8, Try.ntmps8
    go_wp2_with fail
    refine (isq_any m a k _ v1 _).mono ?_
    rintro e w1 ⟨rfl, hw1⟩
    have A : At2 w1 w.heap.size (.int .i64 a) (.int .i64 k) := At2.below (by constructor <;> simp [go_sem]) hw1 (by simp <;> omega)
    have R : At2 w1 (w.heap.size + 1) (.int .i64 0) (.int .i64 0) := At2.below (by constructor <;> simp [go_sem]) hw1 (by simp <;> omega)
    have hb : Below w.heap.size w w1 := Below.call (by go_grown) (by simp <;> omega) hw1
    have hs := hb.size
    clear hw1
    obtain ⟨x0, x1, x2, x3, x4⟩ := id A
    obtain ⟨z0, z1, z2, z3, z4⟩ := id R
    go_wp2_with fail
    refine (within_any _ _ _ _ v2 _).mono ?_
    rintro e w2 ⟨rfl, hw2⟩; subst hw2
    go_wp2_with fail
    refine (isTime_any _ _ v3 _).mono ?_
    rintro e w2 ⟨rfl, hw2⟩; subst hw2
    obtain ⟨u0, u1⟩ := R.outs (.int .i64 (0)) (.int .i64 (0))
    go_wp2_with (exact bodyPost_ret (v := .tuple #[.agg #[.int .i64 (0), .int .i64 (0)], .int .i64 10]) (by simp [results, Try.results8, go_sem, u0, u1]) rfl ⟨rfl, by go_grown⟩)
  · rw [show drA m a k r t = t by unfold drA; rw [hE]; rfl, show drW m a k r t = lft k r (t - a) by unfold drW; rw [hE]; rfl, hE]; clear hE
    obtain ⟨⟨b2, b3⟩, ⟨a2, a3⟩, h2, h3⟩ := isq_iff.1 v1
    obtain ⟨r2, r3⟩ := wi_iff.1 v2
    obtain ⟨t2, t3⟩ := wi_iff.1 v3
    have hlt : decide (t < a) = false := decide_eq_false (by omega)
    go_enter Try.func8, Try.ntmps8
    go_wp2_with fail
    refine (isq_any m a k _ v1 _).mono ?_
    rintro e w1 ⟨rfl, hw1⟩
    have A : At2 w1 w.heap.size (.int .i64 a) (.int .i64 k) := At2.below (by constructor <;> simp [go_sem]) hw1 (by simp <;> omega)
    have R : At2 w1 (w.heap.size + 1) (.int .i64 0) (.int .i64 0) := At2.below (by constructor <;> simp [go_sem]) hw1 (by simp <;> omega)
    have hb : Below w.heap.size w w1 := Below.call (by go_grown) (by simp <;> omega) hw1
    have hs := hb.size
    clear hw1
    obtain ⟨x0, x1, x2, x3, x4⟩ := id A
    obtain ⟨z0, z1, z2, z3, z4⟩ := id R
    go_wp2_with fail
    refine (within_any _ _ _ _ v2 _).mono ?_
    rintro e w2 ⟨rfl, hw2⟩; subst hw2
    go_wp2_with fail
    refine (isTime_any _ _ v3 _).mono ?_
    rintro e w2 ⟨rfl, hw2⟩; subst hw2
    go_wp2_with fail
    refine (left_any k r (t - a) h2 (by omega) r2 (by omega) _).mono ?_
    rintro e w2 ⟨rfl, hw2⟩; subst hw2
    obtain ⟨u0, u1⟩ := R.outs (.int .i64 (t)) (.int .i64 (lft k r (t - a)))
    go_wp2_with (exact bodyPost_ret (v := .tuple #[.agg #[.int .i64 (t), .int .i64 (lft k r (t - a))], .int .i64 0]) (by simp [results, Try.results8, go_sem, u0, u1]) rfl ⟨rfl, by go_grown⟩)
end Go.Proofs.Ytiikdbadbocjcaa
