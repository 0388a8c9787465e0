/-
  The reference's Time, Size, Is and Drain, whatever comes. No conditions.
-/
import Derived.Test.YtiikdbadbocjcaaM2
namespace Go.Proofs.Ytiikdbadbocjcaa
open Go.RowKit
set_option linter.unusedVariables false
attribute [local go_sem] Later.cell Later.frozen

theorem refTime_any (t : Int) (v : Bool) (hv : wi t 0 1099511627776 = v) (w : World) :
    Calls Try.prog 22 #[.int .i64 t] w fun e w' => e = .returned (.bool v) ∧ w' = w := by
  subst hv
  by_cases h1 : 0 ≤ t
  · by_cases h2 : t ≤ 1099511627776
    · rw [wi_iff.2 ⟨h1, h2⟩]
      go_enter Try.func22, Try.ntmps22
      go_wp2
      go_ret
      exact ⟨rfl, rfl⟩
    · rw [wi_not.2 (by omega)]
      have h3 : decide (t ≤ 1099511627776) = false := decide_eq_false h2
      go_enter Try.func22, Try.ntmps22
      go_wp2
      go_ret
      exact ⟨rfl, rfl⟩
  · rw [wi_not.2 (by omega)]
    have h3 : decide (0 ≤ t) = false := decide_eq_false h1
    go_enter Try.func22, Try.ntmps22
    go_wp2
    go_ret
    exact ⟨rfl, rfl⟩
theorem refSize_any (t : Int) (v : Bool) (hv : wi t 1 9000 = v) (w : World) :
    Calls Try.prog 24 #[.int .i64 t] w fun e w' => e = .returned (.bool v) ∧ w' = w := by
  subst hv
  by_cases h1 : 1 ≤ t
  · by_cases h2 : t ≤ 9000
    · rw [wi_iff.2 ⟨h1, h2⟩]
      go_enter Try.func24, Try.ntmps24
      go_wp2
      go_ret
      exact ⟨rfl, rfl⟩
    · rw [wi_not.2 (by omega)]
      have h3 : decide (t ≤ 9000) = false := decide_eq_false h2
      go_enter Try.func24, Try.ntmps24
      go_wp2
      go_ret
      exact ⟨rfl, rfl⟩
  · rw [wi_not.2 (by omega)]
    have h3 : decide (1 ≤ t) = false := decide_eq_false h1
    go_enter Try.func24, Try.ntmps24
    go_wp2
    go_ret
    exact ⟨rfl, rfl⟩
theorem refIs_any (m a k : Int) (v : Bool) (hv : isq m a k = v) (w : World) :
    Calls Try.prog 13 #[.int .i64 m, .agg #[.int .i64 a, .int .i64 k]] w fun e w' => e = .returned (.bool v) ∧ Below w.heap.size w w' := by
  by_cases g1 : 1 ≤ m
  · by_cases g2 : m ≤ 1073741824
    · cases v2 : wi a 0 1099511627776
      · obtain rfl : v = false := by rw [← hv]; simp [isq, v2]
        clear hv
        go_enter Try.func13, Try.ntmps13
        go_wp2_with fail
        refine (refTime_any _ _ v2 _).mono ?_
        rintro e w1 ⟨rfl, hw1⟩; subst hw1
        go_wp2
        go_ret
        exact ⟨rfl, by go_grown⟩
      · have v3 : wi k 0 (m * 1000000) = v := by rw [← hv]; simp [isq, wi_iff.2 ⟨g1, g2⟩, v2]
        clear hv
        by_cases g3 : 0 ≤ k
        · by_cases g4 : k ≤ m * 1000000
          · obtain rfl : v = true := by rw [← v3]; exact wi_iff.2 ⟨g3, g4⟩
            go_enter Try.func13, Try.ntmps13
            go_wp2_with fail
            refine (refTime_any _ _ v2 _).mono ?_
            rintro e w1 ⟨rfl, hw1⟩; subst hw1
            go_wp2
            go_ret
            exact ⟨rfl, by go_grown⟩
          · obtain rfl : v = false := by rw [← v3]; exact wi_not.2 (by omega)
            have h4 : decide (k ≤ m * 1000000) = false := decide_eq_false g4
            go_enter Try.func13, Try.ntmps13
            go_wp2_with fail
            refine (refTime_any _ _ v2 _).mono ?_
            rintro e w1 ⟨rfl, hw1⟩; subst hw1
            go_wp2
            go_ret
            exact ⟨rfl, by go_grown⟩
        · obtain rfl : v = false := by rw [← v3]; exact wi_not.2 (by omega)
          have h4 : decide (0 ≤ k) = false := decide_eq_false g3
          go_enter Try.func13, Try.ntmps13
          go_wp2_with fail
          refine (refTime_any _ _ v2 _).mono ?_
          rintro e w1 ⟨rfl, hw1⟩; subst hw1
          go_wp2
          go_ret
          exact ⟨rfl, by go_grown⟩
    · obtain rfl : v = false := by rw [← hv]; exact isq_not.2 (by omega)
      have h4 : decide (m ≤ 1073741824) = false := decide_eq_false g2
      go_enter Try.func13, Try.ntmps13
      go_wp2
      go_ret
      exact ⟨rfl, by go_grown⟩
  · obtain rfl : v = false := by rw [← hv]; exact isq_not.2 (by omega)
    have h4 : decide (1 ≤ m) = false := decide_eq_false g1
    go_enter Try.func13, Try.ntmps13
    go_wp2
    go_ret
    exact ⟨rfl, by go_grown⟩
theorem refDrain_any (m a k r t : Int) (w : World) :
    Calls Try.prog 9 #[.int .i64 m, .agg #[.int .i64 a, .int .i64 k], .int .i64 r, .int .i64 t] w fun e w' => e = .returned (.tuple #[.agg #[.int .i64 (drA m a k r t), .int .i64 (drW m a k r t)], .int .i64 (drE m a k r t)]) ∧ Below w.heap.size w w' := by
  rcases drE_cases m a k r t with ⟨v1, hE⟩ | ⟨v1, v2, hE⟩ | ⟨v1, v2, v3, hE⟩ | ⟨v1, v2, v3, hta, hE⟩ | ⟨v1, v2, v3, hta, hE⟩
  · rw [show drA m a k r t = 0 by unfold drA; rw [hE]; rfl, show drW m a k r t = 0 by unfold drW; rw [hE]; rfl, hE]; clear hE
    go_enter Try.func9, Try.ntmps9
    go_wp2_with fail
    refine (refIs_any m a k _ v1 _).mono ?_
    rintro e w1 ⟨rfl, hw1⟩
    have A : At2 w1 w.heap.size (.int .i64 a) (.int .i64 k) := At2.below (by constructor <;> simp [go_sem]) hw1 (by simp <;> omega)
    have R : At2 w1 (w.heap.size + 1) (.int .i64 0) (.int .i64 0) := At2.below (by constructor <;> simp [go_sem]) hw1 (by simp <;> omega)
    have hb : Below w.heap.size w w1 := Below.call (by go_grown) (by simp <;> omega) hw1
    have hs := hb.size
    clear hw1
    obtain ⟨x0, x1, x2, x3, x4⟩ := id A
    obtain ⟨z0, z1, z2, z3, z4⟩ := id R
    obtain ⟨u0, u1⟩ := R.outs (.int .i64 (0)) (.int .i64 (0))
    go_wp2_with (exact bodyPost_ret (v := .tuple #[.agg #[.int .i64 (0), .int .i64 (0)], .int .i64 1]) (by simp [results, Try.results9, go_sem, u0, u1]) rfl ⟨rfl, by go_grown⟩)
  · rw [show drA m a k r t = 0 by unfold drA; rw [hE]; rfl, show drW m a k r t = 0 by unfold drW; rw [hE]; rfl, hE]; clear hE
    have v2' := wi_not.1 v2
    rcases Int.lt_or_le r 1 with g | g
    · skip
      go_enter Try.func9, Try.ntmps9
      go_wp2_with fail
      refine (refIs_any m a k _ v1 _).mono ?_
      rintro e w1 ⟨rfl, hw1⟩
      have A : At2 w1 w.heap.size (.int .i64 a) (.int .i64 k) := At2.below (by constructor <;> simp [go_sem]) hw1 (by simp <;> omega)
      have R : At2 w1 (w.heap.size + 1) (.int .i64 0) (.int .i64 0) := At2.below (by constructor <;> simp [go_sem]) hw1 (by simp <;> omega)
      have hb : Below w.heap.size w w1 := Below.call (by go_grown) (by simp <;> omega) hw1
      have hs := hb.size
      clear hw1
      obtain ⟨x0, x1, x2, x3, x4⟩ := id A
      obtain ⟨z0, z1, z2, z3, z4⟩ := id R
      obtain ⟨u0, u1⟩ := R.outs (.int .i64 (0)) (.int .i64 (0))
      go_wp2_with (exact bodyPost_ret (v := .tuple #[.agg #[.int .i64 (0), .int .i64 (0)], .int .i64 8]) (by simp [results, Try.results9, go_sem, u0, u1]) rfl ⟨rfl, by go_grown⟩)
    · have d1 : decide (r < 1) = false := decide_eq_false (by omega)
      have d2 : decide ((1000000000 : Int) < r) = true := decide_eq_true (by omega)
      go_enter Try.func9, Try.ntmps9
      go_wp2_with fail
      refine (refIs_any m a k _ v1 _).mono ?_
      rintro e w1 ⟨rfl, hw1⟩
      have A : At2 w1 w.heap.size (.int .i64 a) (.int .i64 k) := At2.below (by constructor <;> simp [go_sem]) hw1 (by simp <;> omega)
      have R : At2 w1 (w.heap.size + 1) (.int .i64 0) (.int .i64 0) := At2.below (by constructor <;> simp [go_sem]) hw1 (by simp <;> omega)
      have hb : Below w.heap.size w w1 := Below.call (by go_grown) (by simp <;> omega) hw1
      have hs := hb.size
      clear hw1
      obtain ⟨x0, x1, x2, x3, x4⟩ := id A
      obtain ⟨z0, z1, z2, z3, z4⟩ := id R
      obtain ⟨u0, u1⟩ := R.outs (.int .i64 (0)) (.int .i64 (0))
      go_wp2_with (exact bodyPost_ret (v := .tuple #[.agg #[.int .i64 (0), .int .i64 (0)], .int .i64 8]) (by simp [results, Try.results9, go_sem, u0, u1]) rfl ⟨rfl, by go_grown⟩)
  · rw [show drA m a k r t = 0 by unfold drA; rw [hE]; rfl, show drW m a k r t = 0 by unfold drW; rw [hE]; rfl, hE]; clear hE
    obtain ⟨r2, r3⟩ := wi_iff.1 v2
    have d1 : decide (r < 1) = false := decide_eq_false (by omega)
    have d2 : decide ((1000000000 : Int) < r) = false := decide_eq_false (by omega)
    go_enter Try.func9, Try.ntmps9
    go_wp2_with fail
    refine (refIs_any m a k _ v1 _).mono ?_
    rintro e w1 ⟨rfl, hw1⟩
    have A : At2 w1 w.heap.size (.int .i64 a) (.int .i64 k) := At2.below (by constructor <;> simp [go_sem]) hw1 (by simp <;> omega)
    have R : At2 w1 (w.heap.size + 1) (.int .i64 0) (.int .i64 0) := At2.below (by constructor <;> simp [go_sem]) hw1 (by simp <;> omega)
    have hb : Below w.heap.size w w1 := Below.call (by go_grown) (by simp <;> omega) hw1
    have hs := hb.size
    clear hw1
    obtain ⟨x0, x1, x2, x3, x4⟩ := id A
    obtain ⟨z0, z1, z2, z3, z4⟩ := id R
    go_wp2_with fail
    refine (refTime_any _ _ v3 _).mono ?_
    rintro e w2 ⟨rfl, hw2⟩; subst hw2
    obtain ⟨u0, u1⟩ := R.outs (.int .i64 (0)) (.int .i64 (0))
    go_wp2_with (exact bodyPost_ret (v := .tuple #[.agg #[.int .i64 (0), .int .i64 (0)], .int .i64 10]) (by simp [results, Try.results9, go_sem, u0, u1]) rfl ⟨rfl, by go_grown⟩)
  · rw [show drA m a k r t = 0 by unfold drA; rw [hE]; rfl, show drW m a k r t = 0 by unfold drW; rw [hE]; rfl, hE]; clear hE
    obtain ⟨r2, r3⟩ := wi_iff.1 v2
    have d1 : decide (r < 1) = false := decide_eq_false (by omega)
    have d2 : decide ((1000000000 : Int) < r) = false := decide_eq_false (by omega)
    go_enter Try.func9, Try.ntmps9
    go_wp2_with fail
    refine (refIs_any m a k _ v1 _).mono ?_
    rintro e w1 ⟨rfl, hw1⟩
    have A : At2 w1 w.heap.size (.int .i64 a) (.int .i64 k) := At2.below (by constructor <;> simp [go_sem]) hw1 (by simp <;> omega)
    have R : At2 w1 (w.heap.size + 1) (.int .i64 0) (.int .i64 0) := At2.below (by constructor <;> simp [go_sem]) hw1 (by simp <;> omega)
    have hb : Below w.heap.size w w1 := Below.call (by go_grown) (by simp <;> omega) hw1
    have hs := hb.size
    clear hw1
    obtain ⟨x0, x1, x2, x3, x4⟩ := id A
    obtain ⟨z0, z1, z2, z3, z4⟩ := id R
    go_wp2_with fail
    refine (refTime_any _ _ v3 _).mono ?_
    rintro e w2 ⟨rfl, hw2⟩; subst hw2
    obtain ⟨u0, u1⟩ := R.outs (.int .i64 (0)) (.int .i64 (0))
    go_wp2_with (exact bodyPost_ret (v := .tuple #[.agg #[.int .i64 (0), .int .i64 (0)], .int .i64 10]) (by simp [results, Try.results9, go_sem, u0, u1]) rfl ⟨rfl, by go_grown⟩)
  · rw [show drA m a k r t = t by unfold drA; rw [hE]; rfl, show drW m a k r t = lft k r (t - a) by unfold drW; rw [hE]; rfl, hE]; clear hE
    obtain ⟨⟨b2, b3⟩, ⟨a2, a3⟩, h2, h3⟩ := isq_iff.1 v1
    obtain ⟨r2, r3⟩ := wi_iff.1 v2
    have d1 : decide (r < 1) = false := decide_eq_false (by omega)
    have d2 : decide ((1000000000 : Int) < r) = false := decide_eq_false (by omega)
    obtain ⟨t2, t3⟩ := wi_iff.1 v3
    have hlt : decide (t < a) = false := decide_eq_false (by omega)
    have hr0 : ¬ r = 0 := by omega
    have hqt : k.tdiv r = k / r := Int.tdiv_eq_ediv_of_nonneg h2
    have hq0 : 0 ≤ k / r := Int.ediv_nonneg h2 (by omega)
    have hq1 : k / r ≤ k := Int.ediv_le_self _ h2
    by_cases h : k / r < t - a
    · rw [show lft k r (t - a) = 0 from if_pos h]
      have h4 : decide (k / r < t - a) = true := decide_eq_true h
      go_enter Try.func9, Try.ntmps9
      go_wp2_with fail
      refine (refIs_any m a k _ v1 _).mono ?_
      rintro e w1 ⟨rfl, hw1⟩
      have A : At2 w1 w.heap.size (.int .i64 a) (.int .i64 k) := At2.below (by constructor <;> simp [go_sem]) hw1 (by simp <;> omega)
      have R : At2 w1 (w.heap.size + 1) (.int .i64 0) (.int .i64 0) := At2.below (by constructor <;> simp [go_sem]) hw1 (by simp <;> omega)
      have hb : Below w.heap.size w w1 := Below.call (by go_grown) (by simp <;> omega) hw1
      have hs := hb.size
      clear hw1
      obtain ⟨x0, x1, x2, x3, x4⟩ := id A
      obtain ⟨z0, z1, z2, z3, z4⟩ := id R
      go_wp2_with fail
      refine (refTime_any _ _ v3 _).mono ?_
      rintro e w2 ⟨rfl, hw2⟩; subst hw2
      obtain ⟨u0, u1⟩ := R.outs (.int .i64 (t)) (.int .i64 (0))
      go_wp2_with (exact bodyPost_ret (v := .tuple #[.agg #[.int .i64 (t), .int .i64 (0)], .int .i64 0]) (by simp [results, Try.results9, go_sem, u0, u1]) rfl ⟨rfl, by go_grown⟩)
    · rw [show lft k r (t - a) = k - (t - a) * r by rw [Int.mul_comm]; exact if_neg h]
      have h4 : decide (k / r < t - a) = false := decide_eq_false h
      obtain ⟨m0, m1⟩ := mul_in (s := t - a) (fun g => h ((lft_test (by omega)).2 g)) (by omega) (show 0 < r by omega)
      rw [Int.mul_comm] at m0 m1
      go_enter Try.func9, Try.ntmps9
      go_wp2_with fail
      refine (refIs_any m a k _ v1 _).mono ?_
      rintro e w1 ⟨rfl, hw1⟩
      have A : At2 w1 w.heap.size (.int .i64 a) (.int .i64 k) := At2.below (by constructor <;> simp [go_sem]) hw1 (by simp <;> omega)
      have R : At2 w1 (w.heap.size + 1) (.int .i64 0) (.int .i64 0) := At2.below (by constructor <;> simp [go_sem]) hw1 (by simp <;> omega)
      have hb : Below w.heap.size w w1 := Below.call (by go_grown) (by simp <;> omega) hw1
      have hs := hb.size
      clear hw1
      obtain ⟨x0, x1, x2, x3, x4⟩ := id A
      obtain ⟨z0, z1, z2, z3, z4⟩ := id R
      go_wp2_with fail
      refine (refTime_any _ _ v3 _).mono ?_
      rintro e w2 ⟨rfl, hw2⟩; subst hw2
      obtain ⟨u0, u1⟩ := R.outs (.int .i64 (t)) (.int .i64 (k - (t - a) * r))
      go_wp2_with (exact bodyPost_ret (v := .tuple #[.agg #[.int .i64 (t), .int .i64 (k - (t - a) * r)], .int .i64 0]) (by simp [results, Try.results9, go_sem, u0, u1]) rfl ⟨rfl, by go_grown⟩)
end Go.Proofs.Ytiikdbadbocjcaa
