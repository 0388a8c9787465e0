/-
  The reference's Is, New, Fill and Take of layer 25. No conditions but the numbers' own ranges.
-/
import Derived.Test.YtahlphbgnhklaaaN1
import Derived.Test.YtahlphbgnhklaaaK
import Derived.Test.YtahlphbgnhklaaaProg
namespace Go.Proofs.Ytahlphbgnhklaaa
open Go.RowKit
set_option linter.unusedVariables false

theorem refTime_any (t : Int) (v : Bool) (hv : wi t 0 1099511627776 = v) (w : World) :
    Calls Try.prog 25 #[.int .i64 t] w fun e w' => e = .returned (.bool v) ∧ w' = w := by
  subst hv
  by_cases h1 : 0 ≤ t
  · by_cases h2 : t ≤ 1099511627776
    · rw [wi_iff.2 ⟨h1, h2⟩]
      go_enter Try.func25, Try.ntmps25
      go_wp2
      go_ret
      exact ⟨rfl, rfl⟩
    · rw [wi_not.2 (by omega)]
      have h3 : decide (t ≤ 1099511627776) = false := decide_eq_false h2
      go_enter Try.func25, Try.ntmps25
      go_wp2
      go_ret
      exact ⟨rfl, rfl⟩
  · rw [wi_not.2 (by omega)]
    have h3 : decide (0 ≤ t) = false := decide_eq_false h1
    go_enter Try.func25, Try.ntmps25
    go_wp2
    go_ret
    exact ⟨rfl, rfl⟩
theorem refSize_any (t : Int) (v : Bool) (hv : wi t 1 9000 = v) (w : World) :
    Calls Try.prog 29 #[.int .i64 t] w fun e w' => e = .returned (.bool v) ∧ w' = w := by
  subst hv
  by_cases h1 : 1 ≤ t
  · by_cases h2 : t ≤ 9000
    · rw [wi_iff.2 ⟨h1, h2⟩]
      go_enter Try.func29, Try.ntmps29
      go_wp2
      go_ret
      exact ⟨rfl, rfl⟩
    · rw [wi_not.2 (by omega)]
      have h3 : decide (t ≤ 9000) = false := decide_eq_false h2
      go_enter Try.func29, Try.ntmps29
      go_wp2
      go_ret
      exact ⟨rfl, rfl⟩
  · rw [wi_not.2 (by omega)]
    have h3 : decide (1 ≤ t) = false := decide_eq_false h1
    go_enter Try.func29, Try.ntmps29
    go_wp2
    go_ret
    exact ⟨rfl, rfl⟩
theorem refIs_any (b a h : Int) (h0 : -9223372036854775808 ≤ h) (h1 : h ≤ 9223372036854775807) (v : Bool) (hv : isv b a h = v) (w : World) :
    Calls Try.prog 16 #[.int .i64 b, .agg #[.int .i64 a, .int .i64 h]] w fun e w' => e = .returned (.bool v) ∧ Below w.heap.size w w' := by
  by_cases g1 : 1 ≤ b
  · by_cases g2 : b ≤ 1048576
    · cases v2 : wi a 0 1099511627776
      · obtain rfl : v = false := by rw [← hv]; simp [isv, v2]
        clear hv
        go_enter Try.func16, Try.ntmps16
        go_wp2_with fail
        refine (refTime_any a _ v2 _).mono ?_
        rintro e w1 ⟨rfl, hw1⟩; subst hw1
        go_wp2
        go_ret
        exact ⟨rfl, by go_grown⟩
      · obtain ⟨a0, a1⟩ := wi_iff.1 v2
        by_cases g3 : 0 ≤ h
        · by_cases g4 : h ≤ b * 1000000
          · obtain rfl : v = true := by rw [← hv]; exact isv_iff.2 ⟨⟨g1, g2⟩, ⟨a0, a1⟩, g3, g4⟩
            clear hv
            go_enter Try.func16, Try.ntmps16
            go_wp2_with fail
            refine (refTime_any a _ v2 _).mono ?_
            rintro e w1 ⟨rfl, hw1⟩; subst hw1
            go_wp2
            go_ret
            exact ⟨rfl, by go_grown⟩
          · obtain rfl : v = false := by rw [← hv]; exact isv_not.2 (by omega)
            have g5 : decide (h ≤ b * 1000000) = false := decide_eq_false g4
            clear hv
            go_enter Try.func16, Try.ntmps16
            go_wp2_with fail
            refine (refTime_any a _ v2 _).mono ?_
            rintro e w1 ⟨rfl, hw1⟩; subst hw1
            go_wp2
            go_ret
            exact ⟨rfl, by go_grown⟩
        · obtain rfl : v = false := by rw [← hv]; exact isv_not.2 (by omega)
          have g5 : decide (0 ≤ h) = false := decide_eq_false g3
          clear hv
          go_enter Try.func16, Try.ntmps16
          go_wp2_with fail
          refine (refTime_any a _ v2 _).mono ?_
          rintro e w1 ⟨rfl, hw1⟩; subst hw1
          go_wp2
          go_ret
          exact ⟨rfl, by go_grown⟩
    · obtain rfl : v = false := by rw [← hv]; exact isv_not.2 (by omega)
      have g5 : decide (b ≤ 1048576) = false := decide_eq_false g2
      clear hv
      go_enter Try.func16, Try.ntmps16
      go_wp2
      go_ret
      exact ⟨rfl, by go_grown⟩
  · obtain rfl : v = false := by rw [← hv]; exact isv_not.2 (by omega)
    have g5 : decide (1 ≤ b) = false := decide_eq_false g1
    clear hv
    go_enter Try.func16, Try.ntmps16
    go_wp2
    go_ret
    exact ⟨rfl, by go_grown⟩
theorem refNew_any (b a : Int) (w : World) :
    Calls Try.prog 9 #[.int .i64 b, .int .i64 a] w fun e w' => e = .returned (.tuple #[.agg #[.int .i64 (nwA b a), .int .i64 (nwH b a)], .int .i64 (nwE b a)]) ∧ Below w.heap.size w w' := by
  rcases nwE_cases b a with ⟨v1, hE⟩ | ⟨v1, v2, hE⟩ | ⟨v1, v2, hE⟩
  · rw [show nwA b a = 0 by unfold nwA; rw [hE]; rfl, show nwH b a = 0 by unfold nwH; rw [hE]; rfl, hE]; clear hE
    have v3 := wi_not.1 v1
    by_cases g1 : b < 1
    · go_enter Try.func9, Try.ntmps9
      go_wp2
      go_returns
      exact ⟨rfl, by go_grown⟩
    · have g2 : decide (b < 1) = false := decide_eq_false g1
      have g3 : 1048576 < b := by omega
      go_enter Try.func9, Try.ntmps9
      go_wp2
      go_returns
      exact ⟨rfl, by go_grown⟩
  · rw [show nwA b a = 0 by unfold nwA; rw [hE]; rfl, show nwH b a = 0 by unfold nwH; rw [hE]; rfl, hE]; clear hE
    obtain ⟨b2, b3⟩ := wi_iff.1 v1
    have g2 : decide (b < 1) = false := decide_eq_false (by omega)
    have g3 : decide (1048576 < b) = false := decide_eq_false (by omega)
    go_enter Try.func9, Try.ntmps9
    go_wp2_with fail
    refine (refTime_any a _ v2 _).mono ?_
    rintro e w1 ⟨rfl, hw1⟩; subst hw1
    go_wp2
    go_returns
    exact ⟨rfl, by go_grown⟩
  · rw [show nwA b a = a by unfold nwA; rw [hE]; rfl, show nwH b a = b * 1000000 by unfold nwH; rw [hE]; rfl, hE]; clear hE
    obtain ⟨b2, b3⟩ := wi_iff.1 v1
    have g2 : decide (b < 1) = false := decide_eq_false (by omega)
    have g3 : decide (1048576 < b) = false := decide_eq_false (by omega)
    go_enter Try.func9, Try.ntmps9
    go_wp2_with fail
    refine (refTime_any a _ v2 _).mono ?_
    rintro e w1 ⟨rfl, hw1⟩; subst hw1
    go_wp2
    go_returns
    exact ⟨rfl, by go_grown⟩
theorem At2.outs' {w : World} {b : Nat} {x y : Value} (h : At2 w b x y) (u v : Value) : (w.setCell ⟨b, 0, none⟩ u).cell? ⟨b, 0, none⟩ = some u ∧ ((w.setCell ⟨b, 0, none⟩ u).setCell ⟨b, 1, none⟩ v).cell? ⟨b, 1, none⟩ = some v := ⟨(h.put0 u).c0, ((h.put0 u).put1 v).c1⟩
set_option maxHeartbeats 800000 in
theorem refFill_any (b a h r t : Int) (h0 : -9223372036854775808 ≤ h) (h1 : h ≤ 9223372036854775807) (w : World) :
    Calls Try.prog 11 #[.int .i64 b, .agg #[.int .i64 a, .int .i64 h], .int .i64 r, .int .i64 t] w fun e w' => e = .returned (.tuple #[.agg #[.int .i64 (flA b a h r t), .int .i64 (flH b a h r t)], .int .i64 (flE b a h r t)]) ∧ Below w.heap.size w w' := by
  rcases flE_cases b a h r t with ⟨v1, hE⟩ | ⟨v1, v2, hE⟩ | ⟨v1, v2, v3, hE⟩ | ⟨v1, v2, v3, hta, hE⟩ | ⟨v1, v2, v3, hta, hE⟩
  · rw [show flA b a h r t = 0 by unfold flA; rw [hE]; rfl, show flH b a h r t = 0 by unfold flH; rw [hE]; rfl, hE]; clear hE
    go_enter Try.func11, Try.ntmps11
    go_wp2_with fail
    refine (refIs_any b a h h0 h1 _ v1 _).mono ?_
    rintro e w1 ⟨rfl, hw1⟩
    have A : At2 w1 w.heap.size (.int .i64 a) (.int .i64 h) := At2.below (by constructor <;> simp [go_sem]) hw1 (by simp <;> omega)
    have R : At2 w1 (w.heap.size + 1) (.int .i64 0) (.int .i64 0) := At2.below (by constructor <;> simp [go_sem]) hw1 (by simp <;> omega)
    have hb : Below w.heap.size w w1 := Below.call (by go_grown) (by simp <;> omega) hw1
    have hs := hb.size
    clear hw1
    obtain ⟨x0, x1, x2, x3, x4⟩ := id A
    obtain ⟨z0, z1, z2, z3, z4⟩ := id R
    obtain ⟨u0, u1⟩ := R.outs' (.int .i64 (0)) (.int .i64 (0))
    go_wp2_with (exact bodyPost_ret (v := .tuple #[.agg #[.int .i64 (0), .int .i64 (0)], .int .i64 1]) (by simp [results, Try.results11, go_sem, u0, u1]) rfl ⟨rfl, by go_grown⟩)
  · rw [show flA b a h r t = 0 by unfold flA; rw [hE]; rfl, show flH b a h r t = 0 by unfold flH; rw [hE]; rfl, hE]; clear hE
    have v4 := wi_not.1 v2
    by_cases g1 : r < 1
    · go_enter Try.func11, Try.ntmps11
      go_wp2_with fail
      refine (refIs_any b a h h0 h1 _ v1 _).mono ?_
      rintro e w1 ⟨rfl, hw1⟩
      have A : At2 w1 w.heap.size (.int .i64 a) (.int .i64 h) := At2.below (by constructor <;> simp [go_sem]) hw1 (by simp <;> omega)
      have R : At2 w1 (w.heap.size + 1) (.int .i64 0) (.int .i64 0) := At2.below (by constructor <;> simp [go_sem]) hw1 (by simp <;> omega)
      have hb : Below w.heap.size w w1 := Below.call (by go_grown) (by simp <;> omega) hw1
      have hs := hb.size
      clear hw1
      obtain ⟨x0, x1, x2, x3, x4⟩ := id A
      obtain ⟨z0, z1, z2, z3, z4⟩ := id R
      obtain ⟨u0, u1⟩ := R.outs' (.int .i64 (0)) (.int .i64 (0))
      go_wp2_with (exact bodyPost_ret (v := .tuple #[.agg #[.int .i64 (0), .int .i64 (0)], .int .i64 8]) (by simp [results, Try.results11, go_sem, u0, u1]) rfl ⟨rfl, by go_grown⟩)
    · have g2 : decide (r < 1) = false := decide_eq_false g1
      have g3 : 1000000000 < r := by omega
      go_enter Try.func11, Try.ntmps11
      go_wp2_with fail
      refine (refIs_any b a h h0 h1 _ v1 _).mono ?_
      rintro e w1 ⟨rfl, hw1⟩
      have A : At2 w1 w.heap.size (.int .i64 a) (.int .i64 h) := At2.below (by constructor <;> simp [go_sem]) hw1 (by simp <;> omega)
      have R : At2 w1 (w.heap.size + 1) (.int .i64 0) (.int .i64 0) := At2.below (by constructor <;> simp [go_sem]) hw1 (by simp <;> omega)
      have hb : Below w.heap.size w w1 := Below.call (by go_grown) (by simp <;> omega) hw1
      have hs := hb.size
      clear hw1
      obtain ⟨x0, x1, x2, x3, x4⟩ := id A
      obtain ⟨z0, z1, z2, z3, z4⟩ := id R
      obtain ⟨u0, u1⟩ := R.outs' (.int .i64 (0)) (.int .i64 (0))
      go_wp2_with (exact bodyPost_ret (v := .tuple #[.agg #[.int .i64 (0), .int .i64 (0)], .int .i64 8]) (by simp [results, Try.results11, go_sem, u0, u1]) rfl ⟨rfl, by go_grown⟩)
  · rw [show flA b a h r t = 0 by unfold flA; rw [hE]; rfl, show flH b a h r t = 0 by unfold flH; rw [hE]; rfl, hE]; clear hE
    obtain ⟨r2, r3⟩ := wi_iff.1 v2
    have g2 : decide (r < 1) = false := decide_eq_false (by omega)
    have g3 : decide (1000000000 < r) = false := decide_eq_false (by omega)
    go_enter Try.func11, Try.ntmps11
    go_wp2_with fail
    refine (refIs_any b a h h0 h1 _ v1 _).mono ?_
    rintro e w1 ⟨rfl, hw1⟩
    have A : At2 w1 w.heap.size (.int .i64 a) (.int .i64 h) := At2.below (by constructor <;> simp [go_sem]) hw1 (by simp <;> omega)
    have R : At2 w1 (w.heap.size + 1) (.int .i64 0) (.int .i64 0) := At2.below (by constructor <;> simp [go_sem]) hw1 (by simp <;> omega)
    have hb : Below w.heap.size w w1 := Below.call (by go_grown) (by simp <;> omega) hw1
    have hs := hb.size
    clear hw1
    obtain ⟨x0, x1, x2, x3, x4⟩ := id A
    obtain ⟨z0, z1, z2, z3, z4⟩ := id R
    go_wp2_with fail
    refine (refTime_any _ _ v3 _).mono ?_
    rintro e w2 ⟨rfl, hw2⟩; subst hw2
    obtain ⟨u0, u1⟩ := R.outs' (.int .i64 (0)) (.int .i64 (0))
    go_wp2_with (exact bodyPost_ret (v := .tuple #[.agg #[.int .i64 (0), .int .i64 (0)], .int .i64 10]) (by simp [results, Try.results11, go_sem, u0, u1]) rfl ⟨rfl, by go_grown⟩)
  · rw [show flA b a h r t = 0 by unfold flA; rw [hE]; rfl, show flH b a h r t = 0 by unfold flH; rw [hE]; rfl, hE]; clear hE
    obtain ⟨r2, r3⟩ := wi_iff.1 v2
    have g2 : decide (r < 1) = false := decide_eq_false (by omega)
    have g3 : decide (1000000000 < r) = false := decide_eq_false (by omega)
    go_enter Try.func11, Try.ntmps11
    go_wp2_with fail
    refine (refIs_any b a h h0 h1 _ v1 _).mono ?_
    rintro e w1 ⟨rfl, hw1⟩
    have A : At2 w1 w.heap.size (.int .i64 a) (.int .i64 h) := At2.below (by constructor <;> simp [go_sem]) hw1 (by simp <;> omega)
    have R : At2 w1 (w.heap.size + 1) (.int .i64 0) (.int .i64 0) := At2.below (by constructor <;> simp [go_sem]) hw1 (by simp <;> omega)
    have hb : Below w.heap.size w w1 := Below.call (by go_grown) (by simp <;> omega) hw1
    have hs := hb.size
    clear hw1
    obtain ⟨x0, x1, x2, x3, x4⟩ := id A
    obtain ⟨z0, z1, z2, z3, z4⟩ := id R
    go_wp2_with fail
    refine (refTime_any _ _ v3 _).mono ?_
    rintro e w2 ⟨rfl, hw2⟩; subst hw2
    obtain ⟨u0, u1⟩ := R.outs' (.int .i64 (0)) (.int .i64 (0))
    go_wp2_with (exact bodyPost_ret (v := .tuple #[.agg #[.int .i64 (0), .int .i64 (0)], .int .i64 10]) (by simp [results, Try.results11, go_sem, u0, u1]) rfl ⟨rfl, by go_grown⟩)
  · rw [show flA b a h r t = t by unfold flA; rw [hE]; rfl, show flH b a h r t = heldv b (r * (t - a) + h) by unfold flH; rw [hE]; rfl, hE]; clear hE
    obtain ⟨⟨b2, b3⟩, ⟨a2, a3⟩, h2, h3⟩ := isv_iff.1 v1
    obtain ⟨t2, t3⟩ := wi_iff.1 v3
    have hlt : decide (t < a) = false := decide_eq_false (by omega)
    have hr0 : ¬ r = 0 := by obtain ⟨_, _⟩ := wi_iff.1 v2; omega
    have hq := held_ref (b := b) (a := a) (h := h) (r := r) (t := t) (by obtain ⟨_, _⟩ := wi_iff.1 v2; omega)
    have hq0 : 0 ≤ (b * 1000000 - h) / r := Int.ediv_nonneg (by omega) (by obtain ⟨_, _⟩ := wi_iff.1 v2; omega)
    have hq1 : (b * 1000000 - h) / r ≤ b * 1000000 - h := Int.ediv_le_self _ (by omega)
    have hqt : (b * 1000000 - h).tdiv r = (b * 1000000 - h) / r := Int.tdiv_eq_ediv_of_nonneg (by omega)
    rw [← hq]; clear hq
    obtain ⟨r2, r3⟩ := wi_iff.1 v2
    have g2 : decide (r < 1) = false := decide_eq_false (by omega)
    have g3 : decide (1000000000 < r) = false := decide_eq_false (by omega)
    by_cases g : t - a ≤ (b * 1000000 - h) / r
    · rw [if_pos g]
      have p0 : 0 ≤ (t - a) * r := Int.mul_nonneg (by omega) (by omega)
      have p1 : (t - a) * r ≤ b * 1000000 - h := (Int.le_ediv_iff_mul_le (by omega)).1 g
      go_enter Try.func11, Try.ntmps11
      go_wp2_with fail
      refine (refIs_any b a h h0 h1 _ v1 _).mono ?_
      rintro e w1 ⟨rfl, hw1⟩
      have A : At2 w1 w.heap.size (.int .i64 a) (.int .i64 h) := At2.below (by constructor <;> simp [go_sem]) hw1 (by simp <;> omega)
      have R : At2 w1 (w.heap.size + 1) (.int .i64 0) (.int .i64 0) := At2.below (by constructor <;> simp [go_sem]) hw1 (by simp <;> omega)
      have hb : Below w.heap.size w w1 := Below.call (by go_grown) (by simp <;> omega) hw1
      have hs := hb.size
      clear hw1
      obtain ⟨x0, x1, x2, x3, x4⟩ := id A
      obtain ⟨z0, z1, z2, z3, z4⟩ := id R
      go_wp2_with fail
      refine (refTime_any _ _ v3 _).mono ?_
      rintro e w2 ⟨rfl, hw2⟩; subst hw2
      obtain ⟨u0, u1⟩ := R.outs' (.int .i64 (t)) (.int .i64 (h + (t - a) * r))
      go_wp2_with (exact bodyPost_ret (v := .tuple #[.agg #[.int .i64 (t), .int .i64 (h + (t - a) * r)], .int .i64 0]) (by simp [results, Try.results11, go_sem, u0, u1]) rfl ⟨rfl, by go_grown⟩)
    · rw [if_neg g]
      have g4 : decide (t - a ≤ (b * 1000000 - h) / r) = false := decide_eq_false g
      go_enter Try.func11, Try.ntmps11
      go_wp2_with fail
      refine (refIs_any b a h h0 h1 _ v1 _).mono ?_
      rintro e w1 ⟨rfl, hw1⟩
      have A : At2 w1 w.heap.size (.int .i64 a) (.int .i64 h) := At2.below (by constructor <;> simp [go_sem]) hw1 (by simp <;> omega)
      have R : At2 w1 (w.heap.size + 1) (.int .i64 0) (.int .i64 0) := At2.below (by constructor <;> simp [go_sem]) hw1 (by simp <;> omega)
      have hb : Below w.heap.size w w1 := Below.call (by go_grown) (by simp <;> omega) hw1
      have hs := hb.size
      clear hw1
      obtain ⟨x0, x1, x2, x3, x4⟩ := id A
      obtain ⟨z0, z1, z2, z3, z4⟩ := id R
      go_wp2_with fail
      refine (refTime_any _ _ v3 _).mono ?_
      rintro e w2 ⟨rfl, hw2⟩; subst hw2
      obtain ⟨u0, u1⟩ := R.outs' (.int .i64 (t)) (.int .i64 (h + (b * 1000000 - h)))
      go_wp2_with (exact bodyPost_ret (v := .tuple #[.agg #[.int .i64 (t), .int .i64 (h + (b * 1000000 - h))], .int .i64 0]) (by simp [results, Try.results11, go_sem, u0, u1]) rfl ⟨rfl, by go_grown⟩)
theorem refTake_any (b a h s : Int) (h0 : -9223372036854775808 ≤ h) (h1 : h ≤ 9223372036854775807) (w : World) :
    Calls Try.prog 13 #[.int .i64 b, .agg #[.int .i64 a, .int .i64 h], .int .i64 s] w fun e w' => e = .returned (.tuple #[.agg #[.int .i64 (tkA b a h s), .int .i64 (tkH b a h s)], .int .i64 (tkE b a h s)]) ∧ Below w.heap.size w w' := by
  rcases tkE_cases b a h s with ⟨v1, hE⟩ | ⟨v1, v2, hE⟩ | ⟨v1, v2, hhs, hE⟩ | ⟨v1, v2, hhs, hE⟩
  · rw [show tkA b a h s = 0 by unfold tkA; rw [hE]; rfl, show tkH b a h s = 0 by unfold tkH; rw [hE]; rfl, hE]; clear hE
    go_enter Try.func13, Try.ntmps13
    go_wp2_with fail
    refine (refIs_any b a h h0 h1 _ v1 _).mono ?_
    rintro e w1 ⟨rfl, hw1⟩
    have A : At2 w1 w.heap.size (.int .i64 a) (.int .i64 h) := At2.below (by constructor <;> simp [go_sem]) hw1 (by simp <;> omega)
    have R : At2 w1 (w.heap.size + 1) (.int .i64 0) (.int .i64 0) := At2.below (by constructor <;> simp [go_sem]) hw1 (by simp <;> omega)
    have hb : Below w.heap.size w w1 := Below.call (by go_grown) (by simp <;> omega) hw1
    have hs := hb.size
    clear hw1
    obtain ⟨x0, x1, x2, x3, x4⟩ := id A
    obtain ⟨z0, z1, z2, z3, z4⟩ := id R
    obtain ⟨u0, u1⟩ := R.outs' (.int .i64 (0)) (.int .i64 (0))
    go_wp2_with (exact bodyPost_ret (v := .tuple #[.agg #[.int .i64 (0), .int .i64 (0)], .int .i64 1]) (by simp [results, Try.results13, go_sem, u0, u1]) rfl ⟨rfl, by go_grown⟩)
  · rw [show tkA b a h s = 0 by unfold tkA; rw [hE]; rfl, show tkH b a h s = 0 by unfold tkH; rw [hE]; rfl, hE]; clear hE
    go_enter Try.func13, Try.ntmps13
    go_wp2_with fail
    refine (refIs_any b a h h0 h1 _ v1 _).mono ?_
    rintro e w1 ⟨rfl, hw1⟩
    have A : At2 w1 w.heap.size (.int .i64 a) (.int .i64 h) := At2.below (by constructor <;> simp [go_sem]) hw1 (by simp <;> omega)
    have R : At2 w1 (w.heap.size + 1) (.int .i64 0) (.int .i64 0) := At2.below (by constructor <;> simp [go_sem]) hw1 (by simp <;> omega)
    have hb : Below w.heap.size w w1 := Below.call (by go_grown) (by simp <;> omega) hw1
    have hs := hb.size
    clear hw1
    obtain ⟨x0, x1, x2, x3, x4⟩ := id A
    obtain ⟨z0, z1, z2, z3, z4⟩ := id R
    go_wp2_with fail
    refine (refSize_any _ _ v2 _).mono ?_
    rintro e w2 ⟨rfl, hw2⟩; subst hw2
    obtain ⟨u0, u1⟩ := R.outs' (.int .i64 (0)) (.int .i64 (0))
    go_wp2_with (exact bodyPost_ret (v := .tuple #[.agg #[.int .i64 (0), .int .i64 (0)], .int .i64 9]) (by simp [results, Try.results13, go_sem, u0, u1]) rfl ⟨rfl, by go_grown⟩)
  · rw [show tkA b a h s = 0 by unfold tkA; rw [hE]; rfl, show tkH b a h s = 0 by unfold tkH; rw [hE]; rfl, hE]; clear hE
    obtain ⟨s2, s3⟩ := wi_iff.1 v2
    go_enter Try.func13, Try.ntmps13
    go_wp2_with fail
    refine (refIs_any b a h h0 h1 _ v1 _).mono ?_
    rintro e w1 ⟨rfl, hw1⟩
    have A : At2 w1 w.heap.size (.int .i64 a) (.int .i64 h) := At2.below (by constructor <;> simp [go_sem]) hw1 (by simp <;> omega)
    have R : At2 w1 (w.heap.size + 1) (.int .i64 0) (.int .i64 0) := At2.below (by constructor <;> simp [go_sem]) hw1 (by simp <;> omega)
    have hb : Below w.heap.size w w1 := Below.call (by go_grown) (by simp <;> omega) hw1
    have hs := hb.size
    clear hw1
    obtain ⟨x0, x1, x2, x3, x4⟩ := id A
    obtain ⟨z0, z1, z2, z3, z4⟩ := id R
    go_wp2_with fail
    refine (refSize_any _ _ v2 _).mono ?_
    rintro e w2 ⟨rfl, hw2⟩; subst hw2
    obtain ⟨u0, u1⟩ := R.outs' (.int .i64 (0)) (.int .i64 (0))
    go_wp2_with (exact bodyPost_ret (v := .tuple #[.agg #[.int .i64 (0), .int .i64 (0)], .int .i64 13]) (by simp [results, Try.results13, go_sem, u0, u1]) rfl ⟨rfl, by go_grown⟩)
  · rw [show tkA b a h s = a by unfold tkA; rw [hE]; rfl, show tkH b a h s = h - s * 1000000 by unfold tkH; rw [hE]; rfl, hE]; clear hE
    obtain ⟨⟨b2, b3⟩, ⟨a2, a3⟩, h2, h3⟩ := isv_iff.1 v1
    obtain ⟨s2, s3⟩ := wi_iff.1 v2
    have hlt : decide (h < s * 1000000) = false := decide_eq_false (by omega)
    go_enter Try.func13, Try.ntmps13
    go_wp2_with fail
    refine (refIs_any b a h h0 h1 _ v1 _).mono ?_
    rintro e w1 ⟨rfl, hw1⟩
    have A : At2 w1 w.heap.size (.int .i64 a) (.int .i64 h) := At2.below (by constructor <;> simp [go_sem]) hw1 (by simp <;> omega)
    have R : At2 w1 (w.heap.size + 1) (.int .i64 0) (.int .i64 0) := At2.below (by constructor <;> simp [go_sem]) hw1 (by simp <;> omega)
    have hb : Below w.heap.size w w1 := Below.call (by go_grown) (by simp <;> omega) hw1
    have hs := hb.size
    clear hw1
    obtain ⟨x0, x1, x2, x3, x4⟩ := id A
    obtain ⟨z0, z1, z2, z3, z4⟩ := id R
    go_wp2_with fail
    refine (refSize_any _ _ v2 _).mono ?_
    rintro e w2 ⟨rfl, hw2⟩; subst hw2
    obtain ⟨u0, u1⟩ := R.outs' (.int .i64 (a)) (.int .i64 (h - s * 1000000))
    go_wp2_with (exact bodyPost_ret (v := .tuple #[.agg #[.int .i64 (a), .int .i64 (h - s * 1000000)], .int .i64 0]) (by simp [results, Try.results13, go_sem, u0, u1]) rfl ⟨rfl, by go_grown⟩)
end Go.Proofs.Ytahlphbgnhklaaa
