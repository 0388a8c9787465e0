/-
  The program's small functions of layer 28: within, a time, a room, what is left, how long it takes, whether a queue is right. No conditions but the numbers' own ranges.
-/
import Derived.Test.YtiikdbadbocjcaaK
import Derived.Test.YtiikdbadbocjcaaM1
import Derived.Test.YtiikdbadbocjcaaProg
namespace Go.Proofs.Ytiikdbadbocjcaa
open Go.RowKit
set_option linter.unusedVariables false

theorem At2.of {w w1 : World} {b : Nat} {x y : Value} (hb : Below w.heap.size w w1) (h : At2 w b x y) : At2 w1 b x y := h.below hb h.lt
theorem At2.outs {w : World} {b : Nat} {x y : Value} (h : At2 w b x y) (u v : Value) : (w.setCell ⟨b, 0, none⟩ u).cell? ⟨b, 0, none⟩ = some u ∧ ((w.setCell ⟨b, 0, none⟩ u).setCell ⟨b, 1, none⟩ v).cell? ⟨b, 1, none⟩ = some v := ⟨(h.put0 u).c0, ((h.put0 u).put1 v).c1⟩
theorem within_any (n l g : Int) (v : Bool) (hv : wi n l g = v) (w : World) :
    Calls Try.prog 19 #[.int .i64 n, .int .i64 l, .int .i64 g] w fun e w' => e = .returned (.bool v) ∧ w' = w := by
  subst hv
  by_cases h1 : l ≤ n
  · by_cases h2 : n ≤ g
    · have E : Hid (wi n l g = true) := wi_iff.2 ⟨h1, h2⟩
      go_enter Try.func19, Try.ntmps19
      go_wp2
      go_ret
      exact ⟨by rw [E.out]; rfl, rfl⟩
    · have E : Hid (wi n l g = false) := wi_not.2 (by omega)
      have h3 : decide (n ≤ g) = false := decide_eq_false h2
      go_enter Try.func19, Try.ntmps19
      go_wp2
      go_ret
      exact ⟨by rw [E.out]; rfl, rfl⟩
  · have E : Hid (wi n l g = false) := wi_not.2 (by omega)
    have h3 : decide (l ≤ n) = false := decide_eq_false h1
    go_enter Try.func19, Try.ntmps19
    go_wp2
    go_ret
    exact ⟨by rw [E.out]; rfl, rfl⟩
theorem isTime_any (t : Int) (v : Bool) (hv : wi t 0 1099511627776 = v) (w : World) :
    Calls Try.prog 20 #[.int .i64 t] w fun e w' => e = .returned (.bool v) ∧ w' = w := by
  go_enter Try.func20, Try.ntmps20
  go_wp2_with fail
  refine (within_any _ _ _ v hv _).mono ?_
  rintro e w1 ⟨rfl, hw1⟩
  subst hw1
  go_wp2
  go_ret
  exact ⟨rfl, rfl⟩
theorem isRoom_any (m : Int) (v : Bool) (hv : wi m 1 1073741824 = v) (w : World) :
    Calls Try.prog 25 #[.int .i64 m] w fun e w' => e = .returned (.bool v) ∧ w' = w := by
  go_enter Try.func25, Try.ntmps25
  go_wp2_with fail
  refine (within_any _ _ _ v hv _).mono ?_
  rintro e w1 ⟨rfl, hw1⟩
  subst hw1
  go_wp2
  go_ret
  exact ⟨rfl, rfl⟩
theorem mul_in {w r s : Int} (h : ¬ w < r * s) (s0 : 0 ≤ s) (r0 : 0 < r) : 0 ≤ r * s ∧ r * s ≤ w := ⟨Int.mul_nonneg (by omega) s0, by omega⟩
theorem left_any (k r s : Int) (k0 : 0 ≤ k) (k1 : k ≤ 1073741824000000) (r0 : 1 ≤ r) (s0 : 0 ≤ s) (w : World) :
    Calls Try.prog 21 #[.int .i64 k, .int .i64 r, .int .i64 s] w fun e w' => e = .returned (.int .i64 (lft k r s)) ∧ w' = w := by
  have hr0 : ¬ r = 0 := by omega
  have hqt : k.tdiv r = k / r := Int.tdiv_eq_ediv_of_nonneg k0
  have hq0 : 0 ≤ k / r := Int.ediv_nonneg k0 (by omega)
  have hq1 : k / r ≤ k := Int.ediv_le_self _ k0
  by_cases h : k / r < s
  · have E : Hid (lft k r s = 0) := if_pos h
    have h3 : decide (k / r < s) = true := decide_eq_true h
    go_enter Try.func21, Try.ntmps21
    go_wp2
    go_ret
    exact ⟨by rw [E.out]; rfl, rfl⟩
  · have E : Hid (lft k r s = k - r * s) := if_neg h
    have h3 : decide (k / r < s) = false := decide_eq_false h
    obtain ⟨m0, m1⟩ := mul_in (fun g => h ((lft_test (by omega)).2 g)) s0 (show 0 < r by omega)
    go_enter Try.func21, Try.ntmps21
    go_wp2
    go_ret
    exact ⟨by rw [E.out]; rfl, rfl⟩
theorem through_any (k r : Int) (k0 : 0 ≤ k) (k1 : k ≤ 1073741824000000) (r0 : 1 ≤ r) (r1 : r ≤ 1000000000) (w : World) :
    Calls Try.prog 23 #[.int .i64 k, .int .i64 r] w fun e w' => e = .returned (.int .i64 ((k + r - 1) / r)) ∧ w' = w := by
  have hr0 : ¬ r = 0 := by omega
  have hqt : (k + r - 1).tdiv r = (k + r - 1) / r := Int.tdiv_eq_ediv_of_nonneg (by omega)
  obtain ⟨hq0, hq1⟩ := up_bd k0 r0
  go_enter Try.func23, Try.ntmps23
  go_wp2
  go_ret
  exact ⟨rfl, rfl⟩
/-- Whether a queue is right. -/
theorem isq_any (m a k : Int) (v : Bool) (hv : isq m a k = v) (w : World) :
    Calls Try.prog 12 #[.int .i64 m, .agg #[.int .i64 a, .int .i64 k]] w fun e w' => e = .returned (.bool v) ∧ Below w.heap.size w w' := by
  cases v1 : wi m 1 1073741824
  · obtain rfl : v = false := by rw [← hv]; simp [isq, v1]
    clear hv
    go_enter Try.func12, Try.ntmps12
    go_wp2_with fail
    refine (isRoom_any _ _ v1 _).mono ?_
    rintro e w1 ⟨rfl, hw1⟩
    subst hw1
    go_wp2
    go_ret
    exact ⟨rfl, by go_grown⟩
  · obtain ⟨b0, b1⟩ := wi_iff.1 v1
    cases v2 : wi a 0 1099511627776
    · obtain rfl : v = false := by rw [← hv]; simp [isq, v1, v2]
      clear hv
      go_enter Try.func12, Try.ntmps12
      go_wp2_with fail
      refine (isRoom_any _ _ v1 _).mono ?_
      rintro e w1 ⟨rfl, hw1⟩
      subst hw1
      go_wp2_with fail
      refine (isTime_any _ _ v2 _).mono ?_
      rintro e w1 ⟨rfl, hw1⟩
      subst hw1
      go_wp2
      go_ret
      exact ⟨rfl, by go_grown⟩
    · have v3 : wi k 0 (m * 1000000) = v := by rw [← hv]; simp [isq, v1, v2]
      clear hv
      go_enter Try.func12, Try.ntmps12
      go_wp2_with fail
      refine (isRoom_any _ _ v1 _).mono ?_
      rintro e w1 ⟨rfl, hw1⟩
      subst hw1
      go_wp2_with fail
      refine (isTime_any _ _ v2 _).mono ?_
      rintro e w1 ⟨rfl, hw1⟩
      subst hw1
      go_wp2_with fail
      refine (within_any _ _ _ _ v3 _).mono ?_
      rintro e w1 ⟨rfl, hw1⟩
      subst hw1
      go_wp2
      go_ret
      exact ⟨rfl, by go_grown⟩
end Go.Proofs.Ytiikdbadbocjcaa
