/-
  The looks of the program at an account. Conditions: what the looks ahead of each have told.
-/
import Derived.Test.YtpaalpnoppblaaaU1
import Derived.Test.YtpaalpnoppblaaaU2
namespace Go.Proofs.Ytpaalpnoppblaaa
open Go.RowKit
set_option linter.unusedVariables false
theorem bne_dec (a b : Int) : (a != b) = decide (a ≠ b) := by rw [Bool.eq_iff_iff]; simp
theorem beq_dec (a b : Int) : (a == b) = decide (a = b) := by rw [Bool.eq_iff_iff]; simp
set_option maxRecDepth 100000 in
theorem ended_any (m : Mi) (w : World) :
    Calls Try.prog 44 #[.agg #[.int .i64 m.id, .int .i64 m.fr, .int .i64 m.to, .int .i64 m.se, .int .i64 m.ac, .int .i64 m.lo, .int .i64 m.pa, .int .i64 m.hi, .int .i64 m.dr, .int .i64 m.n, .int .i64 m.st, .int .i64 m.sr, .int .i64 m.tt, .int .i64 m.tr, .int .i64 m.rr]] w fun e w' => e = .returned (.bool (decide (m.to ≠ -1))) ∧ Below w.heap.size w w' := by
  go_enter Try.func44, Try.ntmps44
  go_wp2
  go_ret
  exact ⟨by rw [← bne_dec]; rfl, by go_grown⟩
set_option maxRecDepth 100000 in
theorem told_any (m : Mi) (h0 : 0 ≤ m.hi) (h1 : m.hi ≤ 1048577) (d0 : 0 ≤ m.dr) (d1 : m.dr ≤ 1048577) (w : World) :
    Calls Try.prog 45 #[.agg #[.int .i64 m.id, .int .i64 m.fr, .int .i64 m.to, .int .i64 m.se, .int .i64 m.ac, .int .i64 m.lo, .int .i64 m.pa, .int .i64 m.hi, .int .i64 m.dr, .int .i64 m.n, .int .i64 m.st, .int .i64 m.sr, .int .i64 m.tt, .int .i64 m.tr, .int .i64 m.rr]] w fun e w' => e = .returned (.bool (decide (m.hi + m.dr = m.pa))) ∧ Below w.heap.size w w' := by
  go_enter Try.func45, Try.ntmps45
  go_wp2
  go_ret
  exact ⟨by rw [← beq_dec]; rfl, by go_grown⟩
set_option maxRecDepth 100000 in
theorem summed_any (m : Mi) (s t : Int) (q0 : 0 ≤ m.n * t) (q1 : m.n * t ≤ 3686400000000000000) (w : World) :
    Calls Try.prog 91 #[.agg #[.int .i64 m.id, .int .i64 m.fr, .int .i64 m.to, .int .i64 m.se, .int .i64 m.ac, .int .i64 m.lo, .int .i64 m.pa, .int .i64 m.hi, .int .i64 m.dr, .int .i64 m.n, .int .i64 m.st, .int .i64 m.sr, .int .i64 m.tt, .int .i64 m.tr, .int .i64 m.rr], .int .i64 s, .int .i64 t] w fun e w' => e = .returned (.bool (win s 0 (m.n * t))) ∧ Below w.heap.size w w' := by
  go_enter Try.func91, Try.ntmps91
  go_wp2_with fail
  refine (within_any _ _ _ _).mono ?_
  rintro e w' ⟨rfl, rfl⟩
  go_wp2
  go_ret
  exact ⟨rfl, by go_grown⟩
/-- The span of an account is right. -/
def spanB (m : Mi) : Bool := decide (0 ≤ m.id) && (win m.fr 0 1099511627776 && (!decide (m.to ≠ -1) || win m.to m.fr 1099511627776))
set_option maxHeartbeats 1000000 in
set_option maxRecDepth 100000 in
theorem rightSpan_any (m : Mi) (w : World) :
    Calls Try.prog 69 #[.agg #[.int .i64 m.id, .int .i64 m.fr, .int .i64 m.to, .int .i64 m.se, .int .i64 m.ac, .int .i64 m.lo, .int .i64 m.pa, .int .i64 m.hi, .int .i64 m.dr, .int .i64 m.n, .int .i64 m.st, .int .i64 m.sr, .int .i64 m.tt, .int .i64 m.tr, .int .i64 m.rr]] w fun e w' => e = .returned (.bool (spanB m)) ∧ Below w.heap.size w w' := by
  have E : Hid (spanB m = (decide (0 ≤ m.id) && (win m.fr 0 1099511627776 && (!decide (m.to ≠ -1) || win m.to m.fr 1099511627776)))) := rfl
  generalize spanB m = r at *
  have T1 := fun w => isTime_any m.fr w
  have T2 := fun w => ended_any m w
  have T3 := fun w => within_any m.to m.fr 1099511627776 w
  by_cases h1 : 0 ≤ m.id
  · cases h2 : win m.fr 0 1099511627776
    · rw [h2] at T1 E
      have e : Hid (r = false) := by show r = false; rw [E.out]; simp
      clear E h2 T2 T3
      go_enter Try.func69, Try.ntmps69
      go_wp2_with fail
      refine (T1 _).mono ?_
      rintro e w' ⟨rfl, rfl⟩
      go_wp2
      go_ret
      exact ⟨by rw [e.out]; rfl, by go_grown⟩
    · rw [h2] at T1 E
      cases h3 : decide (m.to ≠ -1)
      · rw [h3] at T2 E
        have e : Hid (r = true) := by show r = true; rw [E.out]; simp [h1]
        clear E h2 T3 h3
        go_enter Try.func69, Try.ntmps69
        go_wp2_with fail
        refine (T1 _).mono ?_
        rintro e w' ⟨rfl, rfl⟩
        go_wp2_with fail
        refine (T2 _).mono ?_
        rintro e w1 ⟨rfl, hw1⟩
        go_wp2
        go_ret
        exact ⟨by rw [e.out]; rfl, Below.call (by go_grown) (by simp) hw1⟩
      · rw [h3] at T2 E
        have e : Hid (r = win m.to m.fr 1099511627776) := by show r = _; rw [E.out]; simp [h1]
        clear E h2 h3
        generalize win m.to m.fr 1099511627776 = r3 at *
        go_enter Try.func69, Try.ntmps69
        go_wp2_with fail
        refine (T1 _).mono ?_
        rintro e w' ⟨rfl, rfl⟩
        go_wp2_with fail
        refine (T2 _).mono ?_
        rintro e w1 ⟨rfl, hw1⟩
        obtain ⟨hc, hf⟩ := bcell hw1
        go_wp2_with fail
        refine (T3 _).mono ?_
        rintro e w' ⟨rfl, rfl⟩
        go_wp2
        go_ret
        exact ⟨by rw [e.out]; rfl, Below.call (by go_grown) (by simp) hw1⟩
  · have e : Hid (r = false) := by show r = false; rw [E.out]; simp [h1]
    clear E T1 T2 T3
    go_enter Try.func69, Try.ntmps69
    go_wp2
    go_ret
    exact ⟨by rw [e.out]; rfl, by go_grown⟩
/-- The counts of an account are right. -/
def countsB (m : Mi) : Bool := win m.pa 0 1048576 && (win m.hi 0 m.pa && win m.dr 0 (m.pa - m.hi))
set_option maxHeartbeats 1000000 in
set_option maxRecDepth 100000 in
theorem rightCounts_any (m : Mi) (w : World) :
    Calls Try.prog 70 #[.agg #[.int .i64 m.id, .int .i64 m.fr, .int .i64 m.to, .int .i64 m.se, .int .i64 m.ac, .int .i64 m.lo, .int .i64 m.pa, .int .i64 m.hi, .int .i64 m.dr, .int .i64 m.n, .int .i64 m.st, .int .i64 m.sr, .int .i64 m.tt, .int .i64 m.tr, .int .i64 m.rr]] w fun e w' => e = .returned (.bool (countsB m)) ∧ Below w.heap.size w w' := by
  have E : Hid (countsB m = (win m.pa 0 1048576 && (win m.hi 0 m.pa && win m.dr 0 (m.pa - m.hi)))) := rfl
  generalize countsB m = r at *
  have T1 := fun w => within_any m.pa 0 1048576 w
  have T2 := fun w => within_any m.hi 0 m.pa w
  have T3 := fun w => within_any m.dr 0 (m.pa - m.hi) w
  cases h1 : win m.pa 0 1048576
  · rw [h1] at T1 E
    have e : Hid (r = false) := by show r = false; rw [E.out]; simp
    clear E h1 T2 T3
    go_enter Try.func70, Try.ntmps70
    go_wp2_with fail
    refine (T1 _).mono ?_
    rintro e w' ⟨rfl, rfl⟩
    go_wp2
    go_ret
    exact ⟨by rw [e.out]; rfl, by go_grown⟩
  · rw [h1] at T1 E
    obtain ⟨p0, p1⟩ := win_iff.1 h1
    cases h2 : win m.hi 0 m.pa
    · rw [h2] at T2 E
      have e : Hid (r = false) := by show r = false; rw [E.out]; simp
      clear E h1 h2 T3
      go_enter Try.func70, Try.ntmps70
      go_wp2_with fail
      refine (T1 _).mono ?_
      rintro e w' ⟨rfl, rfl⟩
      go_wp2_with fail
      refine (T2 _).mono ?_
      rintro e w' ⟨rfl, rfl⟩
      go_wp2
      go_ret
      exact ⟨by rw [e.out]; rfl, by go_grown⟩
    · rw [h2] at T2 E
      obtain ⟨q0, q1⟩ := win_iff.1 h2
      have e : Hid (r = win m.dr 0 (m.pa - m.hi)) := by show r = _; rw [E.out]; simp
      clear E h1 h2
      generalize win m.dr 0 (m.pa - m.hi) = r3 at *
      go_enter Try.func70, Try.ntmps70
      go_wp2_with fail
      refine (T1 _).mono ?_
      rintro e w' ⟨rfl, rfl⟩
      go_wp2_with fail
      refine (T2 _).mono ?_
      rintro e w' ⟨rfl, rfl⟩
      go_wp2_with fail
      refine (T3 _).mono ?_
      rintro e w' ⟨rfl, rfl⟩
      go_wp2
      go_ret
      exact ⟨by rw [e.out]; rfl, by go_grown⟩
theorem counts_bd {m : Mi} (h : countsB m = true) : 0 ≤ m.pa ∧ m.pa ≤ 1048576 ∧ 0 ≤ m.hi ∧ m.hi ≤ m.pa ∧ 0 ≤ m.dr ∧ m.dr ≤ m.pa - m.hi := by
  simp only [countsB, Bool.and_eq_true, win_iff] at h
  omega
/-- The bytes of an account are right. -/
def bytesB (m : Mi) : Bool := win m.se m.pa (m.pa * 9000) && (win m.ac m.hi (m.hi * 9000) && (win m.lo m.dr (m.dr * 9000) && (decide (0 ≤ m.se - m.ac - m.lo) && decide (m.se - m.ac - m.lo = 0 ↔ m.hi + m.dr = m.pa))))
theorem bool_eq_dec (a b : Prop) [Decidable a] [Decidable b] : (decide a == decide b) = decide (a ↔ b) := by
  rw [Bool.eq_iff_iff]; by_cases a <;> by_cases b <;> simp_all
set_option maxHeartbeats 2000000 in
set_option maxRecDepth 100000 in
theorem rightBytes_any (m : Mi) (hc : countsB m = true) (w : World) :
    Calls Try.prog 71 #[.agg #[.int .i64 m.id, .int .i64 m.fr, .int .i64 m.to, .int .i64 m.se, .int .i64 m.ac, .int .i64 m.lo, .int .i64 m.pa, .int .i64 m.hi, .int .i64 m.dr, .int .i64 m.n, .int .i64 m.st, .int .i64 m.sr, .int .i64 m.tt, .int .i64 m.tr, .int .i64 m.rr]] w fun e w' => e = .returned (.bool (bytesB m)) ∧ Below w.heap.size w w' := by
  obtain ⟨p0, p1, q0, q1, r0, r1⟩ := counts_bd hc
  clear hc
  have E : Hid (bytesB m = (win m.se m.pa (m.pa * 9000) && (win m.ac m.hi (m.hi * 9000) && (win m.lo m.dr (m.dr * 9000) && (decide (0 ≤ m.se - m.ac - m.lo) && decide (m.se - m.ac - m.lo = 0 ↔ m.hi + m.dr = m.pa)))))) := rfl
  generalize bytesB m = r at *
  have T1 := fun w => carried_any m.se m.pa p0 p1 w
  have T2 := fun w => carried_any m.ac m.hi q0 (by omega) w
  have T3 := fun w => carried_any m.lo m.dr r0 (by omega) w
  have T4 := fun w => told_any m q0 (by omega) r0 (by omega) w
  cases h1 : win m.se m.pa (m.pa * 9000)
  · rw [h1] at T1 E
    have e : Hid (r = false) := by show r = false; rw [E.out]; simp
    clear E h1 T2 T3
    go_enter Try.func71, Try.ntmps71
    go_wp2_with fail
    refine (T1 _).mono ?_
    rintro e w' ⟨rfl, rfl⟩
    go_wp2
    go_ret
    exact ⟨by rw [e.out]; rfl, by go_grown⟩
  rw [h1] at T1 E
  obtain ⟨x0, x1⟩ := win_iff.1 h1
  cases h2 : win m.ac m.hi (m.hi * 9000)
  · rw [h2] at T2 E
    have e : Hid (r = false) := by show r = false; rw [E.out]; simp
    clear E h1 h2 T3
    go_enter Try.func71, Try.ntmps71
    go_wp2_with fail
    refine (T1 _).mono ?_
    rintro e w' ⟨rfl, rfl⟩
    go_wp2_with fail
    refine (T2 _).mono ?_
    rintro e w' ⟨rfl, rfl⟩
    go_wp2
    go_ret
    exact ⟨by rw [e.out]; rfl, by go_grown⟩
  rw [h2] at T2 E
  obtain ⟨y0, y1⟩ := win_iff.1 h2
  cases h3 : win m.lo m.dr (m.dr * 9000)
  · rw [h3] at T3 E
    have e : Hid (r = false) := by show r = false; rw [E.out]; simp
    clear E h1 h2 h3
    go_enter Try.func71, Try.ntmps71
    go_wp2_with fail
    refine (T1 _).mono ?_
    rintro e w' ⟨rfl, rfl⟩
    go_wp2_with fail
    refine (T2 _).mono ?_
    rintro e w' ⟨rfl, rfl⟩
    go_wp2_with fail
    refine (T3 _).mono ?_
    rintro e w' ⟨rfl, rfl⟩
    go_wp2
    go_ret
    exact ⟨by rw [e.out]; rfl, by go_grown⟩
  rw [h3] at T3 E
  obtain ⟨z0, z1⟩ := win_iff.1 h3
  by_cases h4 : 0 ≤ m.se - m.ac - m.lo
  · have e : Hid (r = decide (m.se - m.ac - m.lo = 0 ↔ m.hi + m.dr = m.pa)) := by show r = _; rw [E.out, decide_eq_true h4]; simp
    clear E h1 h2 h3
    go_enter Try.func71, Try.ntmps71
    go_wp2_with fail
    refine (T1 _).mono ?_
    rintro e w' ⟨rfl, rfl⟩
    go_wp2_with fail
    refine (T2 _).mono ?_
    rintro e w' ⟨rfl, rfl⟩
    go_wp2_with fail
    refine (T3 _).mono ?_
    rintro e w' ⟨rfl, rfl⟩
    go_wp2_with fail
    refine (T4 _).mono ?_
    rintro e w1 ⟨rfl, hw1⟩
    go_wp2
    go_ret
    exact ⟨by rw [e.out, ← bool_eq_dec]; rfl, Below.call (by go_grown) (by simp) hw1⟩
  · have e : Hid (r = false) := by show r = false; rw [E.out, decide_eq_false h4]; simp
    clear E h1 h2 h3
    go_enter Try.func71, Try.ntmps71
    go_wp2_with fail
    refine (T1 _).mono ?_
    rintro e w' ⟨rfl, rfl⟩
    go_wp2_with fail
    refine (T2 _).mono ?_
    rintro e w' ⟨rfl, rfl⟩
    go_wp2_with fail
    refine (T3 _).mono ?_
    rintro e w' ⟨rfl, rfl⟩
    go_wp2
    go_ret
    exact ⟨by rw [e.out]; rfl, by go_grown⟩
end Go.Proofs.Ytpaalpnoppblaaa
