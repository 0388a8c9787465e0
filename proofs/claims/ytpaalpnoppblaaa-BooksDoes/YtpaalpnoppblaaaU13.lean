/-
  The document's look at an account. No conditions but the numbers' own bounds.
-/
import Derived.Test.YtpaalpnoppblaaaU12
namespace Go.Proofs.Ytpaalpnoppblaaa
open Go.RowKit
set_option linter.unusedVariables false
theorem rightB_parts (m : Mi) : rightB m = true ↔ (0 ≤ m.id ∧ (0 ≤ m.fr ∧ m.fr ≤ 1099511627776) ∧ (m.to = -1 ∨ (m.fr ≤ m.to ∧ m.to ≤ 1099511627776)) ∧ (0 ≤ m.pa ∧ m.pa ≤ 1048576 ∧ 0 ≤ m.hi ∧ m.hi ≤ m.pa ∧ 0 ≤ m.dr ∧ m.dr ≤ m.pa - m.hi) ∧ (m.pa ≤ m.se ∧ m.se ≤ m.pa * 9000 ∧ m.hi ≤ m.ac ∧ m.ac ≤ m.hi * 9000 ∧ m.dr ≤ m.lo ∧ m.lo ≤ m.dr * 9000) ∧ m.ac + m.lo ≤ m.se ∧ (m.ac + m.lo = m.se ↔ m.hi + m.dr = m.pa) ∧ (0 ≤ m.n ∧ m.n ≤ 1024 ∧ m.n ≤ m.hi)) ∧ sumsB m = true := by
  rw [right_iff, sums_iff]
  constructor
  · intro R
    have q : m.ac + m.lo = m.se ↔ m.se - m.ac - m.lo = 0 := by omega
    exact ⟨⟨R.i0, ⟨R.f0, R.f1⟩, R.t0, ⟨R.p0, R.p1, R.h0, R.h1, R.d0, R.d1⟩, ⟨R.s0, R.s1, R.a0, R.a1, R.l0, R.l1⟩, by have := R.x0; omega, q.trans R.x1, R.n0, R.n1, R.n2⟩, ⟨R.st0, R.st1⟩, ⟨R.sr0, R.sr1⟩, ⟨R.tt0, R.tt1⟩, ⟨R.tr0, R.tr1⟩, ⟨R.rr0, R.rr1⟩⟩
  · rintro ⟨⟨a1, ⟨a2, a2'⟩, a3, ⟨b1, b2, b3, b4, b5, b6⟩, ⟨c1, c1', c2, c2', c3, c3'⟩, d, e, f1, f2, f3⟩, ⟨g1, g1'⟩, ⟨g2, g2'⟩, ⟨g3, g3'⟩, ⟨g4, g4'⟩, ⟨g5, g5'⟩⟩
    have q : m.se - m.ac - m.lo = 0 ↔ m.ac + m.lo = m.se := by omega
    exact ⟨a1, a2, a2', a3, b1, b2, b3, b4, b5, b6, c1, c1', c2, c2', c3, c3', by omega, q.trans e, f1, f2, f3, g1, g1', g2, g2', g3, g3', g4, g4', g5, g5'⟩
theorem neq_yes {a b c d : Int} (h : (!(a == b) == (c == d)) = false) : (a = b ↔ c = d) := by
  have h' : (a == b) = (c == d) := by simpa using h
  rw [← beq_iff_eq (a := a), h', beq_iff_eq]
theorem neq_no {a b c d : Int} (h : (!(a == b) == (c == d)) = true) : ¬ (a = b ↔ c = d) := by
  intro hi
  have e : (a == b) = (c == d) := by rw [Bool.eq_iff_iff, beq_iff_eq, beq_iff_eq]; exact hi
  rw [e] at h
  simp at h
set_option maxHeartbeats 4000000 in
set_option maxRecDepth 100000 in
theorem is_id (m : Mi) (h : m.id < 0) (w : World) :
    Calls Try.prog 74 #[.agg #[.int .i64 m.id, .int .i64 m.fr, .int .i64 m.to, .int .i64 m.se, .int .i64 m.ac, .int .i64 m.lo, .int .i64 m.pa, .int .i64 m.hi, .int .i64 m.dr, .int .i64 m.n, .int .i64 m.st, .int .i64 m.sr, .int .i64 m.tt, .int .i64 m.tr, .int .i64 m.rr]] w fun e w' => e = .returned (.bool false) ∧ Below w.heap.size w w' := by
  have H := Heap.nil w
  go_enter Try.func74, Try.ntmps74
  go_wp2_with ((with_reducible refine at_plain ?_); intro K hK; (with_reducible refine at_bx ?_); refine wpH_bxA rfl rfl H ?_; clear H; intro b0 w0 H; have HC := (H.found Found.here).2; have c0 := HC.cell (i := 0) rfl; have c1 := HC.cell (i := 1) rfl; have c2 := HC.cell (i := 2) rfl; have c3 := HC.cell (i := 3) rfl; have c4 := HC.cell (i := 4) rfl; have c5 := HC.cell (i := 5) rfl; have c6 := HC.cell (i := 6) rfl; have c7 := HC.cell (i := 7) rfl; have c8 := HC.cell (i := 8) rfl; have c9 := HC.cell (i := 9) rfl; have c10 := HC.cell (i := 10) rfl; have c11 := HC.cell (i := 11) rfl; have c12 := HC.cell (i := 12) rfl; have c13 := HC.cell (i := 13) rfl; have c14 := HC.cell (i := 14) rfl; clear HC)
  go_ret
  exact ⟨rfl, H.grown⟩
set_option maxHeartbeats 4000000 in
set_option maxRecDepth 100000 in
theorem is_fr (m : Mi) (h : ¬ m.id < 0) (h2 : win m.fr 0 1099511627776 = false) (w : World) :
    Calls Try.prog 74 #[.agg #[.int .i64 m.id, .int .i64 m.fr, .int .i64 m.to, .int .i64 m.se, .int .i64 m.ac, .int .i64 m.lo, .int .i64 m.pa, .int .i64 m.hi, .int .i64 m.dr, .int .i64 m.n, .int .i64 m.st, .int .i64 m.sr, .int .i64 m.tt, .int .i64 m.tr, .int .i64 m.rr]] w fun e w' => e = .returned (.bool false) ∧ Below w.heap.size w w' := by
  have T1 := fun w => refTime_any m.fr w
  rw [h2] at T1
  clear h2
  have H := Heap.nil w
  go_enter Try.func74, Try.ntmps74
  go_wp2_with (first | ((with_reducible refine at_plain ?_); intro K hK; (with_reducible refine at_bx ?_); refine wpH_bxA rfl rfl H ?_; clear H; intro b0 w0 H; have HC := (H.found Found.here).2; have c0 := HC.cell (i := 0) rfl; have c1 := HC.cell (i := 1) rfl; have c2 := HC.cell (i := 2) rfl; have c3 := HC.cell (i := 3) rfl; have c4 := HC.cell (i := 4) rfl; have c5 := HC.cell (i := 5) rfl; have c6 := HC.cell (i := 6) rfl; have c7 := HC.cell (i := 7) rfl; have c8 := HC.cell (i := 8) rfl; have c9 := HC.cell (i := 9) rfl; have c10 := HC.cell (i := 10) rfl; have c11 := HC.cell (i := 11) rfl; have c12 := HC.cell (i := 12) rfl; have c13 := HC.cell (i := 13) rfl; have c14 := HC.cell (i := 14) rfl; clear HC) | (go_at_call 73; refine (T1 _).mono ?_; rintro e wN ⟨rfl, rfl⟩))
  go_ret
  exact ⟨rfl, H.grown⟩
set_option maxHeartbeats 4000000 in
set_option maxRecDepth 100000 in
theorem is_to (m : Mi) (h : ¬ m.id < 0) (h2 : win m.fr 0 1099511627776 = true) (ht : (m.to != -1) = true) (h3 : win m.to 0 1099511627776 = false) (w : World) :
    Calls Try.prog 74 #[.agg #[.int .i64 m.id, .int .i64 m.fr, .int .i64 m.to, .int .i64 m.se, .int .i64 m.ac, .int .i64 m.lo, .int .i64 m.pa, .int .i64 m.hi, .int .i64 m.dr, .int .i64 m.n, .int .i64 m.st, .int .i64 m.sr, .int .i64 m.tt, .int .i64 m.tr, .int .i64 m.rr]] w fun e w' => e = .returned (.bool false) ∧ Below w.heap.size w w' := by
  have T1 := fun w => refTime_any m.fr w
  rw [h2] at T1
  clear h2
  have T2 := fun w => refTime_any m.to w
  rw [h3] at T2
  clear h3
  have H := Heap.nil w
  go_enter Try.func74, Try.ntmps74
  go_wp2_with (first | ((with_reducible refine at_plain ?_); intro K hK; (with_reducible refine at_bx ?_); refine wpH_bxA rfl rfl H ?_; clear H; intro b0 w0 H; have HC := (H.found Found.here).2; have c0 := HC.cell (i := 0) rfl; have c1 := HC.cell (i := 1) rfl; have c2 := HC.cell (i := 2) rfl; have c3 := HC.cell (i := 3) rfl; have c4 := HC.cell (i := 4) rfl; have c5 := HC.cell (i := 5) rfl; have c6 := HC.cell (i := 6) rfl; have c7 := HC.cell (i := 7) rfl; have c8 := HC.cell (i := 8) rfl; have c9 := HC.cell (i := 9) rfl; have c10 := HC.cell (i := 10) rfl; have c11 := HC.cell (i := 11) rfl; have c12 := HC.cell (i := 12) rfl; have c13 := HC.cell (i := 13) rfl; have c14 := HC.cell (i := 14) rfl; clear HC) | fail)
  refine (T1 _).mono ?_
  rintro e wN ⟨rfl, rfl⟩
  go_wp2_with (first | ((with_reducible refine at_plain ?_); intro K hK; (with_reducible refine at_bx ?_); refine wpH_bxA rfl rfl H ?_; clear H; intro b0 w0 H; have HC := (H.found Found.here).2; have c0 := HC.cell (i := 0) rfl; have c1 := HC.cell (i := 1) rfl; have c2 := HC.cell (i := 2) rfl; have c3 := HC.cell (i := 3) rfl; have c4 := HC.cell (i := 4) rfl; have c5 := HC.cell (i := 5) rfl; have c6 := HC.cell (i := 6) rfl; have c7 := HC.cell (i := 7) rfl; have c8 := HC.cell (i := 8) rfl; have c9 := HC.cell (i := 9) rfl; have c10 := HC.cell (i := 10) rfl; have c11 := HC.cell (i := 11) rfl; have c12 := HC.cell (i := 12) rfl; have c13 := HC.cell (i := 13) rfl; have c14 := HC.cell (i := 14) rfl; clear HC) | fail)
  refine (T2 _).mono ?_
  rintro e wN ⟨rfl, rfl⟩
  go_wp2
  go_ret
  exact ⟨rfl, H.grown⟩
set_option maxHeartbeats 4000000 in
set_option maxRecDepth 100000 in
theorem is_tf (m : Mi) (h : ¬ m.id < 0) (h2 : win m.fr 0 1099511627776 = true) (ht : (m.to != -1) = true) (h3 : win m.to 0 1099511627776 = true) (h4 : m.to < m.fr) (w : World) :
    Calls Try.prog 74 #[.agg #[.int .i64 m.id, .int .i64 m.fr, .int .i64 m.to, .int .i64 m.se, .int .i64 m.ac, .int .i64 m.lo, .int .i64 m.pa, .int .i64 m.hi, .int .i64 m.dr, .int .i64 m.n, .int .i64 m.st, .int .i64 m.sr, .int .i64 m.tt, .int .i64 m.tr, .int .i64 m.rr]] w fun e w' => e = .returned (.bool false) ∧ Below w.heap.size w w' := by
  have T1 := fun w => refTime_any m.fr w
  rw [h2] at T1
  clear h2
  have T2 := fun w => refTime_any m.to w
  rw [h3] at T2
  clear h3
  have H := Heap.nil w
  go_enter Try.func74, Try.ntmps74
  go_wp2_with (first | ((with_reducible refine at_plain ?_); intro K hK; (with_reducible refine at_bx ?_); refine wpH_bxA rfl rfl H ?_; clear H; intro b0 w0 H; have HC := (H.found Found.here).2; have c0 := HC.cell (i := 0) rfl; have c1 := HC.cell (i := 1) rfl; have c2 := HC.cell (i := 2) rfl; have c3 := HC.cell (i := 3) rfl; have c4 := HC.cell (i := 4) rfl; have c5 := HC.cell (i := 5) rfl; have c6 := HC.cell (i := 6) rfl; have c7 := HC.cell (i := 7) rfl; have c8 := HC.cell (i := 8) rfl; have c9 := HC.cell (i := 9) rfl; have c10 := HC.cell (i := 10) rfl; have c11 := HC.cell (i := 11) rfl; have c12 := HC.cell (i := 12) rfl; have c13 := HC.cell (i := 13) rfl; have c14 := HC.cell (i := 14) rfl; clear HC) | fail)
  refine (T1 _).mono ?_
  rintro e wN ⟨rfl, rfl⟩
  go_wp2_with (first | ((with_reducible refine at_plain ?_); intro K hK; (with_reducible refine at_bx ?_); refine wpH_bxA rfl rfl H ?_; clear H; intro b0 w0 H; have HC := (H.found Found.here).2; have c0 := HC.cell (i := 0) rfl; have c1 := HC.cell (i := 1) rfl; have c2 := HC.cell (i := 2) rfl; have c3 := HC.cell (i := 3) rfl; have c4 := HC.cell (i := 4) rfl; have c5 := HC.cell (i := 5) rfl; have c6 := HC.cell (i := 6) rfl; have c7 := HC.cell (i := 7) rfl; have c8 := HC.cell (i := 8) rfl; have c9 := HC.cell (i := 9) rfl; have c10 := HC.cell (i := 10) rfl; have c11 := HC.cell (i := 11) rfl; have c12 := HC.cell (i := 12) rfl; have c13 := HC.cell (i := 13) rfl; have c14 := HC.cell (i := 14) rfl; clear HC) | fail)
  refine (T2 _).mono ?_
  rintro e wN ⟨rfl, rfl⟩
  go_wp2
  go_ret
  exact ⟨rfl, H.grown⟩
end Go.Proofs.Ytpaalpnoppblaaa
