/-
  The document's looks at an account. No conditions but the numbers' own bounds.
-/
import Derived.Test.YtpaalpnoppblaaaU8
namespace Go.Proofs.Ytpaalpnoppblaaa
open Go.RowKit
set_option linter.unusedVariables false
set_option maxRecDepth 100000 in
theorem refTime_any (n : Int) (w : World) :
    Calls Try.prog 73 #[.int .i64 n] w fun e w' => e = .returned (.bool (win n 0 1099511627776)) ∧ w' = w := by
  have hw : win n 0 1099511627776 = (decide (0 ≤ n) && decide (n ≤ 1099511627776)) := rfl
  rw [hw]; clear hw
  by_cases h : 0 ≤ n
  · rw [decide_eq_true h, Bool.true_and]
    go_enter Try.func73, Try.ntmps73
    go_wp2
    go_ret
    exact ⟨rfl, rfl⟩
  · rw [decide_eq_false h, Bool.false_and]
    go_enter Try.func73, Try.ntmps73
    go_wp2
    go_ret
    exact ⟨rfl, rfl⟩
set_option maxRecDepth 100000 in
theorem refSize_any (n : Int) (w : World) :
    Calls Try.prog 75 #[.int .i64 n] w fun e w' => e = .returned (.bool (win n 1 9000)) ∧ w' = w := by
  have hw : win n 1 9000 = (decide (1 ≤ n) && decide (n ≤ 9000)) := rfl
  rw [hw]; clear hw
  by_cases h : 1 ≤ n
  · rw [decide_eq_true h, Bool.true_and]
    go_enter Try.func75, Try.ntmps75
    go_wp2
    go_ret
    exact ⟨rfl, rfl⟩
  · rw [decide_eq_false h, Bool.false_and]
    go_enter Try.func75, Try.ntmps75
    go_wp2
    go_ret
    exact ⟨rfl, rfl⟩
set_option maxRecDepth 100000 in
theorem refSized_any (b p : Int) (p0 : 0 ≤ p) (p1 : p ≤ 1048576) (w : World) :
    Calls Try.prog 92 #[.int .i64 b, .int .i64 p] w fun e w' => e = .returned (.bool (win b p (p * 9000))) ∧ w' = w := by
  have hw : win b p (p * 9000) = (decide (p ≤ b) && decide (b ≤ 9000 * p)) := by rw [Int.mul_comm 9000 p]; rfl
  rw [hw]; clear hw
  by_cases h : p ≤ b
  · rw [decide_eq_true h, Bool.true_and]
    go_enter Try.func92, Try.ntmps92
    go_wp2
    go_ret
    exact ⟨rfl, rfl⟩
  · rw [decide_eq_false h, Bool.false_and]
    go_enter Try.func92, Try.ntmps92
    go_wp2
    go_ret
    exact ⟨rfl, rfl⟩
/-- The sums of an account are right. -/
def sumsB (m : Mi) : Bool := win m.st 0 (m.n * 60000000) && (win m.sr 0 (m.n * 60000000) && (win m.tt 0 (m.n * 3600000000000000) && (win m.tr 0 (m.n * 3600000000000000) && win m.rr 0 (m.n * 3600000000000000))))
theorem sums_iff (m : Mi) : sumsB m = true ↔ (0 ≤ m.st ∧ m.st ≤ m.n * 60000000) ∧ (0 ≤ m.sr ∧ m.sr ≤ m.n * 60000000) ∧ (0 ≤ m.tt ∧ m.tt ≤ m.n * 3600000000000000) ∧ (0 ≤ m.tr ∧ m.tr ≤ m.n * 3600000000000000) ∧ (0 ≤ m.rr ∧ m.rr ≤ m.n * 3600000000000000) := by
  simp only [sumsB, Bool.and_eq_true, win_iff]
theorem ret_bool {a b : Bool} (h : a = b) : Ending.returned (.bool a) = Ending.returned (.bool b) := by rw [h]
theorem bool_of {r b : Bool} (h : r = true ↔ b = true) : r = b := by cases r <;> cases b <;> simp_all
set_option maxHeartbeats 4000000 in
set_option maxRecDepth 100000 in
theorem refSums_any (m : Mi) (n0 : 0 ≤ m.n) (n1 : m.n ≤ 1024) (w : World) :
    Calls Try.prog 93 #[.agg #[.int .i64 m.id, .int .i64 m.fr, .int .i64 m.to, .int .i64 m.se, .int .i64 m.ac, .int .i64 m.lo, .int .i64 m.pa, .int .i64 m.hi, .int .i64 m.dr, .int .i64 m.n, .int .i64 m.st, .int .i64 m.sr, .int .i64 m.tt, .int .i64 m.tr, .int .i64 m.rr]] w fun e w' => e = .returned (.bool (sumsB m)) ∧ Below w.heap.size w w' := by
  have E : Hid (sumsB m = true ↔ (0 ≤ m.st ∧ m.st ≤ m.n * 60000000) ∧ (0 ≤ m.sr ∧ m.sr ≤ m.n * 60000000) ∧ (0 ≤ m.tt ∧ m.tt ≤ m.n * 3600000000000000) ∧ (0 ≤ m.tr ∧ m.tr ≤ m.n * 3600000000000000) ∧ (0 ≤ m.rr ∧ m.rr ≤ m.n * 3600000000000000)) := sums_iff m
  generalize sumsB m = r at *
  have H := Heap.nil w
  go_enter Try.func93, Try.ntmps93
  go_wp2_with ((with_reducible refine at_plain ?_); intro K hK; (with_reducible refine at_bx ?_); refine wpH_bxA rfl rfl H ?_; clear H; intro b0 w0 H; have HC := (H.found Found.here).2; have c0 := HC.cell (i := 0) rfl; have c1 := HC.cell (i := 1) rfl; have c2 := HC.cell (i := 2) rfl; have c3 := HC.cell (i := 3) rfl; have c4 := HC.cell (i := 4) rfl; have c5 := HC.cell (i := 5) rfl; have c6 := HC.cell (i := 6) rfl; have c7 := HC.cell (i := 7) rfl; have c8 := HC.cell (i := 8) rfl; have c9 := HC.cell (i := 9) rfl; have c10 := HC.cell (i := 10) rfl; have c11 := HC.cell (i := 11) rfl; have c12 := HC.cell (i := 12) rfl; have c13 := HC.cell (i := 13) rfl; have c14 := HC.cell (i := 14) rfl; clear HC)
  all_goals go_ret
  all_goals refine ⟨ret_bool (bool_of ?_), H.grown⟩
  all_goals rw [E.out]
  all_goals (try simp only [decide_eq_true_eq, Bool.false_eq_true, false_iff])
  all_goals clear E
  all_goals omega
end Go.Proofs.Ytpaalpnoppblaaa
