/-
  The program's orders: the k-th of six, and an order's number. No conditions but the numbers' own ranges.
-/
import Derived.Test.YtcaledobieopjaaO2
namespace Go.Proofs.Ytcaledobieopjaa
open Go.RowKit
set_option linter.unusedVariables false
theorem fours_at (k : Int) (h0 : 0 ≤ k) (h1 : k ≤ 5) (w : World) : (Instr.index 51 (.agg foursV) (.int .i64 k)).run Try.prog w = .ok (.agg #[.bool (up0 k), .bool (up1 k), .bool (up2 k), .bool (up3 k)]) w := by
  rcases six h0 h1 with rfl | rfl | rfl | rfl | rfl | rfl
  · kernel_rfl
  · kernel_rfl
  · kernel_rfl
  · kernel_rfl
  · kernel_rfl
  · kernel_rfl
set_option maxHeartbeats 1000000 in
set_option maxRecDepth 100000 in
theorem four_out (k : Int) (h : k < 0 ∨ 5 < k) (w : World) : Calls Try.prog 8 #[.int .i64 k] w fun e w' => e = .returned (.tuple #[.agg #[.bool false, .bool false, .bool false, .bool false], .int .i64 1]) ∧ Below w.heap.size w w' := by
  rcases h with h | h
  all_goals
    go_enter Try.func8, Try.ntmps8
    go_wp2
    go_returns
    exact ⟨rfl, by go_grown⟩
set_option maxHeartbeats 4000000 in
set_option maxRecDepth 100000 in
theorem four_in (k : Int) (h0 : 0 ≤ k) (h1 : k ≤ 5) (w : World) : Calls Try.prog 8 #[.int .i64 k] w fun e w' => e = .returned (.tuple #[.agg #[.bool (up0 k), .bool (up1 k), .bool (up2 k), .bool (up3 k)], .int .i64 0]) ∧ Below w.heap.size w w' := by
  have hi := fours_at k h0 h1
  generalize up0 k = b0 at *
  generalize up1 k = b1 at *
  generalize up2 k = b2 at *
  generalize up3 k = b3 at *
  go_enter Try.func8, Try.ntmps8
  go_wp2_with fail
  refine (fours_any _).mono ?_
  rintro e w1 ⟨rfl, hw1⟩
  have A : At4 w1 w.heap.size (.bool false) (.bool false) (.bool false) (.bool false) := At4.of hw1 (by constructor <;> simp [go_sem])
  have g1 : Below w.heap.size w w1 := Below.call (by go_grown) (by simp) hw1
  clear hw1
  obtain ⟨a0, a1, a2, a3, fa, fb, fc, fd, al⟩ := id A
  obtain ⟨r0, r1, r2, r3⟩ := A.outs (.bool b0) (.bool b1) (.bool b2) (.bool b3)
  go_wp2
  exact bodyPost_ret (v := .tuple #[.agg #[.bool b0, .bool b1, .bool b2, .bool b3], .int .i64 0]) (by simp [results, Try.results8, go_sem, r0, r1, r2, r3]) rfl ⟨rfl, by go_grown⟩
/-- The k-th order, or none. -/
theorem four_any (k : Int) (w : World) : Calls Try.prog 8 #[.int .i64 k] w fun e w' => e = .returned (.tuple #[.agg #[.bool (up0 k), .bool (up1 k), .bool (up2 k), .bool (up3 k)], .int .i64 (fourE k)]) ∧ Below w.heap.size w w' := by
  by_cases h : 0 ≤ k ∧ k ≤ 5
  · have := four_in k h.1 h.2 w
    unfold fourE; rw [if_pos h]; exact this
  · obtain ⟨e0, e1, e2, e3, e4⟩ := up_out (k := k) (by omega)
    rw [e0, e1, e2, e3, e4]
    exact four_out k (by omega) w
end Go.Proofs.Ytcaledobieopjaa
