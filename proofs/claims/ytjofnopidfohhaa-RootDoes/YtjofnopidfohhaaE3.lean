/-
  The document's rows of layer 3, as the statements ask them first: they hold. No conditions.
-/
import Derived.Test.YtjofnopidfohhaaS3
namespace Go.Proofs.Ytjofnopidfohhaa
open Go.RowKit
set_option linter.unusedVariables false
attribute [local go_sem] Later.cell Later.frozen

theorem row_log0 (w : World) : Calls Try.prog 12 #[.int .u64 0] w fun e w' => e = .returned (.int .i64 (-1)) ∧ Below w.heap.size w w' := by
  have := log_any 0 (by omega) (by omega) w
  rwa [show logv 0 = -1 by decide +kernel] at this
theorem row_log255 (w : World) : Calls Try.prog 12 #[.int .u64 255] w fun e w' => e = .returned (.int .i64 7) ∧ Below w.heap.size w w' := by
  have := log_any 255 (by omega) (by omega) w
  rwa [show logv 255 = 7 by decide +kernel] at this
theorem row_log256 (w : World) : Calls Try.prog 12 #[.int .u64 256] w fun e w' => e = .returned (.int .i64 8) ∧ Below w.heap.size w w' := by
  have := log_any 256 (by omega) (by omega) w
  rwa [show logv 256 = 8 by decide +kernel] at this
theorem row_sqrt24 (w : World) : Calls Try.prog 10 #[.int .u64 24] w fun e w' => e = .returned (.int .u64 4) ∧ Below w.heap.size w w' := by
  have := sqrt64_any 24 (by omega) (by omega) w
  rwa [show sqrtv 24 = 4 by decide +kernel] at this
theorem row_sqrt25 (w : World) : Calls Try.prog 10 #[.int .u64 25] w fun e w' => e = .returned (.int .u64 5) ∧ Below w.heap.size w w' := by
  have := sqrt64_any 25 (by omega) (by omega) w
  rwa [show sqrtv 25 = 5 by decide +kernel] at this
theorem row_root (w : World) : Calls Try.prog 14 #[.int .i64 2097152] w fun e w' => e = .returned (.int .i64 1482910) ∧ Below w.heap.size w w' := by
  have := root_any 2097152 w
  rwa [show rootv 2097152 = 1482910 by decide +kernel] at this
theorem row_mean (w : World) : Calls Try.prog 16 #[.int .u64 2, .int .u64 8] w fun e w' => e = .returned (.int .u64 4) ∧ Below w.heap.size w w' := by
  have := mean_any 2 8 (by omega) (by omega) (by omega) (by omega) w
  rwa [show sqrtv (2 * 8) = 4 by decide +kernel] at this

set_option maxHeartbeats 2000000 in
set_option maxRecDepth 100000 in
theorem rooted_any (w : World) : Calls Try.prog 7 #[] w fun e w' => e = .returned (.bool true) ∧ Below w.heap.size w w' := by
  go_enter Try.func7, Try.ntmps7
  go_wp2_with fail
  refine (row_log0 _).mono ?_
  rintro e w1 ⟨rfl, hw1⟩
  go_wp2_with fail
  refine (row_log255 _).mono ?_
  rintro e w2 ⟨rfl, hw2⟩
  go_wp2_with fail
  refine (row_log256 _).mono ?_
  rintro e w3 ⟨rfl, hw3⟩
  go_wp2_with fail
  refine (row_sqrt24 _).mono ?_
  rintro e w4 ⟨rfl, hw4⟩
  go_wp2_with fail
  refine (row_sqrt25 _).mono ?_
  rintro e w5 ⟨rfl, hw5⟩
  go_wp2_with fail
  refine (row_root _).mono ?_
  rintro e w6 ⟨rfl, hw6⟩
  go_wp2_with fail
  refine (row_mean _).mono ?_
  rintro e w7 ⟨rfl, hw7⟩
  go_wp2
  go_ret
  have b2 := Below.call hw1 hw1.size hw2
  have b3 := Below.call b2 b2.size hw3
  have b4 := Below.call b3 b3.size hw4
  have b5 := Below.call b4 b4.size hw5
  have b6 := Below.call b5 b5.size hw6
  exact ⟨rfl, Below.call b6 b6.size hw7⟩
end Go.Proofs.Ytjofnopidfohhaa
