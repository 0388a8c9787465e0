/-
  Small looks of the program's account: within bounds, a time, a size, bytes of packets. No conditions but the numbers' own ranges.
-/
import Derived.Test.YtpaalpnoppblaaaProg
import Derived.Test.YtpaalpnoppblaaaK
import Derived.Test.YtpaalpnoppblaaaT
namespace Go.Proofs.Ytpaalpnoppblaaa
open Go.RowKit
set_option linter.unusedVariables false
/-- Is a number within bounds? -/
def win (n l g : Int) : Bool := decide (l ≤ n) && decide (n ≤ g)
theorem win_iff {n l g : Int} : win n l g = true ↔ l ≤ n ∧ n ≤ g := by simp [win]
theorem win_no {n l g : Int} : win n l g = false ↔ ¬ (l ≤ n ∧ n ≤ g) := by rw [← win_iff]; simp
set_option maxRecDepth 100000 in
theorem within_any (n l g : Int) (w : World) :
    Calls Try.prog 80 #[.int .i64 n, .int .i64 l, .int .i64 g] w fun e w' => e = .returned (.bool (win n l g)) ∧ w' = w := by
  have hw : win n l g = (decide (l ≤ n) && decide (n ≤ g)) := rfl
  rw [hw]; clear hw
  by_cases h : l ≤ n
  · by_cases h' : n ≤ g
    · rw [decide_eq_true h, decide_eq_true h']
      go_enter Try.func80, Try.ntmps80
      go_wp2
      go_ret
      exact ⟨rfl, rfl⟩
    · rw [decide_eq_true h, decide_eq_false h']
      go_enter Try.func80, Try.ntmps80
      go_wp2
      go_ret
      exact ⟨rfl, rfl⟩
  · rw [decide_eq_false h]
    go_enter Try.func80, Try.ntmps80
    go_wp2
    go_ret
    exact ⟨rfl, rfl⟩
set_option maxRecDepth 100000 in
theorem isTime_any (n : Int) (w : World) :
    Calls Try.prog 82 #[.int .i64 n] w fun e w' => e = .returned (.bool (win n 0 1099511627776)) ∧ w' = w := by
  go_enter Try.func82, Try.ntmps82
  go_wp2_with fail
  refine (within_any _ _ _ _).mono ?_
  rintro e w' ⟨rfl, rfl⟩
  go_wp2
  go_ret
  exact ⟨rfl, rfl⟩
set_option maxRecDepth 100000 in
theorem isSize_any (n : Int) (w : World) :
    Calls Try.prog 94 #[.int .i64 n] w fun e w' => e = .returned (.bool (win n 1 9000)) ∧ w' = w := by
  go_enter Try.func94, Try.ntmps94
  go_wp2_with fail
  refine (within_any _ _ _ _).mono ?_
  rintro e w' ⟨rfl, rfl⟩
  go_wp2
  go_ret
  exact ⟨rfl, rfl⟩
set_option maxRecDepth 100000 in
theorem carried_any (b p : Int) (p0 : 0 ≤ p) (p1 : p ≤ 1048576) (w : World) :
    Calls Try.prog 90 #[.int .i64 b, .int .i64 p] w fun e w' => e = .returned (.bool (win b p (p * 9000))) ∧ w' = w := by
  go_enter Try.func90, Try.ntmps90
  go_wp2_with fail
  refine (within_any _ _ _ _).mono ?_
  rintro e w' ⟨rfl, rfl⟩
  go_wp2
  go_ret
  exact ⟨rfl, rfl⟩
end Go.Proofs.Ytpaalpnoppblaaa
