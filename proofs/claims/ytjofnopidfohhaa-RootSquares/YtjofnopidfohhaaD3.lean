/-
  The program's shifts are those of the numbers. No conditions but the numbers' own ranges.
-/
import Derived.Test.YtjofnopidfohhaaProg
import Derived.Test.YtjofnopidfohhaaK
import Derived.Test.YtjofnopidfohhaaA3
namespace Go.Proofs.Ytjofnopidfohhaa
open Go.RowKit
set_option linter.unusedVariables false

set_option maxHeartbeats 800000 in
set_option maxRecDepth 100000 in
theorem left_any (a n : Int) (ha : W128 a) (hn : n ≤ 9223372036854775807) (w : World) :
    Calls Try.prog 20 #[.agg #[.int .u64 (hiw a), .int .u64 (low a)], .int .i64 n] w fun e w' => e = .returned (.agg #[.int .u64 (hiw (leftv a n)), .int .u64 (low (leftv a n))]) ∧ Below w.heap.size w w' := by
  obtain ⟨a0, a1⟩ := hiw_bd ha
  obtain ⟨a2, a3⟩ := low_bd a
  by_cases h0 : n < 0
  · have E : leftv a n = a := by unfold leftv; rw [if_pos h0]
    rw [E]; clear E
    go_enter Try.func20, Try.ntmps20
    go_wp2
    go_returns
    exact ⟨rfl, by go_grown⟩
  by_cases h1 : n < 64
  · go_enter Try.func20, Try.ntmps20
    go_wp2
    go_region
    all_goals
      go_wp2
      go_returns
      obtain ⟨e1, e2⟩ := left_hi ha (by omega) h1
      refine ⟨by rw [e1, e2], by go_grown⟩
  · go_enter Try.func20, Try.ntmps20
    go_wp2
    go_returns
    obtain ⟨e1, e2⟩ := left_far (n := n) ha (by omega)
    refine ⟨by rw [e1, ← e2], by go_grown⟩

end Go.Proofs.Ytjofnopidfohhaa
