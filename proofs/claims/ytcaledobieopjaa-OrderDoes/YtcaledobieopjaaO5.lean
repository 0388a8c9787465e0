/-
  The document's orders: the k-th of six, and an order's number. No conditions but the numbers' own ranges.
-/
import Derived.Test.YtcaledobieopjaaO4
namespace Go.Proofs.Ytcaledobieopjaa
open Go.RowKit
set_option linter.unusedVariables false
set_option maxHeartbeats 2000000 in
set_option maxRecDepth 100000 in
theorem refFour_in (k : Int) (h0 : 0 ≤ k) (h1 : k ≤ 5) (w : World) : Calls Try.prog 9 #[.int .i64 k] w fun e w' => e = .returned (.tuple #[.agg #[.bool (up0 k), .bool (up1 k), .bool (up2 k), .bool (up3 k)], .int .i64 0]) ∧ Below w.heap.size w w' := by
  rcases six h0 h1 with rfl | rfl | rfl | rfl | rfl | rfl
  all_goals
    go_enter Try.func9, Try.ntmps9
    go_wp2
    go_returns
    exact ⟨rfl, by go_grown⟩
set_option maxHeartbeats 1000000 in
set_option maxRecDepth 100000 in
theorem refFour_out (k : Int) (h : k < 0 ∨ 5 < k) (w : World) : Calls Try.prog 9 #[.int .i64 k] w fun e w' => e = .returned (.tuple #[.agg #[.bool false, .bool false, .bool false, .bool false], .int .i64 1]) ∧ Below w.heap.size w w' := by
  have n0 : ¬ k = 0 := by omega
  have n1 : ¬ k = 1 := by omega
  have n2 : ¬ k = 2 := by omega
  have n3 : ¬ k = 3 := by omega
  have n4 : ¬ k = 4 := by omega
  have n5 : ¬ k = 5 := by omega
  go_enter Try.func9, Try.ntmps9
  go_wp2
  go_returns
  exact ⟨rfl, by go_grown⟩
/-- The k-th order, or none. -/
theorem refFour_any (k : Int) (w : World) : Calls Try.prog 9 #[.int .i64 k] w fun e w' => e = .returned (.tuple #[.agg #[.bool (up0 k), .bool (up1 k), .bool (up2 k), .bool (up3 k)], .int .i64 (fourE k)]) ∧ Below w.heap.size w w' := by
  by_cases h : 0 ≤ k ∧ k ≤ 5
  · have := refFour_in k h.1 h.2 w
    unfold fourE; rw [if_pos h]; exact this
  · obtain ⟨e0, e1, e2, e3, e4⟩ := up_out (k := k) (by omega)
    rw [e0, e1, e2, e3, e4]
    exact refFour_out k (by omega) w
set_option maxHeartbeats 4000000 in
set_option maxRecDepth 100000 in
theorem refRank_any (a b c d : Bool) (w : World) : Calls Try.prog 11 #[.agg #[.bool a, .bool b, .bool c, .bool d]] w fun e w' => e = .returned (.tuple #[.int .i64 (rankv a b c d), .int .i64 (rankE a b c d)]) ∧ Below w.heap.size w w' := by
  go_enter Try.func11, Try.ntmps11
  go_wp2
  go_loopw [4] (fun k' wr => ∃ k : Int, 0 ≤ k ∧ k ≤ 6 ∧ k' = .int .i64 k ∧ Hid (∀ j : Int, 0 ≤ j → j < k → ¬ (up0 j = a ∧ up1 j = b ∧ up2 j = c ∧ up3 j = d)) ∧
      At4 wr w.heap.size (.bool a) (.bool b) (.bool c) (.bool d) ∧ Below w.heap.size w wr) (fun k' _ => (6 - intOf k').toNat)
  case atStart => exact ⟨0, by omega, by omega, rfl, (fun j h0 h1 => by omega), by constructor <;> simp [go_sem], by go_grown⟩
  case round =>
    obtain ⟨k, k0, k6, rfl, H, A', hb⟩ := hrel
    by_cases hk : k < 6
    · have C := fun w => refFour_in k k0 (by omega) w
      by_cases hx : up0 k = a ∧ up1 k = b ∧ up2 k = c ∧ up3 k = d
      · have HK : Hid (rankv a b c d = k ∧ rankE a b c d = 0) := rank_hit k0 (by omega) hx
        rw [hx.1, hx.2.1, hx.2.2.1, hx.2.2.2] at C
        clear hx
        have heq := eq4_same a b c d
        go_wp2_with fail
        refine (C _).mono ?_
        rintro e w1 ⟨rfl, hw1⟩
        have B' := At4.of hw1 A'
        have g1 := Below.call hb hb.size hw1
        clear A' hb hw1
        obtain ⟨a0, a1, a2, a3, fa, fb, fc, fd, al⟩ := id B'
        go_wp2
        rw [HK.out.1, HK.out.2]
        go_ret2
        exact ⟨rfl, by have := g1.size; go_grown⟩
      · have HN : Hid (∀ j : Int, 0 ≤ j → j < k + 1 → ¬ (up0 j = a ∧ up1 j = b ∧ up2 j = c ∧ up3 j = d)) := by
          intro j j0 j1 hj
          by_cases e : j = k
          · subst e; exact hx hj
          · exact H.out j j0 (by omega) hj
        have heq := eq4_not hx
        clear hx
        generalize up0 k = b0 at *
        generalize up1 k = b1 at *
        generalize up2 k = b2 at *
        generalize up3 k = b3 at *
        go_wp2_with fail
        refine (C _).mono ?_
        rintro e w1 ⟨rfl, hw1⟩
        have B' := At4.of hw1 A'
        have g1 := Below.call hb hb.size hw1
        clear A' hb hw1
        obtain ⟨a0, a1, a2, a3, fa, fb, fc, fd, al⟩ := id B'
        go_wp2
        go_roundw
        case rel => exact ⟨k + 1, by omega, by omega, by go_num, HN, B'.alloc _, by have := g1.size; go_grown⟩
        case measure => simp [intOf]; omega
    · have HK : Hid (rankv a b c d = 0 ∧ rankE a b c d = 14) := rank_none (fun j j0 j1 => H.out j j0 (by omega))
      go_wp2
      rw [HK.out.1, HK.out.2]
      go_ret2
      exact ⟨rfl, by go_grown⟩
end Go.Proofs.Ytcaledobieopjaa
