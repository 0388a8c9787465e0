/-
  The program's number of an order. No conditions.
-/
import Derived.Test.YtcaledobieopjaaO3
import Derived.ChangeKeysEq
namespace Go.Proofs.Ytcaledobieopjaa
open Go.RowKit
set_option linter.unusedVariables false
theorem info_bool : ∃ i, Try.prog.info? 4 = some i := by
  cases h : Try.prog.info? 4 with
  | none => exact absurd h (by intro h; have : (Try.prog.info? 4).isSome = true := by kernel_rfl
                               rw [h] at this; cases this)
  | some i => exact ⟨i, rfl⟩
theorem cells_bool : Try.prog.cellsOf 4 = 1 := by kernel_rfl
theorem part_bool (xs : Array Value) (i : Nat) (b : Bool) (w : World) (h : xs[i]? = some (.bool b)) : (part 4 xs i).run Try.prog w = .ok (.bool b) w := by
  simp [part, isAgg, run_underlying Try.underlying4, h]
theorem eq4 (a b c d a' b' c' d' : Bool) (w : World) : (Op.equalIn 10000 22 (.agg #[.bool a, .bool b, .bool c, .bool d]) (.agg #[.bool a', .bool b', .bool c', .bool d'])).run Try.prog w = .ok (decide (a = a' ∧ b = b' ∧ c = c' ∧ d = d')) w := by
  obtain ⟨i, hi⟩ := info_bool
  rw [run_equalIn_array w 9999 _ _ Try.underlying22 hi, cells_bool]
  show (Op.eqItems 9999 4 1 _ _ [0, 1, 2, 3]).run Try.prog w = _
  have e := fun a b w => run_equalIn_bool' (P := Try.prog) w 9998 4 a b Try.underlying4
  have p := fun xs i b h w => part_bool xs i b w h
  simp only [Op.eqItems, Sem.run_bind, Nat.mul_one, p #[.bool a, .bool b, .bool c, .bool d] 0 a rfl,
    p #[.bool a', .bool b', .bool c', .bool d'] 0 a' rfl, Result.andThen_ok, e]
  cases a <;> cases a' <;> (try rfl) <;> cases b <;> cases b' <;> (try rfl) <;> cases c <;> cases c' <;> (try rfl) <;> cases d <;> cases d' <;> rfl
theorem eq2 (a b a' b' : Bool) (w : World) : (Op.equalIn 10000 35 (.agg #[.bool a, .bool b]) (.agg #[.bool a', .bool b'])).run Try.prog w = .ok (decide (a = a' ∧ b = b')) w := by
  obtain ⟨i, hi⟩ := info_bool
  rw [run_equalIn_array w 9999 _ _ Try.underlying35 hi, cells_bool]
  show (Op.eqItems 9999 4 1 _ _ [0, 1]).run Try.prog w = _
  have e := fun a b w => run_equalIn_bool' (P := Try.prog) w 9998 4 a b Try.underlying4
  have p := fun xs i b h w => part_bool xs i b w h
  simp only [Op.eqItems, Sem.run_bind, Nat.mul_one, p #[.bool a, .bool b] 0 a rfl,
    p #[.bool a', .bool b'] 0 a' rfl, Result.andThen_ok, e]
  cases a <;> cases a' <;> (try rfl) <;> cases b <;> cases b' <;> rfl
theorem eq4_same (a b c d : Bool) (w : World) : (Op.equalIn 10000 22 (.agg #[.bool a, .bool b, .bool c, .bool d]) (.agg #[.bool a, .bool b, .bool c, .bool d])).run Try.prog w = .ok true w := by
  rw [eq4]; simp
theorem eq4_not {a b c d a' b' c' d' : Bool} (h : ¬ (a = a' ∧ b = b' ∧ c = c' ∧ d = d')) (w : World) : (Op.equalIn 10000 22 (.agg #[.bool a, .bool b, .bool c, .bool d]) (.agg #[.bool a', .bool b', .bool c', .bool d'])).run Try.prog w = .ok false w := by
  rw [eq4, decide_eq_false h]
set_option maxHeartbeats 4000000 in
set_option maxRecDepth 100000 in
theorem rank_any (a b c d : Bool) (w : World) : Calls Try.prog 10 #[.agg #[.bool a, .bool b, .bool c, .bool d]] w fun e w' => e = .returned (.tuple #[.int .i64 (rankv a b c d), .int .i64 (rankE a b c d)]) ∧ Below w.heap.size w w' := by
  go_enter Try.func10, Try.ntmps10
  go_wp2_with fail
  refine (fours_any _).mono ?_
  rintro e w1 ⟨rfl, hw1⟩
  have A : At4 w1 w.heap.size (.bool a) (.bool b) (.bool c) (.bool d) := At4.of hw1 (by constructor <;> simp [go_sem])
  have g1 : Below w.heap.size w w1 := Below.call (by go_grown) (by simp) hw1
  clear hw1
  go_wp2
  go_loopw [7] (fun k' wr => ∃ k : Int, 0 ≤ k ∧ k ≤ 6 ∧ k' = .int .i64 k ∧ Hid (∀ j : Int, 0 ≤ j → j < k → ¬ (up0 j = a ∧ up1 j = b ∧ up2 j = c ∧ up3 j = d)) ∧
      At4 wr w.heap.size (.bool a) (.bool b) (.bool c) (.bool d) ∧ Below w.heap.size w wr) (fun k' _ => (6 - intOf k').toNat)
  case atStart => exact ⟨0, by omega, by omega, rfl, (fun j h0 h1 => by omega), A, g1⟩
  case round =>
    obtain ⟨k, k0, k6, rfl, H, A', hb⟩ := hrel
    clear A g1
    obtain ⟨a0, a1, a2, a3, fa, fb, fc, fd, al⟩ := id A'
    by_cases hk : k < 6
    · have hi := fours_at k k0 (by omega)
      by_cases hx : up0 k = a ∧ up1 k = b ∧ up2 k = c ∧ up3 k = d
      · have HK : Hid (rankv a b c d = k ∧ rankE a b c d = 0) := rank_hit k0 (by omega) hx
        rw [hx.1, hx.2.1, hx.2.2.1, hx.2.2.2] at hi
        clear hx
        have heq := eq4_same a b c d
        go_wp2
        rw [HK.out.1, HK.out.2]
        go_ret2
        exact ⟨rfl, by go_grown⟩
      · have HN : Hid (∀ j : Int, 0 ≤ j → j < k + 1 → ¬ (up0 j = a ∧ up1 j = b ∧ up2 j = c ∧ up3 j = d)) := by
          intro j j0 j1 hj
          by_cases e : j = k
          · subst e; exact hx hj
          · exact H.out j j0 (by omega) hj
        have heq := eq4_not hx
        clear hx
        generalize up0 k = b0 at *
        generalize up1 k = b1 at *
        generalize up2 k = b2 at *
        generalize up3 k = b3 at *
        go_wp2
        go_roundw
        case rel => exact ⟨k + 1, by omega, by omega, by go_num, HN, A'.alloc _, by go_grown⟩
        case measure => simp [intOf]; omega
    · have HK : Hid (rankv a b c d = 0 ∧ rankE a b c d = 14) := rank_none (fun j j0 j1 => H.out j j0 (by omega))
      go_wp2
      rw [HK.out.1, HK.out.2]
      go_ret2
      exact ⟨rfl, by go_grown⟩
end Go.Proofs.Ytcaledobieopjaa
