/-
  The document's Next: any source's draw, and the source behind it, the same as the program's. No conditions but the numbers' own ranges.
-/
import Derived.Test.YtcaledobieopjaaQ1
import Derived.Test.YtcaledobieopjaaProg
import Derived.Deep.DeepCutAuto
import Derived.Deep.RegionWith
namespace Go.Proofs.Ytcaledobieopjaa
open Go.RowKit
set_option linter.unusedVariables false
theorem lcg_wrap (s i : Int) : IntKind.u64.wrap (IntKind.u64.wrap (6364136223846793005 * s) + i) = (6364136223846793005 * s + i) % 18446744073709551616 := by
  rw [IntKind.wrap_u64, IntKind.wrap_u64]; omega
set_option maxHeartbeats 800000 in
set_option maxRecDepth 100000 in
theorem step_any (k s i p : Int) (ao : Option Addr) (n c : Nat) (w : World) :
    Calls Try.prog 31 #[.agg #[.int .i64 k, .int .u64 s, .int .u64 i, .slice ao n c, .int .i64 p]] w fun e w' => e = .returned (.agg #[.int .i64 k, .int .u64 ((6364136223846793005 * s + i) % 18446744073709551616), .int .u64 i, .slice ao n c, .int .i64 p]) ∧ Below w.heap.size w w' := by
  go_enter Try.func31, Try.ntmps31
  go_wp2
  go_returns
  exact ⟨by rw [lcg_wrap], by go_grown⟩
set_option maxHeartbeats 800000 in
set_option maxRecDepth 100000 in
theorem refNext_dry (k s i p : Int) (ao : Option Addr) (n c : Nat) (h1 : k ≠ 1) (h2 : k ≠ 2) (w : World) :
    Calls Try.prog 30 #[.agg #[.int .i64 k, .int .u64 s, .int .u64 i, .slice ao n c, .int .i64 p]] w fun e w' => e = .returned (.tuple #[.int .i64 0, .agg #[.int .i64 k, .int .u64 s, .int .u64 i, .slice ao n c, .int .i64 p]]) ∧ Below w.heap.size w w' := by
  go_enter Try.func30, Try.ntmps30
  go_wp2
  go_region
  all_goals go_wp2
  all_goals go_returns
  all_goals exact ⟨rfl, by go_grown⟩
set_option maxHeartbeats 800000 in
set_option maxRecDepth 100000 in
theorem refNext_out (s i p : Int) (ao : Option Addr) (n c : Nat) (hp : p < 0 ∨ (n : Int) ≤ p) (w : World) :
    Calls Try.prog 30 #[.agg #[.int .i64 2, .int .u64 s, .int .u64 i, .slice ao n c, .int .i64 p]] w fun e w' => e = .returned (.tuple #[.int .i64 0, .agg #[.int .i64 2, .int .u64 s, .int .u64 i, .slice ao n c, .int .i64 p]]) ∧ Below w.heap.size w w' := by
  rcases Int.lt_or_le p 0 with h | h
  all_goals
    have h' : p < 0 ∨ (n : Int) ≤ p := hp
    clear hp
    try (have h2 : (n : Int) ≤ p := by omega)
    clear h'
    go_enter Try.func30, Try.ntmps30
    go_wp2
    go_region
    all_goals go_wp2
    all_goals go_returns
    all_goals exact ⟨rfl, by go_grown⟩
set_option maxHeartbeats 800000 in
set_option maxRecDepth 100000 in
theorem refNext_in (s i p : Int) (ao : Option Addr) (n c : Nat) (zs : List Int) (w : World) (hz : Row .u64 w ao n c zs) (p0 : 0 ≤ p) (p1 : p < n) :
    Calls Try.prog 30 #[.agg #[.int .i64 2, .int .u64 s, .int .u64 i, .slice ao n c, .int .i64 p]] w fun e w' => e = .returned (.tuple #[.int .i64 (zs.getD p.toNat 0 % 4294967296), .agg #[.int .i64 2, .int .u64 s, .int .u64 i, .slice ao n c, .int .i64 (p + 1)]]) ∧ Below w.heap.size w w' := by
  obtain ⟨b, o, rfl, hc⟩ := hz.at' (by omega)
  obtain ⟨q, rfl⟩ := Int.eq_ofNat_of_zero_le p0
  have hq : q < n := by omega
  have hcell := hc q hq
  have hlt := World.block_lt_of_cell? _ _ hcell
  have hn : (n : Int) ≤ 9223372036854775807 := by have := hz.cap; have := hz.max; unfold maxLen at this; omega
  have hu := hz.u64 q
  rw [Int.toNat_natCast]
  generalize zs.getD q 0 = z at *
  obtain ⟨u0, u1⟩ := hu
  have e4 : Hid (IntKind.i64.wrap (z % 4294967296) = z % 4294967296) := by show _ = _; rw [IntKind.wrap_i64]; omega
  clear hc hz
  go_enter Try.func30, Try.ntmps30
  go_wp2
  go_region
  all_goals go_wp2
  all_goals go_returns
  all_goals exact ⟨by first | rfl | rw [e4.out], by go_grown⟩
theorem turn_round {x : Int} {r : Nat} (x0 : 0 ≤ x) (hr : r < 32) : rotv x r / 2 + rotv x r % 2 * 2147483648 = rotv x (r + 1) := rot_succ x0 hr
set_option maxHeartbeats 1600000 in
set_option maxRecDepth 100000 in
theorem refNext_pcg (s i p : Int) (ao : Option Addr) (n c : Nat) (h0 : 0 ≤ s) (h1 : s ≤ 18446744073709551615) (w : World) :
    Calls Try.prog 30 #[.agg #[.int .i64 1, .int .u64 s, .int .u64 i, .slice ao n c, .int .i64 p]] w fun e w' => e = .returned (.tuple #[.int .i64 (pcgv s), .agg #[.int .i64 1, .int .u64 ((6364136223846793005 * s + i) % 18446744073709551616), .int .u64 i, .slice ao n c, .int .i64 p]]) ∧ Below w.heap.size w w' := by
  obtain ⟨X, hX⟩ : ∃ X, X = pcgx s := ⟨_, rfl⟩
  obtain ⟨R, hR⟩ : ∃ R : Nat, (R : Int) = s / 576460752303423488 := ⟨(s / 576460752303423488).toNat, by omega⟩
  obtain ⟨xb0, xb1⟩ := pcgx_bd s
  rw [← hX] at xb0 xb1
  have hr1 : R ≤ 31 := by omega
  have e1 : bits BinOp.xor IntKind.u64 (s / 262144) s / 134217728 % 4294967296 = X := hX.symm
  have e1' : (bits BinOp.xor IntKind.u64 (s / 262144) s / 134217728).tmod 4294967296 = X := by
    have hb := bounds_u64 (wf_bits .xor .u64 (s / 262144) s)
    rw [Int.tmod_eq_emod_of_nonneg (by omega)]; exact e1
  have e2 : s / 576460752303423488 = R := hR.symm
  have hv : pcgv s = rotv X R := by rw [hX]; unfold pcgv; rw [e2, Int.toNat_natCast]
  rw [hv]
  clear hX hR hv
  go_enter Try.func30, Try.ntmps30
  go_wp2
  go_loop [5, 7] (fun x' i' => ∃ j : Nat, j ≤ R ∧ i' = .int .u64 j ∧ x' = .int .u64 (rotv X j)) (fun _ i' => R - (intOf i').toNat)
  case atStart => exact ⟨0, Nat.zero_le _, rfl, by rw [rot_zero]⟩
  case round =>
    obtain ⟨j, hj, rfl, rfl⟩ := hrel
    obtain ⟨v0, v1⟩ := rot_bd xb0 xb1 (show j ≤ 32 by omega)
    by_cases hlt : j < R
    · have HS : Hid (rotv X j / 2 + rotv X j % 2 * 2147483648 = rotv X (j + 1)) := rot_succ xb0 (by omega)
      go_wp2
      go_round
      case rel => exact ⟨j + 1, by omega, by go_num, by rw [← HS.out]⟩
      case measure => simp [intOf]; omega
    · obtain rfl : j = R := by omega
      have e4 : Hid (IntKind.i64.wrap (rotv X j) = rotv X j) := by show _ = _; rw [IntKind.wrap_i64]; omega
      go_wp2_with fail
      refine (step_any _ _ _ _ _ _ _ _).mono ?_
      rintro e w1 ⟨rfl, hw1⟩
      have g1 : Below w.heap.size w w1 := Below.call (by go_grown) (by simp; omega) hw1
      have Z : At5 w1 (w.heap.size + 1) (.int .i64 0) (.int .u64 0) (.int .u64 0) (.slice none 0 0) (.int .i64 0) := At5.of hw1 (by constructor <;> simp [go_sem])
      obtain ⟨z0, z1, z2, z3, z4, y0, y1, y2, y3, y4, zl⟩ := id Z
      obtain ⟨r0, r1, r2, r3, r4⟩ := Z.outs (.int .i64 1) (.int .u64 ((6364136223846793005 * s + i) % 18446744073709551616)) (.int .u64 i) (.slice ao n c) (.int .i64 p)
      go_wp2
      exact bodyPost_ret (v := .tuple #[.int .i64 (rotv X j), .agg #[.int .i64 1, .int .u64 ((6364136223846793005 * s + i) % 18446744073709551616), .int .u64 i, .slice ao n c, .int .i64 p]]) (by simp [results, Try.results30, go_sem, r0, r1, r2, r3, r4]) rfl ⟨rfl, by go_grown⟩
/-- Any source's next draw, by the document. -/
theorem refNext_any (k s i p : Int) (ao : Option Addr) (n c : Nat) (zs : List Int) (h0 : 0 ≤ s) (h1 : s ≤ 18446744073709551615) (i0 : 0 ≤ i) (i1 : i ≤ 18446744073709551615) (w : World) (hz : Row .u64 w ao n c zs) :
    Calls Try.prog 30 #[.agg #[.int .i64 k, .int .u64 s, .int .u64 i, .slice ao n c, .int .i64 p]] w fun e w' => e = .returned (.tuple #[.int .i64 (drawv k s p zs), .agg #[.int .i64 k, .int .u64 (statev k s i), .int .u64 i, .slice ao n c, .int .i64 (atv k p zs)]]) ∧ Below w.heap.size w w' := by
  have hl := hz.len
  by_cases hk1 : k = 1
  · subst hk1
    have := refNext_pcg s i p ao n c h0 h1 w
    rw [drawv_pcg, statev_pcg, atv_pcg]; exact this
  by_cases hk2 : k = 2
  · subst hk2
    by_cases hp : 0 ≤ p ∧ p < n
    · have := refNext_in s i p ao n c zs w hz hp.1 hp.2
      rw [drawv_tape hp.1 (by omega), statev_tape, atv_tape hp.1 (by omega)]; exact this
    · have := refNext_out s i p ao n c (by omega) w
      rw [drawv_out (by omega), statev_tape, atv_out (by omega)]; exact this
  · have := refNext_dry k s i p ao n c hk1 hk2 w
    rw [drawv_dry hk1 hk2, statev_dry hk1, atv_dry hk2]; exact this
end Go.Proofs.Ytcaledobieopjaa
