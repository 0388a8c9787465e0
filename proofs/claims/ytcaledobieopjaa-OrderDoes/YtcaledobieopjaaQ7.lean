/-
  The document's: a draw below a number, between two, and one of two sides. No conditions but the numbers' own ranges.
-/
import Derived.Test.YtcaledobieopjaaQ4
import Derived.Test.YtcaledobieopjaaQ5
namespace Go.Proofs.Ytcaledobieopjaa
open Go.RowKit
set_option linter.unusedVariables false

set_option maxHeartbeats 1600000 in
set_option maxRecDepth 100000 in
theorem refBelow_no (k s i p m : Int) (ao : Option Addr) (n c : Nat) (zs : List Int) (h0 : 0 ≤ s) (h1 : s ≤ 18446744073709551615) (i0 : 0 ≤ i) (i1 : i ≤ 18446744073709551615) (m0 : m ≤ 0) (w : World) (hz : Row .u64 w ao n c zs) :
    Calls Try.prog 25 #[.agg #[.int .i64 k, .int .u64 s, .int .u64 i, .slice ao n c, .int .i64 p], .int .i64 m] w fun e w' => e = .returned (.tuple #[.int .i64 0, .agg #[.int .i64 k, .int .u64 s, .int .u64 i, .slice ao n c, .int .i64 p]]) ∧ Below w.heap.size w w' := by
  go_enter Try.func25, Try.ntmps25
  go_wp2
  go_region
  all_goals go_wp2
  all_goals go_returns
  all_goals exact ⟨rfl, by go_grown⟩

set_option maxHeartbeats 1600000 in
set_option maxRecDepth 100000 in
theorem refBelow_yes (k s i p m : Int) (ao : Option Addr) (n c : Nat) (zs : List Int) (h0 : 0 ≤ s) (h1 : s ≤ 18446744073709551615) (i0 : 0 ≤ i) (i1 : i ≤ 18446744073709551615) (m0 : 0 < m) (m1 : m ≤ 9223372036854775807) (w : World) (hz : Row .u64 w ao n c zs) :
    Calls Try.prog 25 #[.agg #[.int .i64 k, .int .u64 s, .int .u64 i, .slice ao n c, .int .i64 p], .int .i64 m] w fun e w' => e = .returned (.tuple #[.int .i64 (drawv k s p zs % m), .agg #[.int .i64 k, .int .u64 (statev k s i), .int .u64 i, .slice ao n c, .int .i64 (atv k p zs)]]) ∧ Below w.heap.size w w' := by
  have C := fun w hz => refNext_any k s i p ao n c zs h0 h1 i0 i1 w hz
  obtain ⟨d0, d1⟩ := drawv_bd (k := k) (p := p) zs h0 h1
  generalize drawv k s p zs = x at *
  generalize statev k s i = s' at *
  generalize atv k p zs = p' at *
  have hyn : ¬ m = 0 := by omega
  have hmt : x.tmod m = x % m := Int.tmod_eq_emod_of_nonneg d0
  go_enter Try.func25, Try.ntmps25
  go_wp2_with fail
  refine (C _ (hz.below (by go_grown))).mono ?_
  rintro e w1 ⟨rfl, hw1⟩
  have g1 : Below w.heap.size w w1 := Below.call (by go_grown) (by simp; omega) hw1
  have S : At5 w1 w.heap.size (.int .i64 (k)) (.int .u64 (s)) (.int .u64 (i)) (.slice (ao) n c) (.int .i64 (p)) := At5.of hw1 (by constructor <;> simp [go_sem])
  have Z : At5 w1 (w.heap.size + 1) (.int .i64 0) (.int .u64 0) (.int .u64 0) (.slice none 0 0) (.int .i64 0) := At5.of hw1 (by constructor <;> simp [go_sem])
  clear hw1 hz
  obtain ⟨s0, s1, s2, s3, s4, sa, sb, sc, sd, se, sl⟩ := id S
  obtain ⟨z0, z1, z2, z3, z4, za, zb, zc, zd, ze, zl⟩ := id Z
  go_wp2
  refine wp_forget (fun W => At5 W w1.heap.size (.int .i64 (k)) (.int .u64 (s')) (.int .u64 (i)) (.slice (ao) n c) (.int .i64 (p')) ∧ At5 W (w.heap.size + 1) (.int .i64 0) (.int .u64 0) (.int .u64 0) (.slice none 0 0) (.int .i64 0) ∧ Below w.heap.size w W ∧ w1.heap.size ≠ w.heap.size + 1) ⟨At5.fresh _ _ _ _ _ _ _, Z.alloc _, by have := g1.size; go_grown, by omega⟩ ?_
  generalize w1.heap.size = q
  clear S Z s0 s1 s2 s3 s4 sa sb sc sd se sl z0 z1 z2 z3 z4 za zb zc zd ze zl g1
  rintro W ⟨S, Z, g1, hq⟩
  obtain ⟨s0, s1, s2, s3, s4, sa, sb, sc, sd, se, sl⟩ := id S
  obtain ⟨z0, z1, z2, z3, z4, za, zb, zc, zd, ze, zl⟩ := id Z
  obtain ⟨r0, r1, r2, r3, r4⟩ := Z.outs (.int .i64 (k)) (.int .u64 (s')) (.int .u64 (i)) (.slice (ao) n c) (.int .i64 (p'))
  go_region
  all_goals go_wp2
  all_goals exact bodyPost_ret (v := .tuple #[.int .i64 (x % m), .agg #[.int .i64 k, .int .u64 s', .int .u64 i, .slice ao n c, .int .i64 p']]) (by simp [results, Try.results25, go_sem, r0, r1, r2, r3, r4]) rfl ⟨rfl, by go_grown⟩

theorem refBelow_any (k s i p m : Int) (ao : Option Addr) (n c : Nat) (zs : List Int) (h0 : 0 ≤ s) (h1 : s ≤ 18446744073709551615) (i0 : 0 ≤ i) (i1 : i ≤ 18446744073709551615) (m1 : m ≤ 9223372036854775807) (w : World) (hz : Row .u64 w ao n c zs) :
    Calls Try.prog 25 #[.agg #[.int .i64 k, .int .u64 s, .int .u64 i, .slice ao n c, .int .i64 p], .int .i64 m] w fun e w' => e = .returned (.tuple #[.int .i64 (belowv k s p zs m), .agg #[.int .i64 k, .int .u64 (belowS k s i m), .int .u64 i, .slice ao n c, .int .i64 (belowP k p zs m)]]) ∧ Below w.heap.size w w' := by
  unfold belowv belowS belowP
  by_cases h : m ≤ 0
  · rw [if_pos h, if_pos h, if_pos h]; exact refBelow_no k s i p m ao n c zs h0 h1 i0 i1 h w hz
  · rw [if_neg h, if_neg h, if_neg h]; exact refBelow_yes k s i p m ao n c zs h0 h1 i0 i1 (by omega) m1 w hz

set_option maxHeartbeats 1600000 in
set_option maxRecDepth 100000 in
theorem refFlip_any (k s i p : Int) (ao : Option Addr) (n c : Nat) (zs : List Int) (h0 : 0 ≤ s) (h1 : s ≤ 18446744073709551615) (i0 : 0 ≤ i) (i1 : i ≤ 18446744073709551615) (w : World) (hz : Row .u64 w ao n c zs) :
    Calls Try.prog 27 #[.agg #[.int .i64 k, .int .u64 s, .int .u64 i, .slice ao n c, .int .i64 p]] w fun e w' => e = .returned (.tuple #[.bool (decide (2147483648 ≤ drawv k s p zs)), .agg #[.int .i64 k, .int .u64 (statev k s i), .int .u64 i, .slice ao n c, .int .i64 (atv k p zs)]]) ∧ Below w.heap.size w w' := by
  have C := fun w hz => refNext_any k s i p ao n c zs h0 h1 i0 i1 w hz
  obtain ⟨d0, d1⟩ := drawv_bd (k := k) (p := p) zs h0 h1
  generalize drawv k s p zs = x at *
  generalize statev k s i = s' at *
  generalize atv k p zs = p' at *
  go_enter Try.func27, Try.ntmps27
  go_wp2_with fail
  refine (C _ (hz.below (by go_grown))).mono ?_
  rintro e w1 ⟨rfl, hw1⟩
  have g1 : Below w.heap.size w w1 := Below.call (by go_grown) (by simp; omega) hw1
  have S : At5 w1 w.heap.size (.int .i64 (k)) (.int .u64 (s)) (.int .u64 (i)) (.slice (ao) n c) (.int .i64 (p)) := At5.of hw1 (by constructor <;> simp [go_sem])
  have Z : At5 w1 (w.heap.size + 1) (.int .i64 0) (.int .u64 0) (.int .u64 0) (.slice none 0 0) (.int .i64 0) := At5.of hw1 (by constructor <;> simp [go_sem])
  clear hw1 hz
  obtain ⟨s0, s1, s2, s3, s4, sa, sb, sc, sd, se, sl⟩ := id S
  obtain ⟨z0, z1, z2, z3, z4, za, zb, zc, zd, ze, zl⟩ := id Z
  go_wp2
  refine wp_forget (fun W => At5 W w1.heap.size (.int .i64 (k)) (.int .u64 (s')) (.int .u64 (i)) (.slice (ao) n c) (.int .i64 (p')) ∧ At5 W (w.heap.size + 1) (.int .i64 0) (.int .u64 0) (.int .u64 0) (.slice none 0 0) (.int .i64 0) ∧ Below w.heap.size w W ∧ w1.heap.size ≠ w.heap.size + 1) ⟨At5.fresh _ _ _ _ _ _ _, Z.alloc _, by have := g1.size; go_grown, by omega⟩ ?_
  generalize w1.heap.size = q
  clear S Z s0 s1 s2 s3 s4 sa sb sc sd se sl z0 z1 z2 z3 z4 za zb zc zd ze zl g1
  rintro W ⟨S, Z, g1, hq⟩
  obtain ⟨s0, s1, s2, s3, s4, sa, sb, sc, sd, se, sl⟩ := id S
  obtain ⟨z0, z1, z2, z3, z4, za, zb, zc, zd, ze, zl⟩ := id Z
  obtain ⟨r0, r1, r2, r3, r4⟩ := Z.outs (.int .i64 (k)) (.int .u64 (s')) (.int .u64 (i)) (.slice (ao) n c) (.int .i64 (p'))
  go_region
  all_goals go_wp2
  all_goals exact bodyPost_ret (v := .tuple #[.bool (decide (2147483648 ≤ x)), .agg #[.int .i64 k, .int .u64 s', .int .u64 i, .slice ao n c, .int .i64 p']]) (by simp [results, Try.results27, go_sem, r0, r1, r2, r3, r4]) rfl ⟨rfl, by go_grown⟩

end Go.Proofs.Ytcaledobieopjaa
