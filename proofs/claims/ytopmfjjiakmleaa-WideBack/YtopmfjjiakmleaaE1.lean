/-
  The document's rows of layer 1, as the statements ask them first: they hold. No conditions.
-/
import Derived.Test.YtopmfjjiakmleaaD1
import Derived.Test.YtopmfjjiakmleaaD2
import Derived.Test.YtopmfjjiakmleaaD3
import Derived.Test.YtopmfjjiakmleaaD4
import Derived.Test.YtopmfjjiakmleaaD7
namespace Go.Proofs.Ytopmfjjiakmleaa
open Go.RowKit
set_option linter.unusedVariables false
attribute [local go_sem] Later.cell Later.frozen

/-- The world at hand, but for what is said of it, is forgotten. -/
theorem wp_forget {P : Program} {c : Code} {Q : Exit → Act → World → Prop} {a : Act} {w : World} (R : World → Prop) (hw : R w) (h : ∀ w', R w' → Code.wp P c Q a w') : Code.wp P c Q a w := h w hw

theorem row_div (w : World) : Calls Try.prog 16 #[.agg #[.int .u64 3, .int .u64 1], .int .u64 6] w fun e w' =>
    e = .returned (.tuple #[.agg #[.int .u64 0, .int .u64 9223372036854775808], .int .u64 1, .int .i64 0]) ∧ Below w.heap.size w w' := by
  have := div_any 55340232221128654849 6 ⟨by omega, by omega⟩ (by omega) (by omega) w
  exact this
theorem row_div0 (w : World) : Calls Try.prog 16 #[.agg #[.int .u64 0, .int .u64 1], .int .u64 0] w fun e w' =>
    e = .returned (.tuple #[.agg #[.int .u64 0, .int .u64 0], .int .u64 0, .int .i64 1]) ∧ Below w.heap.size w w' := by
  have := div_0 1 ⟨by omega, by omega⟩ w
  exact this
theorem row_sub (w : World) : Calls Try.prog 11 #[.agg #[.int .u64 0, .int .u64 0], .agg #[.int .u64 0, .int .u64 1]] w fun e w' =>
    e = .returned (.tuple #[.agg #[.int .u64 18446744073709551615, .int .u64 18446744073709551615], .int .u64 1]) ∧ Below w.heap.size w w' := by
  have := sub_any 0 1 ⟨by omega, by omega⟩ ⟨by omega, by omega⟩ w
  exact this
theorem row_mul (w : World) : Calls Try.prog 18 #[.int .u64 9223372036854775808, .int .u64 6] w fun e w' =>
    e = .returned (.agg #[.int .u64 3, .int .u64 0]) ∧ Below w.heap.size w w' := by
  have := mul_any 9223372036854775808 6 (by omega) (by omega) (by omega) (by omega) w
  exact this
theorem row_len (w : World) : Calls Try.prog 24 #[.agg #[.int .u64 18446744073709551615, .int .u64 18446744073709551615]] w fun e w' =>
    e = .returned (.int .i64 128) ∧ Below w.heap.size w w' := by
  have := len_any 340282366920938463463374607431768211455 ⟨by omega, by omega⟩ w
  have e : lenv 340282366920938463463374607431768211455 = 128 := by
    have := lenv_of (a := 340282366920938463463374607431768211455) (k := 127) (by omega) (by decide +kernel) (by decide +kernel)
    simpa using this
  rw [e] at this
  exact this

set_option maxHeartbeats 2000000 in
set_option maxRecDepth 100000 in
theorem broad_any (w : World) : Calls Try.prog 13 #[] w fun e w' => e = .returned (.bool true) ∧ Below w.heap.size w w' := by
  go_enter Try.func13, Try.ntmps13
  go_wp2_with fail
  refine (row_div _).mono ?_
  rintro e w1 ⟨rfl, hw1⟩
  go_wp2_with fail
  refine (row_sub _).mono ?_
  rintro e w2 ⟨rfl, hw2⟩
  go_wp2_with fail
  refine (row_div0 _).mono ?_
  rintro e w3 ⟨rfl, hw3⟩
  have s1 := hw1.size
  have s2 := hw2.size
  have s3 := hw3.size
  simp only [World.size_alloc] at s2 s3
  have A1 : At2 w3 w1.heap.size (.int .u64 0) (.int .u64 9223372036854775808) :=
    (At2.below (At2.alloc (At2.after_fresh' hw2) _) hw3 (by simp; omega))
  have A2 : At2 w3 w2.heap.size (.int .u64 18446744073709551615) (.int .u64 18446744073709551615) := At2.after_fresh' hw3
  have hb3 : Below w.heap.size w w3 := by
    refine Below.call (X := (w2.alloc _)) ?_ (by simp; omega) hw3
    refine Below.alloc ?_ (by omega) _
    refine Below.call (X := (w1.alloc _)) ?_ (by simp; omega) hw2
    exact Below.alloc hw1 (by omega) _
  go_upto_region 5 with fail
  refine wp_forget (fun W => At2 W w1.heap.size (.int .u64 0) (.int .u64 9223372036854775808) ∧ At2 W w2.heap.size (.int .u64 18446744073709551615) (.int .u64 18446744073709551615) ∧
    At2 W (w3.heap.size + 1) (.int .u64 18446744073709551615) (.int .u64 18446744073709551615) ∧ Below w.heap.size w W) ⟨(A1.alloc _).alloc _, (A2.alloc _).alloc _, ?_, by go_grown⟩ ?_
  · constructor <;> simp [go_sem]
  rintro W ⟨B1, B2, B3, hb⟩
  clear A1 A2 hb3 hw1 hw2 hw3 s1 s2 s3
  obtain ⟨x0, x1, x2, x3, x4⟩ := id B1
  obtain ⟨y0, y1, y2, y3, y4⟩ := id B2
  obtain ⟨z0, z1, z2, z3, z4⟩ := id B3
  go_wp2_with fail
  refine (row_mul _).mono ?_
  rintro e w5 ⟨rfl, hw5⟩
  replace B1 := B1.below hw5 B1.lt
  replace B2 := B2.below hw5 B2.lt
  replace B3 := B3.below hw5 B3.lt
  replace hb := Below.call hb hb.size hw5
  clear x0 x1 x2 x3 x4 y0 y1 y2 y3 y4 z0 z1 z2 z3 z4 hw5
  obtain ⟨x0, x1, x2, x3, x4⟩ := id B1
  obtain ⟨y0, y1, y2, y3, y4⟩ := id B2
  obtain ⟨z0, z1, z2, z3, z4⟩ := id B3
  go_wp2_with fail
  refine (row_len _).mono ?_
  rintro e w6 ⟨rfl, hw6⟩
  go_wp2
  go_ret
  exact ⟨rfl, Below.call hb hb.size hw6⟩
end Go.Proofs.Ytopmfjjiakmleaa
