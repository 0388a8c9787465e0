/-
  RootMean: for any two numbers the mean is between both, the same the other way round, and of a number and itself it is that. No conditions.
-/
import Derived.Test.YtjofnopidfohhaaE3
import Derived.Test.YtjofnopidfohhaaRows
import Derived.WalkKit
import Derived.ProofKit
import Derived.OpenShut
import Derived.ChangeOld
import Derived.Below
import Derived.Lib.SmallJoins
namespace Go.Proofs.Ytjofnopidfohhaa
open Go.RowKit
set_option linter.unusedVariables false
attribute [local go_sem] Later.cell Later.frozen

theorem mean_facts {x y : Int} (hx0 : 0 ≤ x) (hx1 : x ≤ 18446744073709551615) (hy0 : 0 ≤ y) (hy1 : y ≤ 18446744073709551615) :
    min x y ≤ sqrtv (x * y) ∧ sqrtv (x * y) ≤ max x y ∧ sqrtv (y * x) = sqrtv (x * y) ∧ sqrtv (x * x) = x := by
  have hw := mul_lt hx0 hx1 hy0 hy1
  obtain ⟨r0, r1, r2⟩ := sqrtv_spec hw
  have lo : min x y * min x y ≤ x * y := by
    rcases Int.le_total x y with h | h
    · rw [Int.min_eq_left h]; exact Int.mul_le_mul_of_nonneg_left h hx0
    · rw [Int.min_eq_right h]; exact Int.mul_le_mul_of_nonneg_right h hy0
  have hi : x * y ≤ max x y * max x y := by
    rcases Int.le_total x y with h | h
    · rw [Int.max_eq_right h]; exact Int.mul_le_mul_of_nonneg_right h hy0
    · rw [Int.max_eq_left h]; exact Int.mul_le_mul_of_nonneg_left h hx0
  have a1 := sq_lt_of (s := min x y) (t := sqrtv (x * y) + 1) (by omega) (by omega)
  have e : x < (x + 1) := by omega
  have a2 := sq_lt_of (s := sqrtv (x * y)) (t := max x y + 1) (by omega) (by have := sq_le (s := max x y) (t := max x y + 1) (by omega) (by omega); have : max x y * max x y < (max x y + 1) * (max x y + 1) := (by rw [Int.add_mul, Int.mul_add]; omega); omega)
  refine ⟨by omega, by omega, by rw [Int.mul_comm], sqrtv_of (mul_lt hx0 hx1 hx0 hx1) hx0 (by omega) (by rw [Int.add_mul, Int.mul_add]; omega)⟩
theorem mean_same (x : Int) (hx0 : 0 ≤ x) (hx1 : x ≤ 18446744073709551615) (w : World) : Calls Try.prog 16 #[.int .u64 x, .int .u64 x] w fun e w' => e = .returned (.int .u64 x) ∧ Below w.heap.size w w' := by
  have := mean_any x x hx0 hx1 hx0 hx1 w
  rwa [(mean_facts hx0 hx1 hx0 hx1).2.2.2] at this
theorem mean_turned (x y : Int) (hx0 : 0 ≤ x) (hx1 : x ≤ 18446744073709551615) (hy0 : 0 ≤ y) (hy1 : y ≤ 18446744073709551615) (w : World) : Calls Try.prog 16 #[.int .u64 y, .int .u64 x] w fun e w' => e = .returned (.int .u64 (sqrtv (x * y))) ∧ Below w.heap.size w w' := by
  have := mean_any y x hy0 hy1 hx0 hx1 w
  rwa [Int.mul_comm] at this

set_option maxHeartbeats 2000000 in
set_option maxRecDepth 100000 in
theorem walk_mean (x y : Int) (hx0 : 0 ≤ x) (hx1 : x ≤ 18446744073709551615) (hy0 : 0 ≤ y) (hy1 : y ≤ 18446744073709551615) (w : World) : Calls Try.prog 6 #[.int .u64 x, .int .u64 y] w fun e w' => e = .returned (.bool true) ∧ Below w.heap.size w w' := by
  obtain ⟨f1, f2, f3, f4⟩ := mean_facts hx0 hx1 hy0 hy1
  obtain ⟨q0, q1⟩ := sqrtv_64 (mul_lt hx0 hx1 hy0 hy1)
  have M := fun w => mean_any x y hx0 hx1 hy0 hy1 w
  have T := fun w => mean_turned x y hx0 hx1 hy0 hy1 w
  have S := fun w => mean_same x hx0 hx1 w
  clear f3 f4
  generalize sqrtv (x * y) = m at *
  rcases Int.lt_trichotomy x y with hxy | hxy | hxy
  · have g1 : x ≤ m := by omega
    have g2 : m ≤ y := by omega
    clear f1 f2
    go_enter Try.func6, Try.ntmps6
    go_wp2_with fail
    refine (M _).mono ?_
    rintro e w1 ⟨rfl, hw1⟩
    go_wp2_with fail
    refine (rooted_any _).mono ?_
    rintro e w2 ⟨rfl, hw2⟩
    have b2 := Below.call hw1 hw1.size hw2
    go_wp2_with fail
    refine (T _).mono ?_
    rintro e w3 ⟨rfl, hw3⟩
    have b3 := Below.call b2 b2.size hw3
    go_wp2_with fail
    refine (S _).mono ?_
    rintro e w4 ⟨rfl, hw4⟩
    have b4 := Below.call b3 b3.size hw4
    go_wp2
    go_ret
    exact ⟨rfl, b4⟩
  · subst hxy
    obtain rfl : m = x := by omega
    clear f1 f2
    go_enter Try.func6, Try.ntmps6
    go_wp2_with fail
    refine (M _).mono ?_
    rintro e w1 ⟨rfl, hw1⟩
    go_wp2_with fail
    refine (rooted_any _).mono ?_
    rintro e w2 ⟨rfl, hw2⟩
    have b2 := Below.call hw1 hw1.size hw2
    go_wp2_with fail
    refine (T _).mono ?_
    rintro e w3 ⟨rfl, hw3⟩
    have b3 := Below.call b2 b2.size hw3
    go_wp2_with fail
    refine (S _).mono ?_
    rintro e w4 ⟨rfl, hw4⟩
    have b4 := Below.call b3 b3.size hw4
    go_wp2
    go_ret
    exact ⟨rfl, b4⟩
  · have g1 : y ≤ m := by omega
    have g2 : m ≤ x := by omega
    clear f1 f2
    go_enter Try.func6, Try.ntmps6
    go_wp2_with fail
    refine (M _).mono ?_
    rintro e w1 ⟨rfl, hw1⟩
    go_wp2_with fail
    refine (rooted_any _).mono ?_
    rintro e w2 ⟨rfl, hw2⟩
    have b2 := Below.call hw1 hw1.size hw2
    go_wp2_with fail
    refine (T _).mono ?_
    rintro e w3 ⟨rfl, hw3⟩
    have b3 := Below.call b2 b2.size hw3
    go_wp2_with fail
    refine (S _).mono ?_
    rintro e w4 ⟨rfl, hw4⟩
    have b4 := Below.call b3 b3.size hw4
    go_wp2
    go_ret
    exact ⟨rfl, b4⟩
end Go.Proofs.Ytjofnopidfohhaa
namespace Go.Proofs.Ytjofnopidfohhaa.rootMean
open Go.ChangeShapes Go.WideShapes Go.ChangeAt Go.RowKit Go.Joins
set_option linter.unusedVariables false

theorem own : ownKnob Try.prog.godebug = none := by kernel_rfl
theorem laidOut : laidOutB Try.prog = true := by kernel_rfl
theorem word_of {x : Int} (h : (Lit.int .u64 x).wf = true) : 0 ≤ x ∧ x ≤ 18446744073709551615 := by
  simp [Lit.wf, IntKind.min, IntKind.max, IntKind.signed, IntKind.bits] at h
  exact ⟨by omega, by omega⟩
theorem int_of {x : Int} (h : (Lit.int .i64 x).wf = true) : -9223372036854775808 ≤ x ∧ x ≤ 9223372036854775807 := by
  simp [Lit.wf, IntKind.min, IntKind.max, IntKind.signed, IntKind.bits] at h
  exact ⟨by omega, by omega⟩

set_option maxRecDepth 100000 in
theorem lifted (os : Os) (started : os.Started) (H : Type) (enc : TypeId × Value → H) :
    ReturnsInHanded {} Try.checked os 6 .any (Rows.rootMeanSpec.pre6 enc Try.prog Try.f6 Rows.rootMeanRow.domain false) (Rows.rootMeanSpec.post enc Try.prog Try.f6 false true false false) := by
  refine returnsInHanded_of_change (C := Try.checked) own started (by kernel_rfl) Try.func6
    (ChangeSpec.witness6 (enc := enc) (C := Try.checked) false ⟨#[], #[.int .u64 0, .int .u64 0], []⟩ 8 (by kernel_rfl) (by kernel_rfl) (by kernel_rfl) (by kernel_rfl)) ?_
  intro W base args ds gs before hval0 hW hcnd _
  have hval : ∀ (j : Nat) t v, Try.f6.params[j]? = some t → args[j]? = some v → Value.okWide Try.prog W .any base t v := hval0
  have hW' := hW
  obtain ⟨p, q, hA0, hV, rfl, hfz, hnd⟩ := hW
  have hA : DataW.TrodAll enc Try.prog W 0 (fun _ => true) true Try.f6.params.toList args.toList ds p := hA0
  rw [Try.params6] at hA hval
  obtain ⟨v0, vs0, d0, ds0, p0, q0, hargs, rfl, rfl, h0, r0⟩ := trodAll_cons hA
  obtain ⟨v1, vs1, d1, ds1, p1, q1, rfl, rfl, rfl, h1, r1⟩ := trodAll_cons r0
  obtain ⟨rfl, rfl, rfl⟩ := trodAll_nil r1
  obtain rfl : args = #[v0, v1] := by cases args; simp_all
  obtain ⟨rfl, rfl⟩ := trodVars_none hV
  obtain ⟨a0, rfl, rfl, rfl, w0⟩ := open_int Try.underlying22 (hval 0 22 v0 rfl rfl) h0
  obtain ⟨a1, rfl, rfl, rfl, w1⟩ := open_int Try.underlying22 (hval 1 22 v1 rfl rfl) h1
  clear hA0 hval0
  refine (walk_mean a0 a1 (word_of w0).1 (word_of w0).2 (word_of w1).1 (word_of w1).2 W).mono fun e W' ⟨he, bel⟩ => ?_
  subst he
  exact ⟨_, rfl, _, _, _, [], _, [], hW', trodAll_mk1 (shut_bool Try.underlying4 _), (trodAll_cons_mk (shut_int Try.underlying22 w0) (trodAll_cons_mk (shut_int Try.underlying22 w1) trodAll_mk0)), rfl, bel.frame _, fun h => by cases h⟩

theorem over : Rows.rootMeanRow.holds Try.pinned (OpenSpec.ofChange Rows.rootMeanSpec) :=
  OpenClaim.holds_of_wide 6 Try.f6 rfl rfl rfl rfl rfl rfl rfl ⟨rfl, rfl, rfl, rfl, rfl⟩ rfl rfl rfl rfl rfl (by kernel_rfl) Try.func6 (by kernel_rfl)
    (of_decide_eq_true (by kernel_rfl)) (by unfold Func.isWrapper; first | (rw [if_pos (by decide +kernel)]; kernel_rfl) | (rw [if_neg (by decide +kernel)]; exact ⟨rfl, rfl⟩))
    (fun os started H enc _ => lifted os started H enc)
theorem proved : Rows.RootMeanSaid := over
#print axioms proved
end Go.Proofs.Ytjofnopidfohhaa.rootMean
