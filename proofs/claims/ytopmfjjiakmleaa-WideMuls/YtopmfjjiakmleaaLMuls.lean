/-
  WideMuls: for any number and two of 64 bits the program's product, quotient, rest and refusal are the document's. No conditions.
-/
import Derived.Test.YtopmfjjiakmleaaE1
import Derived.Test.YtopmfjjiakmleaaC5
import Derived.Test.YtopmfjjiakmleaaRows
import Derived.WalkKit
import Derived.ProofKit
import Derived.OpenShut
import Derived.ChangeOld
import Derived.Below
import Derived.Lib.SmallJoins
namespace Go.Proofs.Ytopmfjjiakmleaa
open Go.RowKit
set_option linter.unusedVariables false
attribute [local go_sem] Later.cell Later.frozen

set_option maxHeartbeats 4000000 in
set_option maxRecDepth 100000 in
theorem walk_muls0 (a y : Int) (ha : W128 a) (hy0 : 0 ≤ y) (hy1 : y ≤ 18446744073709551615) (w : World) : Calls Try.prog 4 #[.agg #[.int .u64 (hiw a), .int .u64 (low a)], .int .u64 0, .int .u64 y] w fun e w' => e = .returned (.bool true) ∧ Below w.heap.size w w' := by
  go_enter Try.func4, Try.ntmps4
  go_wp2_with fail
  refine (div_0 a ha _).mono ?_
  rintro e w1 ⟨rfl, hw1⟩
  have A : At2 w1 w.heap.size (.int .u64 (hiw a)) (.int .u64 (low a)) := At2.below (by constructor <;> simp [go_sem]) hw1 (by simp <;> omega)
  have hb : Below w.heap.size w w1 := Below.call (by go_grown) (by simp <;> omega) hw1
  clear hw1
  obtain ⟨zA0, zA1, zA2, zA3, zA4⟩ := id A
  go_wp2_with fail
  refine (refDiv_0 a ha _).mono ?_
  rintro e w2 ⟨rfl, hw2⟩
  replace A := (A.alloc _).below hw2 (by have := A.lt; simp <;> omega)
  have Q : At2 w2 w1.heap.size (.int .u64 0) (.int .u64 0) := At2.after_fresh' hw2
  replace hb := Below.call (show Below w.heap.size w _ by go_grown) (by have := hb.size; simp <;> omega) hw2
  clear hw2 zA0 zA1 zA2 zA3 zA4
  obtain ⟨zA0, zA1, zA2, zA3, zA4⟩ := id A
  obtain ⟨zQ0, zQ1, zQ2, zQ3, zQ4⟩ := id Q
  go_wp2_with fail
  refine (broad_any _).mono ?_
  rintro e w3 ⟨rfl, hw3⟩
  replace A := (A.alloc _).below hw3 (by have := A.lt; simp <;> omega)
  replace Q := (Q.alloc _).below hw3 (by have := Q.lt; simp <;> omega)
  have S : At2 w3 w2.heap.size (.int .u64 0) (.int .u64 0) := At2.after_fresh' hw3
  replace hb := Below.call (show Below w.heap.size w _ by go_grown) (by have := hb.size; simp <;> omega) hw3
  clear hw3 zA0 zA1 zA2 zA3 zA4 zQ0 zQ1 zQ2 zQ3 zQ4
  obtain ⟨zA0, zA1, zA2, zA3, zA4⟩ := id A
  obtain ⟨zQ0, zQ1, zQ2, zQ3, zQ4⟩ := id Q
  obtain ⟨zS0, zS1, zS2, zS3, zS4⟩ := id S
  go_wp2_with fail
  refine (mul_any 0 y (by omega) (by omega) hy0 hy1 _).mono ?_
  rintro e w4 ⟨rfl, hw4⟩
  replace A := A.below hw4 A.lt
  replace Q := Q.below hw4 Q.lt
  replace S := S.below hw4 S.lt
  replace hb := Below.call hb hb.size hw4
  clear hw4 zA0 zA1 zA2 zA3 zA4 zQ0 zQ1 zQ2 zQ3 zQ4 zS0 zS1 zS2 zS3 zS4
  obtain ⟨zA0, zA1, zA2, zA3, zA4⟩ := id A
  obtain ⟨zQ0, zQ1, zQ2, zQ3, zQ4⟩ := id Q
  obtain ⟨zS0, zS1, zS2, zS3, zS4⟩ := id S
  go_wp2_with fail
  refine (refMul_any 0 y (by omega) (by omega) hy0 hy1 _).mono ?_
  rintro e w5 ⟨rfl, hw5⟩
  replace A := A.below hw5 A.lt
  replace Q := Q.below hw5 Q.lt
  replace S := S.below hw5 S.lt
  replace hb := Below.call hb hb.size hw5
  clear hw5 zA0 zA1 zA2 zA3 zA4 zQ0 zQ1 zQ2 zQ3 zQ4 zS0 zS1 zS2 zS3 zS4
  obtain ⟨zA0, zA1, zA2, zA3, zA4⟩ := id A
  obtain ⟨zQ0, zQ1, zQ2, zQ3, zQ4⟩ := id Q
  obtain ⟨zS0, zS1, zS2, zS3, zS4⟩ := id S
  go_wp2
  go_ret
  exact ⟨rfl, hb⟩
set_option maxHeartbeats 4000000 in
set_option maxRecDepth 100000 in
theorem walk_muls1 (a x y : Int) (ha : W128 a) (hpos : 0 < x) (hx1 : x ≤ 18446744073709551615) (hy0 : 0 ≤ y) (hy1 : y ≤ 18446744073709551615) (w : World) : Calls Try.prog 4 #[.agg #[.int .u64 (hiw a), .int .u64 (low a)], .int .u64 x, .int .u64 y] w fun e w' => e = .returned (.bool true) ∧ Below w.heap.size w w' := by
  have hx0 : 0 ≤ x := by omega
  go_enter Try.func4, Try.ntmps4
  go_wp2_with fail
  refine (div_any a x ha hpos hx1 _).mono ?_
  rintro e w1 ⟨rfl, hw1⟩
  have A : At2 w1 w.heap.size (.int .u64 (hiw a)) (.int .u64 (low a)) := At2.below (by constructor <;> simp [go_sem]) hw1 (by simp <;> omega)
  have hb : Below w.heap.size w w1 := Below.call (by go_grown) (by simp <;> omega) hw1
  clear hw1
  obtain ⟨zA0, zA1, zA2, zA3, zA4⟩ := id A
  go_wp2_with fail
  refine (refDiv_any a x ha hpos hx1 _).mono ?_
  rintro e w2 ⟨rfl, hw2⟩
  replace A := (A.alloc _).below hw2 (by have := A.lt; simp <;> omega)
  have Q : At2 w2 w1.heap.size (.int .u64 (hiw (a / x))) (.int .u64 (low (a / x))) := At2.after_fresh' hw2
  replace hb := Below.call (show Below w.heap.size w _ by go_grown) (by have := hb.size; simp <;> omega) hw2
  clear hw2 zA0 zA1 zA2 zA3 zA4
  obtain ⟨zA0, zA1, zA2, zA3, zA4⟩ := id A
  obtain ⟨zQ0, zQ1, zQ2, zQ3, zQ4⟩ := id Q
  go_wp2_with fail
  refine (broad_any _).mono ?_
  rintro e w3 ⟨rfl, hw3⟩
  replace A := (A.alloc _).below hw3 (by have := A.lt; simp <;> omega)
  replace Q := (Q.alloc _).below hw3 (by have := Q.lt; simp <;> omega)
  have S : At2 w3 w2.heap.size (.int .u64 (hiw (a / x))) (.int .u64 (low (a / x))) := At2.after_fresh' hw3
  replace hb := Below.call (show Below w.heap.size w _ by go_grown) (by have := hb.size; simp <;> omega) hw3
  clear hw3 zA0 zA1 zA2 zA3 zA4 zQ0 zQ1 zQ2 zQ3 zQ4
  obtain ⟨zA0, zA1, zA2, zA3, zA4⟩ := id A
  obtain ⟨zQ0, zQ1, zQ2, zQ3, zQ4⟩ := id Q
  obtain ⟨zS0, zS1, zS2, zS3, zS4⟩ := id S
  go_wp2_with fail
  refine (mul_any x y hx0 hx1 hy0 hy1 _).mono ?_
  rintro e w4 ⟨rfl, hw4⟩
  replace A := A.below hw4 A.lt
  replace Q := Q.below hw4 Q.lt
  replace S := S.below hw4 S.lt
  replace hb := Below.call hb hb.size hw4
  clear hw4 zA0 zA1 zA2 zA3 zA4 zQ0 zQ1 zQ2 zQ3 zQ4 zS0 zS1 zS2 zS3 zS4
  obtain ⟨zA0, zA1, zA2, zA3, zA4⟩ := id A
  obtain ⟨zQ0, zQ1, zQ2, zQ3, zQ4⟩ := id Q
  obtain ⟨zS0, zS1, zS2, zS3, zS4⟩ := id S
  go_wp2_with fail
  refine (refMul_any x y hx0 hx1 hy0 hy1 _).mono ?_
  rintro e w5 ⟨rfl, hw5⟩
  replace A := A.below hw5 A.lt
  replace Q := Q.below hw5 Q.lt
  replace S := S.below hw5 S.lt
  replace hb := Below.call hb hb.size hw5
  clear hw5 zA0 zA1 zA2 zA3 zA4 zQ0 zQ1 zQ2 zQ3 zQ4 zS0 zS1 zS2 zS3 zS4
  obtain ⟨zA0, zA1, zA2, zA3, zA4⟩ := id A
  obtain ⟨zQ0, zQ1, zQ2, zQ3, zQ4⟩ := id Q
  obtain ⟨zS0, zS1, zS2, zS3, zS4⟩ := id S
  go_wp2
  go_ret
  exact ⟨rfl, hb⟩
theorem walk_muls (a x y : Int) (ha : W128 a) (hx0 : 0 ≤ x) (hx1 : x ≤ 18446744073709551615) (hy0 : 0 ≤ y) (hy1 : y ≤ 18446744073709551615) (w : World) : Calls Try.prog 4 #[.agg #[.int .u64 (hiw a), .int .u64 (low a)], .int .u64 x, .int .u64 y] w fun e w' => e = .returned (.bool true) ∧ Below w.heap.size w w' := by
  by_cases h : x = 0
  · subst h; exact walk_muls0 a y ha hy0 hy1 w
  · exact walk_muls1 a x y ha (by omega) hx1 hy0 hy1 w
end Go.Proofs.Ytopmfjjiakmleaa
namespace Go.Proofs.Ytopmfjjiakmleaa.wideMuls
open Go.ChangeShapes Go.WideShapes Go.ChangeAt Go.RowKit Go.Joins
set_option linter.unusedVariables false

theorem own : ownKnob Try.prog.godebug = none := by kernel_rfl
theorem laidOut : laidOutB Try.prog = true := by kernel_rfl
theorem cells24 : Try.prog.cellsOf 24 = 2 := by kernel_rfl
theorem word_of {x : Int} (h : (Lit.int .u64 x).wf = true) : 0 ≤ x ∧ x ≤ 18446744073709551615 := by
  simp [Lit.wf, IntKind.min, IntKind.max, IntKind.signed, IntKind.bits] at h
  exact ⟨by omega, by omega⟩
theorem int_of {x : Int} (h : (Lit.int .i64 x).wf = true) : -9223372036854775808 ≤ x ∧ x ≤ 9223372036854775807 := by
  simp [Lit.wf, IntKind.min, IntKind.max, IntKind.signed, IntKind.bits] at h
  exact ⟨by omega, by omega⟩

set_option maxRecDepth 100000 in
theorem lifted (os : Os) (started : os.Started) (H : Type) (enc : TypeId × Value → H) :
    ReturnsInHanded {} Try.checked os 4 .any (Rows.wideMulsSpec.pre6 enc Try.prog Try.f4 Rows.wideMulsRow.domain false) (Rows.wideMulsSpec.post enc Try.prog Try.f4 false true false false) := by
  refine returnsInHanded_of_change (C := Try.checked) own started (by kernel_rfl) Try.func4
    (ChangeSpec.witness6 (enc := enc) (C := Try.checked) false ⟨#[], #[.agg #[.int .u64 0, .int .u64 0], .int .u64 0, .int .u64 0], []⟩ 8 (by kernel_rfl) (by kernel_rfl) (by kernel_rfl) (by kernel_rfl)) ?_
  intro W base args ds gs before hval0 hW hcnd _
  have hval : ∀ (j : Nat) t v, Try.f4.params[j]? = some t → args[j]? = some v → Value.okWide Try.prog W .any base t v := hval0
  have hW' := hW
  obtain ⟨p, q, hA0, hV, rfl, hfz, hnd⟩ := hW
  have hA : DataW.TrodAll enc Try.prog W 0 (fun _ => true) true Try.f4.params.toList args.toList ds p := hA0
  rw [Try.params4] at hA hval
  obtain ⟨v0, vs0, d0, ds0, p0, q0, hargs, rfl, rfl, h0, r0⟩ := trodAll_cons hA
  obtain ⟨v1, vs1, d1, ds1, p1, q1, rfl, rfl, rfl, h1, r1⟩ := trodAll_cons r0
  obtain ⟨v2, vs2, d2, ds2, p2, q2, rfl, rfl, rfl, h2, r2⟩ := trodAll_cons r1
  obtain ⟨rfl, rfl, rfl⟩ := trodAll_nil r2
  obtain rfl : args = #[v0, v1, v2] := by cases args; simp_all
  obtain ⟨rfl, rfl⟩ := trodVars_none hV
  have k0 := h0
  have lt0 : ∀ x ∈ p0, x.block < W.heap.size := by obtain ⟨m, hm⟩ := k0; exact DataW.trod_lt m _ _ _ hm
  obtain ⟨c0a, c0b, y0a, y0b, m0, rfl, rfl, rfl, hy0a, hy0b⟩ := open_agg2 Try.underlying24 (by kernel_rfl) cells24 (hval 0 24 v0 rfl rfl) h0
  obtain ⟨x0a, e0a, rfl, w0a⟩ := DataW.trod_int Try.underlying22 hy0a
  obtain ⟨x0b, e0b, rfl, w0b⟩ := DataW.trod_int Try.underlying22 hy0b
  simp at e0a e0b
  subst e0a e0b
  obtain ⟨a0, W0, ra0, rb0⟩ := wide_of x0a x0b (word_of w0a).1 (word_of w0a).2 (word_of w0b).1 (word_of w0b).2
  subst ra0 rb0
  obtain ⟨a1, rfl, rfl, rfl, w1⟩ := open_int Try.underlying22 (hval 1 22 v1 rfl rfl) h1
  obtain ⟨a2, rfl, rfl, rfl, w2⟩ := open_int Try.underlying22 (hval 2 22 v2 rfl rfl) h2
  clear hA0 hval0
  refine (walk_muls a0 a1 a2 W0 (word_of w1).1 (word_of w1).2 (word_of w2).1 (word_of w2).2 W).mono fun e W' ⟨he, bel⟩ => ?_
  subst he
  exact ⟨_, rfl, _, _, _, [], _, [], hW', trodAll_mk1 (shut_bool Try.underlying4 _), (trodAll_cons_mk (Below.trod laidOut (by kernel_rfl) (of_decide_eq_true (by kernel_rfl)) k0 bel lt0) (trodAll_cons_mk (shut_int Try.underlying22 w1) (trodAll_cons_mk (shut_int Try.underlying22 w2) trodAll_mk0))), rfl, bel.frame _, fun h => by cases h⟩

theorem over : Rows.wideMulsRow.holds Try.pinned (OpenSpec.ofChange Rows.wideMulsSpec) :=
  OpenClaim.holds_of_wide 4 Try.f4 rfl rfl rfl rfl rfl rfl rfl ⟨rfl, rfl, rfl, rfl, rfl⟩ rfl rfl rfl rfl rfl (by kernel_rfl) Try.func4 (by kernel_rfl)
    (of_decide_eq_true (by kernel_rfl)) (by unfold Func.isWrapper; first | (rw [if_pos (by decide +kernel)]; kernel_rfl) | (rw [if_neg (by decide +kernel)]; exact ⟨rfl, rfl⟩))
    (fun os started H enc _ => lifted os started H enc)
theorem proved : Rows.WideMulsSaid := over
#print axioms proved
end Go.Proofs.Ytopmfjjiakmleaa.wideMuls
