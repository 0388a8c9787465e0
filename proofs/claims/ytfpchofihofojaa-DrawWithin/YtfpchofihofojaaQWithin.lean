/-
  DrawWithin: for any source and numbers, a draw is 0 to 4294967295, one below a number is, and one between two is not beyond them. No conditions.
-/
import Derived.Test.YtfpchofihofojaaQ12
import Derived.Test.YtfpchofihofojaaOS
import Derived.Test.YtfpchofihofojaaRows
import Derived.WalkKit
import Derived.ProofKit
import Derived.OpenShut
import Derived.ChangeOld
import Derived.Below
import Derived.Lib.SmallJoins
namespace Go.Proofs.Ytfpchofihofojaa
open Go.RowKit
set_option linter.unusedVariables false
theorem within_facts {k s p m l u : Int} (zs : List Int) (h0 : 0 ≤ s) (h1 : s ≤ 18446744073709551615) :
    0 ≤ drawv k s p zs ∧ drawv k s p zs ≤ 4294967295 ∧ 0 ≤ belowv k s p zs m ∧ belowv k s p zs m ≤ drawv k s p zs ∧ (0 < m → belowv k s p zs m < m) ∧ l ≤ betweenv k s p zs l u ∧ (l ≤ u → betweenv k s p zs l u ≤ u) := by
  have a := drawv_bd (k := k) (p := p) zs h0 h1
  have b := belowv_le (k := k) (p := p) (m := m) zs h0 h1
  have c := betweenv_bd (k := k) (p := p) (l := l) (u := u) zs h0 h1
  exact ⟨a.1, a.2, b.1, b.2, fun h => (belowv_bd zs h0 h1 h).2, c.1, c.2.1⟩
set_option maxHeartbeats 4000000 in
set_option maxRecDepth 100000 in
theorem walk_within (k s i p : Int) (ao : Option Addr) (n c : Nat) (zs : List Int) (m l u : Int) (h0 : 0 ≤ s) (h1 : s ≤ 18446744073709551615) (i0 : 0 ≤ i) (i1 : i ≤ 18446744073709551615) (k0 : -9223372036854775808 ≤ k) (k1 : k ≤ 9223372036854775807) (p0 : -9223372036854775808 ≤ p) (p1 : p ≤ 9223372036854775807)
    (m0 : -9223372036854775808 ≤ m) (m1 : m ≤ 9223372036854775807) (l0 : -9223372036854775808 ≤ l) (l1 : l ≤ 9223372036854775807) (u0 : -9223372036854775808 ≤ u) (u1 : u ≤ 9223372036854775807) (w : World) (hz : Row .u64 w ao n c zs) :
    Calls Try.prog 5 #[.agg #[.int .i64 k, .int .u64 s, .int .u64 i, .slice ao n c, .int .i64 p], .int .i64 m, .int .i64 l, .int .i64 u] w fun e w' => e = .returned (.bool true) ∧ Below w.heap.size w w' := by
  obtain ⟨f1, f2, f3, f4, f5, f6, f7⟩ := within_facts (k := k) (p := p) (m := m) (l := l) (u := u) zs h0 h1
  have A := fun w hz => next_any k s i p ao n c zs h0 h1 i0 i1 w hz
  have C := fun w hz => below_any k s i p m ao n c zs h0 h1 i0 i1 m1 w hz
  have D := fun w hz => between_any k s i p l u ao n c zs h0 h1 i0 i1 l0 l1 u0 u1 w hz
  generalize drawv k s p zs = x at *
  generalize belowv k s p zs m = y at *
  generalize betweenv k s p zs l u = z at *
  generalize statev k s i = sa' at *
  generalize atv k p zs = pa' at *
  generalize belowS k s i m = sb' at *
  generalize belowP k p zs m = pb' at *
  generalize betweenS k s i l u = sc' at *
  generalize betweenP k p zs l u = pc' at *
  have q1 : ¬ x < 0 := by omega
  have q2 : ¬ 4294967295 < x := by omega
  have q3 : ¬ y < 0 := by omega
  have q4 : ¬ x < y := by omega
  have q5 : ¬ z < l := by omega
  by_cases hm : 0 < m
  all_goals by_cases hl : l ≤ u
  all_goals
    try (have q6 : ¬ m ≤ y := by have := f5 hm; omega)
    try (have q7 : ¬ u < z := by have := f7 hl; omega)
    clear f5 f7
    go_enter Try.func5, Try.ntmps5
    go_wp2_with fail
    refine (A _ (hz.alloc _)).mono ?_
    rintro e w1 ⟨rfl, hw1⟩
    have g1 : Below w.heap.size w w1 := Below.call (by go_grown) (by simp) hw1
    have S : At5 w1 w.heap.size (.int .i64 k) (.int .u64 s) (.int .u64 i) (.slice ao n c) (.int .i64 p) := At5.of hw1 (by constructor <;> simp [go_sem])
    have R := (hz.alloc _).below hw1
    clear hw1 hz A
    obtain ⟨s0, s1, s2, s3, s4, sa, sb, sc, sd, se, sl⟩ := id S
    go_wp2_with fail
    refine (C _ (R.alloc _)).mono ?_
    rintro e w2 ⟨rfl, hw2⟩
    have g2 : Below w.heap.size w w2 := Below.call (by have := g1.size; go_grown) (by have := g1.size; simp; omega) hw2
    have S' := At5.of hw2 (S.alloc _)
    have T : At5 w2 w1.heap.size (.int .i64 k) (.int .u64 sa') (.int .u64 i) (.slice ao n c) (.int .i64 pa') := At5.of hw2 (At5.fresh _ _ _ _ _ _ _)
    have R' := (R.alloc _).below hw2
    clear hw2 R C S s0 s1 s2 s3 s4 sa sb sc sd se sl
    obtain ⟨s0, s1, s2, s3, s4, sa, sb, sc, sd, se, sl⟩ := id S'
    go_wp2_with fail
    refine (D _ (R'.alloc _)).mono ?_
    rintro e w3 ⟨rfl, hw3⟩
    have g3 : Below w.heap.size w w3 := Below.call (by have := g2.size; go_grown) (by have := g2.size; simp; omega) hw3
    have S := At5.of hw3 (S'.alloc _)
    have T' := At5.of hw3 (T.alloc _)
    clear hw3 R' D S' T s0 s1 s2 s3 s4 sa sb sc sd se sl g1 g2
    obtain ⟨s0, s1, s2, s3, s4, sa, sb, sc, sd, se, sl⟩ := id S
    go_wp2_with fail
    refine (drawn_any _).mono ?_
    rintro e w4 ⟨rfl, hw4⟩
    have g4 : Below w.heap.size w w4 := Below.call (by have := g3.size; go_grown) (by have := g3.size; simp; omega) hw4
    have S' := At5.of hw4 (S.alloc _)
    have T := At5.of hw4 (T'.alloc _)
    clear hw4 S T' s0 s1 s2 s3 s4 sa sb sc sd se sl g3
    obtain ⟨s0, s1, s2, s3, s4, sa, sb, sc, sd, se, sl⟩ := id S'
    obtain ⟨t0, t1, t2, t3, t4, ta, tb, tc, td, te, tl⟩ := id T
    go_wp2
    go_ret
    exact ⟨rfl, g4⟩
end Go.Proofs.Ytfpchofihofojaa
namespace Go.Proofs.Ytfpchofihofojaa.drawWithin
open Go.ChangeShapes Go.WideShapes Go.ChangeAt Go.RowKit Go.Joins
set_option linter.unusedVariables false

theorem own : ownKnob Try.prog.godebug = none := by kernel_rfl
theorem laidOut : laidOutB Try.prog = true := by kernel_rfl
theorem word_of {x : Int} (h : (Lit.int .u64 x).wf = true) : 0 ≤ x ∧ x ≤ 18446744073709551615 := by
  simp [Lit.wf, IntKind.min, IntKind.max, IntKind.signed, IntKind.bits] at h
  exact ⟨by omega, by omega⟩
theorem int_of {x : Int} (h : (Lit.int .i64 x).wf = true) : -9223372036854775808 ≤ x ∧ x ≤ 9223372036854775807 := by
  simp [Lit.wf, IntKind.min, IntKind.max, IntKind.signed, IntKind.bits] at h
  exact ⟨by omega, by omega⟩

set_option maxRecDepth 100000 in
theorem lifted (os : Os) (started : os.Started) (H : Type) (enc : TypeId × Value → H) :
    ReturnsInHanded {} Try.checked os 5 .any (Rows.drawWithinSpec.pre6 enc Try.prog Try.f5 Rows.drawWithinRow.domain false) (Rows.drawWithinSpec.post enc Try.prog Try.f5 false true false false) := by
  refine returnsInHanded_of_change (C := Try.checked) own started (by kernel_rfl) Try.func5
    (ChangeSpec.witness6 (enc := enc) (C := Try.checked) false ⟨#[], #[.agg #[.int .i64 0, .int .u64 0, .int .u64 0, .slice none 0 0, .int .i64 0], .int .i64 0, .int .i64 0, .int .i64 0], []⟩ 8 (by kernel_rfl) (by kernel_rfl) (by kernel_rfl) (by kernel_rfl)) ?_
  intro W base args ds gs before hval0 hW hcnd _
  have hval : ∀ (j : Nat) t v, Try.f5.params[j]? = some t → args[j]? = some v → Value.okWide Try.prog W .any base t v := hval0
  have hW' := hW
  obtain ⟨p, q, hA0, hV, rfl, hfz, hnd⟩ := hW
  have hA : DataW.TrodAll enc Try.prog W 0 (fun _ => true) true Try.f5.params.toList args.toList ds p := hA0
  rw [Try.params5] at hA hval
  obtain ⟨v0, vs0, d0, ds0, p0, q0, hargs, rfl, rfl, h0, r0⟩ := trodAll_cons hA
  obtain ⟨v1, vs1, d1, ds1, p1, q1, rfl, rfl, rfl, h1, r1⟩ := trodAll_cons r0
  obtain ⟨v2, vs2, d2, ds2, p2, q2, rfl, rfl, rfl, h2, r2⟩ := trodAll_cons r1
  obtain ⟨v3, vs3, d3, ds3, p3, q3, rfl, rfl, rfl, h3, r3⟩ := trodAll_cons r2
  obtain ⟨rfl, rfl, rfl⟩ := trodAll_nil r3
  obtain rfl : args = #[v0, v1, v2, v3] := by cases args; simp_all
  obtain ⟨rfl, rfl⟩ := trodVars_none hV
  have k0 := h0
  have lt0 : ∀ x ∈ p0, x.block < W.heap.size := by obtain ⟨m, hm⟩ := k0; exact DataW.trod_lt m _ _ _ hm
  obtain ⟨k_0, s_0, i_0, q_0, ao_0, n_0, c_0, zs_0, rfl, bs0, bi0, bk0, bq0, hz0⟩ := open_source (hval 0 25 v0 rfl rfl) h0
  obtain ⟨a1, rfl, rfl, rfl, w1⟩ := open_int Try.underlying3 (hval 1 3 v1 rfl rfl) h1
  obtain ⟨a2, rfl, rfl, rfl, w2⟩ := open_int Try.underlying3 (hval 2 3 v2 rfl rfl) h2
  obtain ⟨a3, rfl, rfl, rfl, w3⟩ := open_int Try.underlying3 (hval 3 3 v3 rfl rfl) h3
  clear hA0 hval0
  refine (walk_within k_0 s_0 i_0 q_0 ao_0 n_0 c_0 zs_0 a1 a2 a3 bs0.1 bs0.2 bi0.1 bi0.2 bk0.1 bk0.2 bq0.1 bq0.2 (int_of w1).1 (int_of w1).2 (int_of w2).1 (int_of w2).2 (int_of w3).1 (int_of w3).2 W hz0).mono fun e W' ⟨he, bel⟩ => ?_
  subst he
  exact ⟨_, rfl, _, _, _, [], _, [], hW', trodAll_mk1 (shut_bool Try.underlying4 _), (trodAll_cons_mk (Below.trod laidOut (by kernel_rfl) (of_decide_eq_true (by kernel_rfl)) k0 bel lt0) (trodAll_cons_mk (shut_int Try.underlying3 w1) (trodAll_cons_mk (shut_int Try.underlying3 w2) (trodAll_cons_mk (shut_int Try.underlying3 w3) trodAll_mk0)))), rfl, bel.frame _, fun h => by cases h⟩

theorem over : Rows.drawWithinRow.holds Try.pinned (OpenSpec.ofChange Rows.drawWithinSpec) :=
  OpenClaim.holds_of_wide 5 Try.f5 rfl rfl rfl rfl rfl rfl rfl ⟨rfl, rfl, rfl, rfl, rfl⟩ rfl rfl rfl rfl rfl (by kernel_rfl) Try.func5 (by kernel_rfl)
    (of_decide_eq_true (by kernel_rfl)) (by unfold Func.isWrapper; first | (rw [if_pos (by decide +kernel)]; kernel_rfl) | (rw [if_neg (by decide +kernel)]; exact ⟨rfl, rfl⟩))
    (fun os started H enc _ => lifted os started H enc)
theorem proved : Rows.DrawWithinSaid := over
#print axioms proved
end Go.Proofs.Ytfpchofihofojaa.drawWithin
