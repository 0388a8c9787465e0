/-
  AccountOrder: for any account and any two steps, acks or losses, both ways round make the same account, if both are taken and there is room for two samples. No conditions.
-/
import Derived.Test.YtjhkbaadlicelaaU24
import Derived.Test.YtjhkbaadlicelaaOM
import Derived.Test.YtjhkbaadlicelaaRows
import Derived.WalkKit
import Derived.ProofKit
import Derived.OpenShut
import Derived.ChangeOld
import Derived.Below
import Derived.Lib.SmallJoins
namespace Go.Proofs.Ytjhkbaadlicelaa
open Go.RowKit
set_option linter.unusedVariables false
theorem walk_order (m : Mi) (k s x a k' s' x' a' : Int) (k0 : -9223372036854775808 ≤ k) (k1 : k ≤ 9223372036854775807) (s0 : -9223372036854775808 ≤ s) (s1 : s ≤ 9223372036854775807) (x0 : -9223372036854775808 ≤ x) (x1 : x ≤ 9223372036854775807) (a0 : -9223372036854775808 ≤ a) (a1 : a ≤ 9223372036854775807) (k'0 : -9223372036854775808 ≤ k') (k'1 : k' ≤ 9223372036854775807) (s'0 : -9223372036854775808 ≤ s') (s'1 : s' ≤ 9223372036854775807) (x'0 : -9223372036854775808 ≤ x') (x'1 : x' ≤ 9223372036854775807) (a'0 : -9223372036854775808 ≤ a') (a'1 : a' ≤ 9223372036854775807) (w : World) :
    Calls Try.prog 5 #[.agg #[.int .i64 m.id, .int .i64 m.fr, .int .i64 m.to, .int .i64 m.se, .int .i64 m.ac, .int .i64 m.lo, .int .i64 m.pa, .int .i64 m.hi, .int .i64 m.dr, .int .i64 m.n, .int .i64 m.st, .int .i64 m.sr, .int .i64 m.tt, .int .i64 m.tr, .int .i64 m.rr], .agg #[.int .i64 k, .int .i64 s, .int .i64 x, .int .i64 a], .agg #[.int .i64 k', .int .i64 s', .int .i64 x', .int .i64 a']] w fun e w' => e = .returned (.bool true) ∧ Below w.heap.size w w' := by
  refine walk_order1 m (stepV m k s x a) (stepV (stepV m k s x a) k' s' x' a') (stepV m k' s' x' a') (stepV (stepV m k' s' x' a') k s x a) k s x a k' s' x' a' (stepE m k s x a) (stepE (stepV m k s x a) k' s' x' a') (stepE m k' s' x' a') (stepE (stepV m k' s' x' a') k s x a)
    (fun w => step_any m k s x a x0 x1 w) (fun w => step_any _ k' s' x' a' x'0 x'1 w) (fun w => step_any m k' s' x' a' x'0 x'1 w) (fun w => step_any _ k s x a x0 x1 w) ?_ w
  show _ → _
  rintro ⟨hk, hk', hn⟩ ⟨e, f, g, j⟩
  obtain ⟨h1, h2, h3, h4⟩ := order_eq hk hk' hn e f g j
  have R := (right_iff m).1 h3
  have Q := (right_iff _).1 h4
  generalize stepV (stepV m k s x a) k' s' x' a' = B at *
  have q1 := R.p1; have q2 := R.h0; have q3 := R.h1; have q4 := R.d0; have q5 := R.d1
  have r1 := Q.p1; have r2 := Q.h0; have r3 := Q.h1; have r4 := Q.d0; have r5 := Q.d1
  exact ⟨h1.symm, beq_iff_eq.2 h2, by omega, by omega, by omega, by omega, by omega, by omega, by omega, by omega⟩
end Go.Proofs.Ytjhkbaadlicelaa
namespace Go.Proofs.Ytjhkbaadlicelaa.accountOrder
open Go.ChangeShapes Go.WideShapes Go.ChangeAt Go.RowKit Go.Joins
set_option linter.unusedVariables false

theorem own : ownKnob Try.prog.godebug = none := by kernel_rfl
theorem laidOut : laidOutB Try.prog = true := by kernel_rfl
theorem word_of {x : Int} (h : (Lit.int .u64 x).wf = true) : 0 ≤ x ∧ x ≤ 18446744073709551615 := by
  simp [Lit.wf, IntKind.min, IntKind.max, IntKind.signed, IntKind.bits] at h
  exact ⟨by omega, by omega⟩
theorem int_of {x : Int} (h : (Lit.int .i64 x).wf = true) : -9223372036854775808 ≤ x ∧ x ≤ 9223372036854775807 := by
  simp [Lit.wf, IntKind.min, IntKind.max, IntKind.signed, IntKind.bits] at h
  exact ⟨by omega, by omega⟩

set_option maxRecDepth 100000 in
theorem lifted (os : Os) (started : os.Started) (H : Type) (enc : TypeId × Value → H) :
    ReturnsInHanded {} Try.checked os 5 .any (Rows.accountOrderSpec.pre6 enc Try.prog Try.f5 Rows.accountOrderRow.domain false) (Rows.accountOrderSpec.post enc Try.prog Try.f5 false true false false) := by
  refine returnsInHanded_of_change (C := Try.checked) own started (by kernel_rfl) Try.func5
    (ChangeSpec.witness6 (enc := enc) (C := Try.checked) false ⟨#[], #[.agg #[.int .i64 0, .int .i64 0, .int .i64 0, .int .i64 0, .int .i64 0, .int .i64 0, .int .i64 0, .int .i64 0, .int .i64 0, .int .i64 0, .int .i64 0, .int .i64 0, .int .i64 0, .int .i64 0, .int .i64 0], .agg #[.int .i64 0, .int .i64 0, .int .i64 0, .int .i64 0], .agg #[.int .i64 0, .int .i64 0, .int .i64 0, .int .i64 0]], []⟩ 8 (by kernel_rfl) (by kernel_rfl) (by kernel_rfl) (by kernel_rfl)) ?_
  intro W base args ds gs before hval0 hW hcnd _
  have hval : ∀ (j : Nat) t v, Try.f5.params[j]? = some t → args[j]? = some v → Value.okWide Try.prog W .any base t v := hval0
  have hW' := hW
  obtain ⟨p, q, hA0, hV, rfl, hfz, hnd⟩ := hW
  have hA : DataW.TrodAll enc Try.prog W 0 (fun _ => true) true Try.f5.params.toList args.toList ds p := hA0
  rw [Try.params5] at hA hval
  obtain ⟨v0, vs0, d0, ds0, p0, q0, hargs, rfl, rfl, h0, r0⟩ := trodAll_cons hA
  obtain ⟨v1, vs1, d1, ds1, p1, q1, rfl, rfl, rfl, h1, r1⟩ := trodAll_cons r0
  obtain ⟨v2, vs2, d2, ds2, p2, q2, rfl, rfl, rfl, h2, r2⟩ := trodAll_cons r1
  obtain ⟨rfl, rfl, rfl⟩ := trodAll_nil r2
  obtain rfl : args = #[v0, v1, v2] := by cases args; simp_all
  obtain ⟨rfl, rfl⟩ := trodVars_none hV
  have k0 := h0
  have lt0 : ∀ x ∈ p0, x.block < W.heap.size := by obtain ⟨m, hm⟩ := k0; exact DataW.trod_lt m _ _ _ hm
  obtain ⟨m0, rfl⟩ := open_mi (hval 0 23 v0 rfl rfl) h0
  have k1 := h1
  have lt1 : ∀ x ∈ p1, x.block < W.heap.size := by obtain ⟨m, hm⟩ := k1; exact DataW.trod_lt m _ _ _ hm
  obtain ⟨k_1, s_1, x_1, a_1, rfl, bk1, bs1, bx1, ba1⟩ := open_step (hval 1 34 v1 rfl rfl) h1
  have k2 := h2
  have lt2 : ∀ x ∈ p2, x.block < W.heap.size := by obtain ⟨m, hm⟩ := k2; exact DataW.trod_lt m _ _ _ hm
  obtain ⟨k_2, s_2, x_2, a_2, rfl, bk2, bs2, bx2, ba2⟩ := open_step (hval 2 34 v2 rfl rfl) h2
  clear hA0 hval0
  refine (walk_order m0 k_1 s_1 x_1 a_1 k_2 s_2 x_2 a_2 bk1.1 bk1.2 bs1.1 bs1.2 bx1.1 bx1.2 ba1.1 ba1.2 bk2.1 bk2.2 bs2.1 bs2.2 bx2.1 bx2.2 ba2.1 ba2.2 W).mono fun e W' ⟨he, bel⟩ => ?_
  subst he
  exact ⟨_, rfl, _, _, _, [], _, [], hW', trodAll_mk1 (shut_bool Try.underlying4 _), (trodAll_cons_mk (Below.trod laidOut (by kernel_rfl) (of_decide_eq_true (by kernel_rfl)) k0 bel lt0) (trodAll_cons_mk (Below.trod laidOut (by kernel_rfl) (of_decide_eq_true (by kernel_rfl)) k1 bel lt1) (trodAll_cons_mk (Below.trod laidOut (by kernel_rfl) (of_decide_eq_true (by kernel_rfl)) k2 bel lt2) trodAll_mk0))), rfl, bel.frame _, fun h => by cases h⟩

theorem over : Rows.accountOrderRow.holds Try.pinned (OpenSpec.ofChange Rows.accountOrderSpec) :=
  OpenClaim.holds_of_wide 5 Try.f5 rfl rfl rfl rfl rfl rfl rfl ⟨rfl, rfl, rfl, rfl, rfl⟩ rfl rfl rfl rfl rfl (by kernel_rfl) Try.func5 (by kernel_rfl)
    (of_decide_eq_true (by kernel_rfl)) (by unfold Func.isWrapper; first | (rw [if_pos (by decide +kernel)]; kernel_rfl) | (rw [if_neg (by decide +kernel)]; exact ⟨rfl, rfl⟩))
    (fun os started H enc _ => lifted os started H enc)
theorem proved : Rows.AccountOrderSaid := over
#print axioms proved
end Go.Proofs.Ytjhkbaadlicelaa.accountOrder
