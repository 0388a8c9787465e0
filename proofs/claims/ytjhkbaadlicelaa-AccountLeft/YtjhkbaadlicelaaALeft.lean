/-
  AccountLeft: for any account and any step, what is left to come changes by just one, and says when an account is done. No conditions.
-/
import Derived.Test.YtjhkbaadlicelaaU22
import Derived.Test.YtjhkbaadlicelaaOM
import Derived.Test.YtjhkbaadlicelaaRows
import Derived.WalkKit
import Derived.ProofKit
import Derived.OpenShut
import Derived.ChangeOld
import Derived.Below
import Derived.Lib.SmallJoins
namespace Go.Proofs.Ytjhkbaadlicelaa
open Go.RowKit
set_option linter.unusedVariables false
theorem by_bd (k : Int) : -1 ≤ byN k ∧ byN k ≤ 1 := by
  unfold byN
  by_cases h : k = 0
  · rw [if_pos h]; omega
  · rw [if_neg h]
    by_cases h' : k = 1 ∨ k = 2
    · rw [if_pos h']; omega
    · rw [if_neg h']; omega
theorem walk_left (m : Mi) (k s x a : Int) (k0 : -9223372036854775808 ≤ k) (k1 : k ≤ 9223372036854775807) (s0 : -9223372036854775808 ≤ s) (s1 : s ≤ 9223372036854775807) (x0 : -9223372036854775808 ≤ x) (x1 : x ≤ 9223372036854775807) (a0 : -9223372036854775808 ≤ a) (a1 : a ≤ 9223372036854775807) (w : World) :
    Calls Try.prog 6 #[.agg #[.int .i64 m.id, .int .i64 m.fr, .int .i64 m.to, .int .i64 m.se, .int .i64 m.ac, .int .i64 m.lo, .int .i64 m.pa, .int .i64 m.hi, .int .i64 m.dr, .int .i64 m.n, .int .i64 m.st, .int .i64 m.sr, .int .i64 m.tt, .int .i64 m.tr, .int .i64 m.rr], .agg #[.int .i64 k, .int .i64 s, .int .i64 x, .int .i64 a]] w fun e w' => e = .returned (.bool true) ∧ Below w.heap.size w w' := by
  have T0 := fun w => step_any m k s x a x0 x1 w
  by_cases h : stepE m k s x a = 0
  · have K := step_taken h
    rw [h] at T0
    generalize stepV m k s x a = V at *
    have T1 := fun w => is_any m w
    have T2 := fun w => is_any V w
    have T3 := fun w => done_any V w
    rw [K.r] at T1
    rw [K.q] at T2
    have R := (right_iff m).1 K.r
    have Q := (right_iff V).1 K.q
    have bB := by_bd k
    have e0 : Hid (doneB V = (decide (0 ≤ V.to) && (V.pa - V.hi - V.dr == 0))) := by
      show _ = _
      unfold doneB
      rw [K.q, Bool.true_and]
      have i1 : decide (V.to ≠ -1) = decide (0 ≤ V.to) := by rw [decide_eq_decide]; have := Q.t0; have := Q.f0; omega
      have i2 : decide (V.hi + V.dr = V.pa) = (V.pa - V.hi - V.dr == 0) := by rw [beq_dec, decide_eq_decide]; omega
      rw [i1, i2]
    rw [e0.out] at T3
    have p1 := R.p1; have h0 := R.h0; have h1 := R.h1; have d0 := R.d0; have d1 := R.d1
    have P1 := Q.p1; have H0 := Q.h0; have H1 := Q.h1; have D0 := Q.d0; have D1 := Q.d1; have A0 := Q.a0; have A1 := Q.a1; have L0 := Q.l0; have L1 := Q.l1
    have X0 := Q.x0
    refine walk_left1 m V k s x a (byN k) T0 T1 T2 T3 rfl bB.1 bB.2 R.p0 p1 h0 (by omega) d0 (by omega) Q.p0 P1 H0 (by omega) D0 (by omega) (by omega) (by omega) (by omega) (by omega) ?_ (by omega) (by omega) ?_ ?_ ?_ w
    · rw [beq_iff_eq]; exact K.is
    · rw [beq_dec, beq_dec, decide_eq_decide]
      have := Q.x1
      constructor
      · intro e; have := this.1 (by omega); omega
      · intro e; have := this.2 (by omega); omega
    · rw [beq_iff_eq]; exact K.id
    · rw [beq_iff_eq]; exact K.fr
  · rw [step_no h] at T0
    generalize stepE m k s x a = E at *
    exact walk_left0 m k s x a E (by simpa using h) T0 w
end Go.Proofs.Ytjhkbaadlicelaa
namespace Go.Proofs.Ytjhkbaadlicelaa.accountLeft
open Go.ChangeShapes Go.WideShapes Go.ChangeAt Go.RowKit Go.Joins
set_option linter.unusedVariables false

theorem own : ownKnob Try.prog.godebug = none := by kernel_rfl
theorem laidOut : laidOutB Try.prog = true := by kernel_rfl
theorem word_of {x : Int} (h : (Lit.int .u64 x).wf = true) : 0 ≤ x ∧ x ≤ 18446744073709551615 := by
  simp [Lit.wf, IntKind.min, IntKind.max, IntKind.signed, IntKind.bits] at h
  exact ⟨by omega, by omega⟩
theorem int_of {x : Int} (h : (Lit.int .i64 x).wf = true) : -9223372036854775808 ≤ x ∧ x ≤ 9223372036854775807 := by
  simp [Lit.wf, IntKind.min, IntKind.max, IntKind.signed, IntKind.bits] at h
  exact ⟨by omega, by omega⟩

set_option maxRecDepth 100000 in
theorem lifted (os : Os) (started : os.Started) (H : Type) (enc : TypeId × Value → H) :
    ReturnsInHanded {} Try.checked os 6 .any (Rows.accountLeftSpec.pre6 enc Try.prog Try.f6 Rows.accountLeftRow.domain false) (Rows.accountLeftSpec.post enc Try.prog Try.f6 false true false false) := by
  refine returnsInHanded_of_change (C := Try.checked) own started (by kernel_rfl) Try.func6
    (ChangeSpec.witness6 (enc := enc) (C := Try.checked) false ⟨#[], #[.agg #[.int .i64 0, .int .i64 0, .int .i64 0, .int .i64 0, .int .i64 0, .int .i64 0, .int .i64 0, .int .i64 0, .int .i64 0, .int .i64 0, .int .i64 0, .int .i64 0, .int .i64 0, .int .i64 0, .int .i64 0], .agg #[.int .i64 0, .int .i64 0, .int .i64 0, .int .i64 0]], []⟩ 8 (by kernel_rfl) (by kernel_rfl) (by kernel_rfl) (by kernel_rfl)) ?_
  intro W base args ds gs before hval0 hW hcnd _
  have hval : ∀ (j : Nat) t v, Try.f6.params[j]? = some t → args[j]? = some v → Value.okWide Try.prog W .any base t v := hval0
  have hW' := hW
  obtain ⟨p, q, hA0, hV, rfl, hfz, hnd⟩ := hW
  have hA : DataW.TrodAll enc Try.prog W 0 (fun _ => true) true Try.f6.params.toList args.toList ds p := hA0
  rw [Try.params6] at hA hval
  obtain ⟨v0, vs0, d0, ds0, p0, q0, hargs, rfl, rfl, h0, r0⟩ := trodAll_cons hA
  obtain ⟨v1, vs1, d1, ds1, p1, q1, rfl, rfl, rfl, h1, r1⟩ := trodAll_cons r0
  obtain ⟨rfl, rfl, rfl⟩ := trodAll_nil r1
  obtain rfl : args = #[v0, v1] := by cases args; simp_all
  obtain ⟨rfl, rfl⟩ := trodVars_none hV
  have k0 := h0
  have lt0 : ∀ x ∈ p0, x.block < W.heap.size := by obtain ⟨m, hm⟩ := k0; exact DataW.trod_lt m _ _ _ hm
  obtain ⟨m0, rfl⟩ := open_mi (hval 0 23 v0 rfl rfl) h0
  have k1 := h1
  have lt1 : ∀ x ∈ p1, x.block < W.heap.size := by obtain ⟨m, hm⟩ := k1; exact DataW.trod_lt m _ _ _ hm
  obtain ⟨k_1, s_1, x_1, a_1, rfl, bk1, bs1, bx1, ba1⟩ := open_step (hval 1 34 v1 rfl rfl) h1
  clear hA0 hval0
  refine (walk_left m0 k_1 s_1 x_1 a_1 bk1.1 bk1.2 bs1.1 bs1.2 bx1.1 bx1.2 ba1.1 ba1.2 W).mono fun e W' ⟨he, bel⟩ => ?_
  subst he
  exact ⟨_, rfl, _, _, _, [], _, [], hW', trodAll_mk1 (shut_bool Try.underlying4 _), (trodAll_cons_mk (Below.trod laidOut (by kernel_rfl) (of_decide_eq_true (by kernel_rfl)) k0 bel lt0) (trodAll_cons_mk (Below.trod laidOut (by kernel_rfl) (of_decide_eq_true (by kernel_rfl)) k1 bel lt1) trodAll_mk0)), rfl, bel.frame _, fun h => by cases h⟩

theorem over : Rows.accountLeftRow.holds Try.pinned (OpenSpec.ofChange Rows.accountLeftSpec) :=
  OpenClaim.holds_of_wide 6 Try.f6 rfl rfl rfl rfl rfl rfl rfl ⟨rfl, rfl, rfl, rfl, rfl⟩ rfl rfl rfl rfl rfl (by kernel_rfl) Try.func6 (by kernel_rfl)
    (of_decide_eq_true (by kernel_rfl)) (by unfold Func.isWrapper; first | (rw [if_pos (by decide +kernel)]; kernel_rfl) | (rw [if_neg (by decide +kernel)]; exact ⟨rfl, rfl⟩))
    (fun os started H enc _ => lifted os started H enc)
theorem proved : Rows.AccountLeftSaid := over
#print axioms proved
end Go.Proofs.Ytjhkbaadlicelaa.accountLeft
