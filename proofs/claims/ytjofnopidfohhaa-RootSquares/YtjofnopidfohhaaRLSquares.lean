/-
  RootSquares: for any number of 128 bits a root's square is not above it, and that of one more is; so is a power of two, and twice that. No conditions.
-/
import Derived.Test.YtjofnopidfohhaaE3
import Derived.Test.YtjofnopidfohhaaD3
import Derived.Test.YtjofnopidfohhaaRows
import Derived.WalkKit
import Derived.ProofKit
import Derived.OpenShut
import Derived.ChangeOld
import Derived.Below
import Derived.Lib.SmallJoins
namespace Go.Proofs.Ytjofnopidfohhaa
open Go.RowKit
set_option linter.unusedVariables false
attribute [local go_sem] Later.cell Later.frozen

theorem cmpv_le {a b : Int} (h : a ≤ b) : cmpv a b ≤ 0 := by unfold cmpv; split; omega; split <;> omega
theorem cmpv_gt {a b : Int} (h : b < a) : cmpv a b = 1 := by unfold cmpv; rw [if_neg (by omega), if_pos h]
theorem left_p2 (n : Int) (h0 : 0 ≤ n) (h1 : n ≤ 64) (w : World) : Calls Try.prog 20 #[.agg #[.int .u64 0, .int .u64 1], .int .i64 n] w fun e w' => e = .returned (.agg #[.int .u64 (hiw (p2 n)), .int .u64 (low (p2 n))]) ∧ Below w.heap.size w w' := by
  have := left_any 1 n ⟨by omega, by omega⟩ (by omega) w
  have hp := p2_pos n
  have le := p2_le h0 h1
  rw [p2_64] at le
  have e : leftv 1 n = p2 n := by unfold leftv; rw [if_neg (by omega), if_neg (by omega), Int.one_mul]; omega
  rw [e] at this
  exact this
theorem cmp_lo (u v : Int) (hu : W128 u) (h0 : 0 ≤ v) (h1 : v ≤ 18446744073709551615) (w : World) : Calls Try.prog 18 #[.agg #[.int .u64 (hiw u), .int .u64 (low u)], .agg #[.int .u64 0, .int .u64 v]] w fun e w' => e = .returned (.int .i64 (cmpv u v)) ∧ Below w.heap.size w w' := by
  have := cmp_any u v hu ⟨h0, by omega⟩ w
  have eh : hiw v = 0 := by unfold hiw; omega
  have el : low v = v := by unfold low; omega
  rwa [eh, el] at this
theorem log_facts {x : Int} (h0 : 0 < x) (h1 : x ≤ 18446744073709551615) : 0 ≤ logv x ∧ logv x < 64 ∧ cmpv (p2 (logv x)) x ≤ 0 ∧ cmpv (p2 (logv x + 1)) x = 1 := by
  obtain ⟨s0, s1, s2⟩ := lenv_spec h0
  have l := lenv_64 (by omega) h1
  unfold logv
  refine ⟨by omega, by omega, cmpv_le s1, ?_⟩
  rw [show lenv x - 1 + 1 = lenv x by omega]
  exact cmpv_gt s2

set_option maxHeartbeats 2000000 in
set_option maxRecDepth 100000 in
theorem walk_squares (a : Int) (ha : W128 a) (w : World) :
    Calls Try.prog 4 #[.agg #[.int .u64 (hiw a), .int .u64 (low a)]] w fun e w' => e = .returned (.bool true) ∧ Below w.heap.size w w' := by
  obtain ⟨r0, r1, r2⟩ := sqrtv_spec ha
  obtain ⟨q0, q1⟩ := sqrtv_64 ha
  have S := fun w => sqrt_any a ha w
  have c1 : cmpv (sqrtv a * sqrtv a) a ≤ 0 := cmpv_le r1
  have c2 : cmpv ((sqrtv a + 1) * (sqrtv a + 1)) a = 1 := cmpv_gt r2
  clear r1 r2
  generalize sqrtv a = s at *
  have lb := low_bd a
  go_enter Try.func4, Try.ntmps4
  go_wp2_with fail
  refine (S _).mono ?_
  rintro e w1 ⟨rfl, hw1⟩
  have A : At2 w1 w.heap.size (.int .u64 (hiw a)) (.int .u64 (low a)) := At2.below (by constructor <;> simp [go_sem]) hw1 (by simp <;> omega)
  have hb : Below w.heap.size w w1 := Below.call (by go_grown) (by simp <;> omega) hw1
  clear hw1
  obtain ⟨z0, z1, z2, z3, z4⟩ := id A
  have h6 := mul_lt q0 q1 q0 q1
  have M1 := fun w => mul_any s s q0 q1 q0 q1 w
  have C1 := fun w => cmp_any (s * s) a h6 ha w
  go_upto_region 3 with fail
  go_cut [27] (fun v27 wc => v27 = .bool false ∧ At2 wc w.heap.size (.int .u64 (hiw a)) (.int .u64 (low a)) ∧ Below w.heap.size w wc)
  case first =>
    have hne : Nonempty (Later w1) := Later.ne w1
    have d1 : decide (0 < cmpv (s * s) a) = false := decide_eq_false (by omega)
    by_cases hs : s < 18446744073709551615
    · have M2 := fun w => mul_any (s + 1) (s + 1) (by omega) (by omega) (by omega) (by omega) w
      have h7 := mul_lt (x := s + 1) (y := s + 1) (by omega) (by omega) (by omega) (by omega)
      have C2 := fun w => cmp_any ((s + 1) * (s + 1)) a h7 ha w
      rw [c2] at C2
      have d2 : decide (s < 18446744073709551615) = true := decide_eq_true hs
      go_wp2_with fail
      refine wp_region_later (by kernel_rfl) (by kernel_rfl) ?_
      repeat (go_big_quiet_step (first
        | (go_at_call_of 19 (Value.int IntKind.u64 s); exact Later.call _ (M1 _))
        | (go_at_call 19; exact Later.call _ (M2 _))
        | (go_at_call_of 18 (hiw (s * s)); exact Later.call _ (C1 _))
        | (go_at_call 18; exact Later.call _ (C2 _))))
      refine wpQuiet_nil ?_
      rintro w5 ⟨⟨_, hw5⟩, rfl⟩
      go_wp2_with fail
      go_meet
      case rel => exact ⟨rfl, A.below hw5 A.lt, Below.call hb hb.size hw5⟩
    · have d2 : decide (s < 18446744073709551615) = false := decide_eq_false hs
      go_wp2_with fail
      refine wp_region_later (by kernel_rfl) (by kernel_rfl) ?_
      repeat (go_big_quiet_step (first
        | (go_at_call_of 19 (Value.int IntKind.u64 s); exact Later.call _ (M1 _))
        | (go_at_call_of 18 (hiw (s * s)); exact Later.call _ (C1 _))))
      refine wpQuiet_nil ?_
      rintro w5 ⟨⟨_, hw5⟩, rfl⟩
      go_wp2_with fail
      go_meet
      case rel => exact ⟨rfl, A.below hw5 A.lt, Below.call hb hb.size hw5⟩
  case rest =>
    obtain ⟨rfl, A', hb'⟩ := hcut
    clear z0 z1 z2 z3 z4 A hb M1 C1 h6
    obtain ⟨z0, z1, z2, z3, z4⟩ := id A'
    by_cases hz : low a = 0
    · have hzz : (low a == 0) = true := by simpa using hz
      have E0 : Hid (logv (low a) = -1) := by show _ = _; rw [hz]; decide +kernel
      clear hz
      go_wp2_with fail
      refine (log_any (low a) lb.1 lb.2 _).mono ?_
      rintro e w2 ⟨rfl, hw2⟩
      rw [E0.out]
      replace A' := A'.below hw2 A'.lt
      replace hb' := Below.call hb' hb'.size hw2
      clear hw2 z0 z1 z2 z3 z4
      obtain ⟨z0, z1, z2, z3, z4⟩ := id A'
      go_wp2_with fail
      refine (rooted_any _).mono ?_
      rintro e w3 ⟨rfl, hw3⟩
      go_wp2
      go_ret
      exact ⟨rfl, Below.call hb' hb'.size hw3⟩
    · have hzz : (low a == 0) = false := by simpa using hz
      obtain ⟨g0, g1, g2, g3⟩ := log_facts (x := low a) (by omega) lb.2
      have L := fun w => log_any (low a) lb.1 lb.2 w
      clear hz
      generalize logv (low a) = n at *
      have hp0 := p2_pos n
      have hp1 := p2_pos (n + 1)
      have le0 := p2_le g0 (show n ≤ 64 by omega)
      have le1 := p2_le (show 0 ≤ n + 1 by omega) (show n + 1 ≤ 64 by omega)
      rw [p2_64] at le0 le1
      have L0 := fun w => left_p2 n g0 (by omega) w
      have L1 := fun w => left_p2 (n + 1) (by omega) (by omega) w
      have C0 := fun w => cmp_lo (p2 n) (low a) ⟨by omega, by omega⟩ lb.1 lb.2 w
      have C1 := fun w => cmp_lo (p2 (n + 1)) (low a) ⟨by omega, by omega⟩ lb.1 lb.2 w
      rw [g3] at C1
      clear hp0 hp1 le0 le1 g3
      go_wp2_with fail
      refine (L _).mono ?_
      rintro e w2 ⟨rfl, hw2⟩
      replace A' := A'.below hw2 A'.lt
      replace hb' := Below.call hb' hb'.size hw2
      clear hw2 z0 z1 z2 z3 z4
      obtain ⟨z0, z1, z2, z3, z4⟩ := id A'
      go_upto_region 8 with fail
      refine wp_forget (fun W => At2 W w.heap.size (.int .u64 (hiw a)) (.int .u64 (low a)) ∧ At2 W w2.heap.size (.int .u64 0) (.int .u64 1) ∧ Below w.heap.size w W) ⟨A'.alloc _, At2.fresh _ _ _ _, by have := hb'.size; go_grown⟩ ?_
      rintro W ⟨A, O, hbW⟩
      clear A' hb' z0 z1 z2 z3 z4
      obtain ⟨z0, z1, z2, z3, z4⟩ := id A
      obtain ⟨y0, y1, y2, y3, y4⟩ := id O
      have hne : Nonempty (Later W) := Later.ne W
      have d1 : decide (cmpv (p2 n) (low a) ≤ 0) = true := decide_eq_true g2
      have d2 : decide (0 ≤ n) = true := decide_eq_true g0
      have d3 : decide (n < 64) = true := decide_eq_true g1
      go_wp2_with fail
      refine wp_region_later (by kernel_rfl) (by kernel_rfl) ?_
      repeat (go_big_quiet_step (first
        | (go_at_call 7; exact Later.call _ (rooted_any _))
        | (go_at_call_of 20 (Value.int IntKind.i64 n); exact Later.call _ (L0 _))
        | (go_at_call 20; exact Later.call _ (L1 _))
        | (go_at_call_of 18 (hiw (p2 n)); exact Later.call _ (C0 _))
        | (go_at_call 18; exact Later.call _ (C1 _))))
      refine wpQuiet_nil ?_
      rintro w5 ⟨⟨_, hw5⟩, rfl⟩
      go_wp2
      go_ret
      exact ⟨rfl, Below.call hbW hbW.size hw5⟩
end Go.Proofs.Ytjofnopidfohhaa
namespace Go.Proofs.Ytjofnopidfohhaa.rootSquares
open Go.ChangeShapes Go.WideShapes Go.ChangeAt Go.RowKit Go.Joins
set_option linter.unusedVariables false

theorem own : ownKnob Try.prog.godebug = none := by kernel_rfl
theorem laidOut : laidOutB Try.prog = true := by kernel_rfl
theorem cells24 : Try.prog.cellsOf 24 = 2 := by kernel_rfl
theorem word_of {x : Int} (h : (Lit.int .u64 x).wf = true) : 0 ≤ x ∧ x ≤ 18446744073709551615 := by
  simp [Lit.wf, IntKind.min, IntKind.max, IntKind.signed, IntKind.bits] at h
  exact ⟨by omega, by omega⟩
theorem int_of {x : Int} (h : (Lit.int .i64 x).wf = true) : -9223372036854775808 ≤ x ∧ x ≤ 9223372036854775807 := by
  simp [Lit.wf, IntKind.min, IntKind.max, IntKind.signed, IntKind.bits] at h
  exact ⟨by omega, by omega⟩

set_option maxRecDepth 100000 in
theorem lifted (os : Os) (started : os.Started) (H : Type) (enc : TypeId × Value → H) :
    ReturnsInHanded {} Try.checked os 4 .any (Rows.rootSquaresSpec.pre6 enc Try.prog Try.f4 Rows.rootSquaresRow.domain false) (Rows.rootSquaresSpec.post enc Try.prog Try.f4 false true false false) := by
  refine returnsInHanded_of_change (C := Try.checked) own started (by kernel_rfl) Try.func4
    (ChangeSpec.witness6 (enc := enc) (C := Try.checked) false ⟨#[], #[.agg #[.int .u64 0, .int .u64 0]], []⟩ 8 (by kernel_rfl) (by kernel_rfl) (by kernel_rfl) (by kernel_rfl)) ?_
  intro W base args ds gs before hval0 hW hcnd _
  have hval : ∀ (j : Nat) t v, Try.f4.params[j]? = some t → args[j]? = some v → Value.okWide Try.prog W .any base t v := hval0
  have hW' := hW
  obtain ⟨p, q, hA0, hV, rfl, hfz, hnd⟩ := hW
  have hA : DataW.TrodAll enc Try.prog W 0 (fun _ => true) true Try.f4.params.toList args.toList ds p := hA0
  rw [Try.params4] at hA hval
  obtain ⟨v0, vs0, d0, ds0, p0, q0, hargs, rfl, rfl, h0, r0⟩ := trodAll_cons hA
  obtain ⟨rfl, rfl, rfl⟩ := trodAll_nil r0
  obtain rfl : args = #[v0] := by cases args; simp_all
  obtain ⟨rfl, rfl⟩ := trodVars_none hV
  have k0 := h0
  have lt0 : ∀ x ∈ p0, x.block < W.heap.size := by obtain ⟨m, hm⟩ := k0; exact DataW.trod_lt m _ _ _ hm
  obtain ⟨c0a, c0b, y0a, y0b, m0, rfl, rfl, rfl, hy0a, hy0b⟩ := open_agg2 Try.underlying24 (by kernel_rfl) cells24 (hval 0 24 v0 rfl rfl) h0
  obtain ⟨x0a, e0a, rfl, w0a⟩ := DataW.trod_int Try.underlying22 hy0a
  obtain ⟨x0b, e0b, rfl, w0b⟩ := DataW.trod_int Try.underlying22 hy0b
  simp at e0a e0b
  subst e0a e0b
  obtain ⟨a0, W0, ra0, rb0⟩ := wide_of x0a x0b (word_of w0a).1 (word_of w0a).2 (word_of w0b).1 (word_of w0b).2
  subst ra0 rb0
  clear hA0 hval0
  refine (walk_squares a0 W0 W).mono fun e W' ⟨he, bel⟩ => ?_
  subst he
  exact ⟨_, rfl, _, _, _, [], _, [], hW', trodAll_mk1 (shut_bool Try.underlying4 _), (trodAll_cons_mk (Below.trod laidOut (by kernel_rfl) (of_decide_eq_true (by kernel_rfl)) k0 bel lt0) trodAll_mk0), rfl, bel.frame _, fun h => by cases h⟩

theorem over : Rows.rootSquaresRow.holds Try.pinned (OpenSpec.ofChange Rows.rootSquaresSpec) :=
  OpenClaim.holds_of_wide 4 Try.f4 rfl rfl rfl rfl rfl rfl rfl ⟨rfl, rfl, rfl, rfl, rfl⟩ rfl rfl rfl rfl rfl (by kernel_rfl) Try.func4 (by kernel_rfl)
    (of_decide_eq_true (by kernel_rfl)) (by unfold Func.isWrapper; first | (rw [if_pos (by decide +kernel)]; kernel_rfl) | (rw [if_neg (by decide +kernel)]; exact ⟨rfl, rfl⟩))
    (fun os started H enc _ => lifted os started H enc)
theorem proved : Rows.RootSquaresSaid := over
#print axioms proved
end Go.Proofs.Ytjofnopidfohhaa.rootSquares
