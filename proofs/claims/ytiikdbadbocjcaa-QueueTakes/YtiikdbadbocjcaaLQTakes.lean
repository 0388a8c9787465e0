/-
  QueueTakes: for any room, queue, rate and time a packet is taken if there is room for it, and one of a byte more is not. No conditions.
-/
import Derived.Test.YtiikdbadbocjcaaMC
import Derived.Test.YtiikdbadbocjcaaRows
import Derived.WalkKit
import Derived.ProofKit
import Derived.OpenShut
import Derived.ChangeOld
import Derived.Below
import Derived.Lib.SmallJoins
namespace Go.Proofs.Ytiikdbadbocjcaa
open Go.RowKit
set_option linter.unusedVariables false
set_option maxHeartbeats 4000000 in
set_option maxRecDepth 100000 in
theorem takes_err (m a k r at' E : Int) (hE : (E == 0) = false) (hE' : (E != 0) = true) (D1 : ∀ w, Calls Try.prog 8 #[.int .i64 m, .agg #[.int .i64 a, .int .i64 k], .int .i64 r, .int .i64 at'] w fun e w' => e = .returned (.tuple #[.agg #[.int .i64 0, .int .i64 0], .int .i64 E]) ∧ Below w.heap.size w w') (w : World) :
    Calls Try.prog 7 #[.int .i64 m, .agg #[.int .i64 a, .int .i64 k], .int .i64 r, .int .i64 at'] w fun e w' => e = .returned (.bool true) ∧ Below w.heap.size w w' := by
  go_enter Try.func7, Try.ntmps7
  go_wp2_with fail
  refine (D1 _).mono ?_
  rintro e w1 ⟨rfl, hw1⟩
  have B : At2 w1 w.heap.size (.int .i64 a) (.int .i64 k) := At2.below (by constructor <;> simp [go_sem]) hw1 (by simp <;> omega)
  have hb : Below w.heap.size w w1 := Below.call (by go_grown) (by simp <;> omega) hw1
  clear hw1
  have hs := hb.size
  obtain ⟨b0, b1, b2, b3, b4⟩ := id B
  go_wp2_with fail
  refine (queued_any _).mono ?_
  rintro e w2 ⟨rfl, hw2⟩
  replace hb : Below w.heap.size w w2 := Below.call (show Below w.heap.size w _ by go_grown) (by simp; omega) hw2
  go_wp2
  go_ret
  exact ⟨rfl, hb⟩
set_option maxHeartbeats 4000000 in
set_option maxRecDepth 100000 in
theorem takes_low (m a k r at' W f : Int) (hm0 : 1 ≤ m) (hm1 : m ≤ 1073741824) (hW0 : 0 ≤ W) (hW1 : W ≤ m * 1000000) (hf : (m * 1000000 - W).tdiv 1000000 = f) (hf0 : 0 ≤ f) (hf9 : f ≤ 1073741824) (hc : f < 1) (D1 : ∀ w, Calls Try.prog 8 #[.int .i64 m, .agg #[.int .i64 a, .int .i64 k], .int .i64 r, .int .i64 at'] w fun e w' => e = .returned (.tuple #[.agg #[.int .i64 at', .int .i64 W], .int .i64 0]) ∧ Below w.heap.size w w') (w : World) :
    Calls Try.prog 7 #[.int .i64 m, .agg #[.int .i64 a, .int .i64 k], .int .i64 r, .int .i64 at'] w fun e w' => e = .returned (.bool true) ∧ Below w.heap.size w w' := by
  go_enter Try.func7, Try.ntmps7
  go_wp2_with fail
  refine (D1 _).mono ?_
  rintro e w1 ⟨rfl, hw1⟩
  have B : At2 w1 w.heap.size (.int .i64 a) (.int .i64 k) := At2.below (by constructor <;> simp [go_sem]) hw1 (by simp <;> omega)
  have hb : Below w.heap.size w w1 := Below.call (by go_grown) (by simp <;> omega) hw1
  clear hw1
  have hs := hb.size
  obtain ⟨b0, b1, b2, b3, b4⟩ := id B
  go_wp2_with fail
  refine (queued_any _).mono ?_
  rintro e w2 ⟨rfl, hw2⟩
  replace hb : Below w.heap.size w w2 := Below.call (show Below w.heap.size w _ by go_grown) (by simp; omega) hw2
  go_wp2
  go_ret
  exact ⟨rfl, hb⟩
set_option maxHeartbeats 4000000 in
set_option maxRecDepth 100000 in
theorem takes_high (m a k r at' W f : Int) (hm0 : 1 ≤ m) (hm1 : m ≤ 1073741824) (hW0 : 0 ≤ W) (hW1 : W ≤ m * 1000000) (hf : (m * 1000000 - W).tdiv 1000000 = f) (hf0 : 0 ≤ f) (hf9 : f ≤ 1073741824) (hc : decide (f < 1) = false) (hc' : 9000 ≤ f) (D1 : ∀ w, Calls Try.prog 8 #[.int .i64 m, .agg #[.int .i64 a, .int .i64 k], .int .i64 r, .int .i64 at'] w fun e w' => e = .returned (.tuple #[.agg #[.int .i64 at', .int .i64 W], .int .i64 0]) ∧ Below w.heap.size w w') (w : World) :
    Calls Try.prog 7 #[.int .i64 m, .agg #[.int .i64 a, .int .i64 k], .int .i64 r, .int .i64 at'] w fun e w' => e = .returned (.bool true) ∧ Below w.heap.size w w' := by
  go_enter Try.func7, Try.ntmps7
  go_wp2_with fail
  refine (D1 _).mono ?_
  rintro e w1 ⟨rfl, hw1⟩
  have B : At2 w1 w.heap.size (.int .i64 a) (.int .i64 k) := At2.below (by constructor <;> simp [go_sem]) hw1 (by simp <;> omega)
  have hb : Below w.heap.size w w1 := Below.call (by go_grown) (by simp <;> omega) hw1
  clear hw1
  have hs := hb.size
  obtain ⟨b0, b1, b2, b3, b4⟩ := id B
  go_wp2_with fail
  refine (queued_any _).mono ?_
  rintro e w2 ⟨rfl, hw2⟩
  replace hb : Below w.heap.size w w2 := Below.call (show Below w.heap.size w _ by go_grown) (by simp; omega) hw2
  go_wp2
  go_ret
  exact ⟨rfl, hb⟩
set_option maxHeartbeats 4000000 in
set_option maxRecDepth 100000 in
theorem takes_main (m a k r at' W f L : Int) (hm0 : 1 ≤ m) (hm1 : m ≤ 1073741824) (hW0 : 0 ≤ W) (hW1 : W ≤ m * 1000000) (hf : (m * 1000000 - W).tdiv 1000000 = f) (hf0 : 0 ≤ f) (hf9 : f ≤ 1073741824) (f1 : 1 ≤ f) (f2 : f < 9000) (hc : decide (f < 1) = false) (hc' : decide (9000 ≤ f) = false) (hL : at' ≤ L) (D1 : ∀ w, Calls Try.prog 8 #[.int .i64 m, .agg #[.int .i64 a, .int .i64 k], .int .i64 r, .int .i64 at'] w fun e w' => e = .returned (.tuple #[.agg #[.int .i64 at', .int .i64 W], .int .i64 0]) ∧ Below w.heap.size w w')
    (A1 : ∀ w, Calls Try.prog 10 #[.int .i64 m, .agg #[.int .i64 a, .int .i64 k], .int .i64 r, .agg #[.int .i64 at', .int .i64 f]] w fun e w' => e = .returned (.tuple #[.int .i64 L, .agg #[.int .i64 at', .int .i64 (W + f * 1000000)], .int .i64 0]) ∧ Below w.heap.size w w')
    (A2 : ∀ w, Calls Try.prog 10 #[.int .i64 m, .agg #[.int .i64 a, .int .i64 k], .int .i64 r, .agg #[.int .i64 at', .int .i64 (f + 1)]] w fun e w' => e = .returned (.tuple #[.int .i64 0, .agg #[.int .i64 0, .int .i64 0], .int .i64 2]) ∧ Below w.heap.size w w') (w : World) :
    Calls Try.prog 7 #[.int .i64 m, .agg #[.int .i64 a, .int .i64 k], .int .i64 r, .int .i64 at'] w fun e w' => e = .returned (.bool true) ∧ Below w.heap.size w w' := by
  go_enter Try.func7, Try.ntmps7
  go_wp2_with fail
  refine (D1 _).mono ?_
  rintro e w1 ⟨rfl, hw1⟩
  have B : At2 w1 w.heap.size (.int .i64 a) (.int .i64 k) := At2.below (by constructor <;> simp [go_sem]) hw1 (by simp <;> omega)
  have hb : Below w.heap.size w w1 := Below.call (by go_grown) (by simp <;> omega) hw1
  clear hw1
  have hs := hb.size
  obtain ⟨b0, b1, b2, b3, b4⟩ := id B
  go_wp2_with fail
  refine (A1 _).mono ?_
  rintro e w2 ⟨rfl, hw2⟩
  replace B := (B.alloc _).below hw2 (by have := B.lt; simp; omega)
  have X := At2.after_fresh' hw2
  replace hb : Below w.heap.size w w2 := Below.call (show Below w.heap.size w _ by go_grown) (by simp; omega) hw2
  clear hw2 b0 b1 b2 b3 b4
  obtain ⟨b0, b1, b2, b3, b4⟩ := id B
  obtain ⟨x0, x1, x2, x3, x4⟩ := id X
  have hs := hb.size
  go_wp2_with fail
  refine (A2 _).mono ?_
  rintro e w3 ⟨rfl, hw3⟩
  replace X := (X.alloc _).below hw3 (by have := X.lt; simp; omega)
  have Y := At2.after_fresh' hw3
  replace hb : Below w.heap.size w w3 := Below.call (show Below w.heap.size w _ by go_grown) (by simp; omega) hw3
  clear hw3 b0 b1 b2 b3 b4 x0 x1 x2 x3 x4
  obtain ⟨x0, x1, x2, x3, x4⟩ := id X
  obtain ⟨y0, y1, y2, y3, y4⟩ := id Y
  have hs := hb.size
  go_wp2_with fail
  refine (queued_any _).mono ?_
  rintro e w4 ⟨rfl, hw4⟩
  replace X := (X.alloc _).below hw4 (by have := X.lt; simp; omega)
  replace Y := (Y.alloc _).below hw4 (by have := Y.lt; simp; omega)
  have Z := At2.after_fresh' hw4
  replace hb : Below w.heap.size w w4 := Below.call (show Below w.heap.size w _ by go_grown) (by simp; omega) hw4
  clear hw4 x0 x1 x2 x3 x4 y0 y1 y2 y3 y4
  obtain ⟨x0, x1, x2, x3, x4⟩ := id X
  obtain ⟨y0, y1, y2, y3, y4⟩ := id Y
  obtain ⟨z0, z1, z2, z3, z4⟩ := id Z
  go_wp2
  go_ret
  exact ⟨rfl, hb⟩
theorem walk_takes (m a k r at' : Int) (m_0 : -9223372036854775808 ≤ m) (m_1 : m ≤ 9223372036854775807) (a_0 : -9223372036854775808 ≤ a) (a_1 : a ≤ 9223372036854775807) (k_0 : -9223372036854775808 ≤ k) (k_1 : k ≤ 9223372036854775807) (r_0 : -9223372036854775808 ≤ r) (r_1 : r ≤ 9223372036854775807) (t_0 : -9223372036854775808 ≤ at') (t_1 : at' ≤ 9223372036854775807) (w : World) :
    Calls Try.prog 7 #[.int .i64 m, .agg #[.int .i64 a, .int .i64 k], .int .i64 r, .int .i64 at'] w fun e w' => e = .returned (.bool true) ∧ Below w.heap.size w w' := by
  have D1 := fun w => drain_any m a k r at' w
  by_cases h1 : drE m a k r at' = 0
  · obtain ⟨i1, ⟨i2, i3⟩, ⟨i4, i5⟩, i6, i7, i8⟩ := dr_ok h1
    obtain ⟨g1, g2⟩ := dr_bd h1
    obtain ⟨⟨g3, g4⟩, _, g5, g6⟩ := isq_iff.1 g1
    rw [h1, i7] at D1
    obtain ⟨f, hf⟩ : ∃ f, (m * 1000000 - drW m a k r at').tdiv 1000000 = f := ⟨_, rfl⟩
    have hf2 : (m * 1000000 - drW m a k r at') / 1000000 = f := by rw [← hf]; exact (Int.tdiv_eq_ediv_of_nonneg (by omega)).symm
    rcases Int.lt_or_le f 1 with c1 | c1
    · exact takes_low m a k r at' _ f g3 g4 g5 g6 hf (by omega) (by omega) c1 D1 w
    · rcases Int.lt_or_le f 9000 with c2 | c2
      · have hA : arE m a k r at' f = 0 := by unfold arE; rw [if_pos h1, if_pos (wi_iff.2 ⟨c1, by omega⟩), if_neg (by omega)]
        have hB : arE m a k r at' (f + 1) = 2 := by unfold arE; rw [if_pos h1, if_pos (wi_iff.2 ⟨by omega, by omega⟩), if_pos (by omega)]
        obtain ⟨_, _, _, _, l5, l6⟩ := ar_ok hA
        obtain ⟨n1, n2, n3⟩ := ar_no (show arE m a k r at' (f + 1) ≠ 0 by rw [hB]; decide)
        have hL := (arL_bd hA).2.1
        have A1 := fun w => arrive_any m a k r at' f w
        have A2 := fun w => arrive_any m a k r at' (f + 1) w
        rw [hA, l5, l6] at A1
        rw [hB, n1, n2, n3] at A2
        exact takes_main m a k r at' _ f _ g3 g4 g5 g6 hf (by omega) (by omega) c1 c2 (decide_eq_false (by omega)) (decide_eq_false (by omega)) hL D1 A1 A2 w
      · exact takes_high m a k r at' _ f g3 g4 g5 g6 hf (by omega) (by omega) (decide_eq_false (by omega)) c2 D1 w
  · obtain ⟨i1, i2⟩ := dr_no h1
    rw [i1, i2] at D1
    exact takes_err m a k r at' _ (by simp [h1]) (by simp [h1]) D1 w
end Go.Proofs.Ytiikdbadbocjcaa
namespace Go.Proofs.Ytiikdbadbocjcaa.queueTakes
open Go.ChangeShapes Go.WideShapes Go.ChangeAt Go.RowKit Go.Joins
set_option linter.unusedVariables false

theorem own : ownKnob Try.prog.godebug = none := by kernel_rfl
theorem laidOut : laidOutB Try.prog = true := by kernel_rfl
theorem cells23 : Try.prog.cellsOf 23 = 2 := by kernel_rfl
theorem word_of {x : Int} (h : (Lit.int .u64 x).wf = true) : 0 ≤ x ∧ x ≤ 18446744073709551615 := by
  simp [Lit.wf, IntKind.min, IntKind.max, IntKind.signed, IntKind.bits] at h
  exact ⟨by omega, by omega⟩
theorem int_of {x : Int} (h : (Lit.int .i64 x).wf = true) : -9223372036854775808 ≤ x ∧ x ≤ 9223372036854775807 := by
  simp [Lit.wf, IntKind.min, IntKind.max, IntKind.signed, IntKind.bits] at h
  exact ⟨by omega, by omega⟩

set_option maxRecDepth 100000 in
theorem lifted (os : Os) (started : os.Started) (H : Type) (enc : TypeId × Value → H) :
    ReturnsInHanded {} Try.checked os 7 .any (Rows.queueTakesSpec.pre6 enc Try.prog Try.f7 Rows.queueTakesRow.domain false) (Rows.queueTakesSpec.post enc Try.prog Try.f7 false true false false) := by
  refine returnsInHanded_of_change (C := Try.checked) own started (by kernel_rfl) Try.func7
    (ChangeSpec.witness6 (enc := enc) (C := Try.checked) false ⟨#[], #[.int .i64 0, .agg #[.int .i64 0, .int .i64 0], .int .i64 0, .int .i64 0], []⟩ 8 (by kernel_rfl) (by kernel_rfl) (by kernel_rfl) (by kernel_rfl)) ?_
  intro W base args ds gs before hval0 hW hcnd _
  have hval : ∀ (j : Nat) t v, Try.f7.params[j]? = some t → args[j]? = some v → Value.okWide Try.prog W .any base t v := hval0
  have hW' := hW
  obtain ⟨p, q, hA0, hV, rfl, hfz, hnd⟩ := hW
  have hA : DataW.TrodAll enc Try.prog W 0 (fun _ => true) true Try.f7.params.toList args.toList ds p := hA0
  rw [Try.params7] at hA hval
  obtain ⟨v0, vs0, d0, ds0, p0, q0, hargs, rfl, rfl, h0, r0⟩ := trodAll_cons hA
  obtain ⟨v1, vs1, d1, ds1, p1, q1, rfl, rfl, rfl, h1, r1⟩ := trodAll_cons r0
  obtain ⟨v2, vs2, d2, ds2, p2, q2, rfl, rfl, rfl, h2, r2⟩ := trodAll_cons r1
  obtain ⟨v3, vs3, d3, ds3, p3, q3, rfl, rfl, rfl, h3, r3⟩ := trodAll_cons r2
  obtain ⟨rfl, rfl, rfl⟩ := trodAll_nil r3
  obtain rfl : args = #[v0, v1, v2, v3] := by cases args; simp_all
  obtain ⟨rfl, rfl⟩ := trodVars_none hV
  obtain ⟨a0, rfl, rfl, rfl, w0⟩ := open_int Try.underlying3 (hval 0 3 v0 rfl rfl) h0
  have k1 := h1
  have lt1 : ∀ x ∈ p1, x.block < W.heap.size := by obtain ⟨m, hm⟩ := k1; exact DataW.trod_lt m _ _ _ hm
  obtain ⟨c1a, c1b, y1a, y1b, m1, rfl, rfl, rfl, hy1a, hy1b⟩ := open_agg2 Try.underlying23 (by kernel_rfl) cells23 (hval 1 23 v1 rfl rfl) h1
  obtain ⟨x1a, e1a, rfl, w1a⟩ := DataW.trod_int Try.underlying3 hy1a
  obtain ⟨x1b, e1b, rfl, w1b⟩ := DataW.trod_int Try.underlying3 hy1b
  simp at e1a e1b
  subst e1a e1b
  obtain ⟨a2, rfl, rfl, rfl, w2⟩ := open_int Try.underlying3 (hval 2 3 v2 rfl rfl) h2
  obtain ⟨a3, rfl, rfl, rfl, w3⟩ := open_int Try.underlying3 (hval 3 3 v3 rfl rfl) h3
  clear hA0 hval0
  refine (walk_takes a0 x1a x1b a2 a3 (int_of w0).1 (int_of w0).2 (int_of w1a).1 (int_of w1a).2 (int_of w1b).1 (int_of w1b).2 (int_of w2).1 (int_of w2).2 (int_of w3).1 (int_of w3).2 W).mono fun e W' ⟨he, bel⟩ => ?_
  subst he
  exact ⟨_, rfl, _, _, _, [], _, [], hW', trodAll_mk1 (shut_bool Try.underlying4 _), (trodAll_cons_mk (shut_int Try.underlying3 w0) (trodAll_cons_mk (Below.trod laidOut (by kernel_rfl) (of_decide_eq_true (by kernel_rfl)) k1 bel lt1) (trodAll_cons_mk (shut_int Try.underlying3 w2) (trodAll_cons_mk (shut_int Try.underlying3 w3) trodAll_mk0)))), rfl, bel.frame _, fun h => by cases h⟩

theorem over : Rows.queueTakesRow.holds Try.pinned (OpenSpec.ofChange Rows.queueTakesSpec) :=
  OpenClaim.holds_of_wide 7 Try.f7 rfl rfl rfl rfl rfl rfl rfl ⟨rfl, rfl, rfl, rfl, rfl⟩ rfl rfl rfl rfl rfl (by kernel_rfl) Try.func7 (by kernel_rfl)
    (of_decide_eq_true (by kernel_rfl)) (by unfold Func.isWrapper; first | (rw [if_pos (by decide +kernel)]; kernel_rfl) | (rw [if_neg (by decide +kernel)]; exact ⟨rfl, rfl⟩))
    (fun os started H enc _ => lifted os started H enc)
theorem proved : Rows.QueueTakesSaid := over
#print axioms proved
end Go.Proofs.Ytiikdbadbocjcaa.queueTakes
