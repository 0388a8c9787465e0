/-
  QueueSplits: for any room, queue, rate and times to drain in two steps is to drain in one, and what is left is a right queue; what is refused is an empty one. No conditions.
-/
import Derived.Test.YtiikdbadbocjcaaMC
import Derived.Test.YtiikdbadbocjcaaRows
import Derived.WalkKit
import Derived.ProofKit
import Derived.OpenShut
import Derived.ChangeOld
import Derived.Below
import Derived.Lib.SmallJoins
namespace Go.Proofs.Ytiikdbadbocjcaa
open Go.RowKit
set_option linter.unusedVariables false
set_option maxHeartbeats 4000000 in
set_option maxRecDepth 100000 in
theorem splits_no (m a k r mid at' : Int) (A2 W2 E2 A3 W3 E3 E1 : Int) (hE : (E1 == 0) = false) (hE' : (E1 != 0) = true)
    (D1 : ∀ w, Calls Try.prog 8 #[.int .i64 m, .agg #[.int .i64 a, .int .i64 k], .int .i64 r, .int .i64 mid] w fun e w' => e = .returned (.tuple #[.agg #[.int .i64 0, .int .i64 0], .int .i64 E1]) ∧ Below w.heap.size w w')
    (D2 : ∀ w, Calls Try.prog 8 #[.int .i64 m, .agg #[.int .i64 0, .int .i64 0], .int .i64 r, .int .i64 at'] w fun e w' => e = .returned (.tuple #[.agg #[.int .i64 A2, .int .i64 W2], .int .i64 E2]) ∧ Below w.heap.size w w')
    (D3 : ∀ w, Calls Try.prog 8 #[.int .i64 m, .agg #[.int .i64 a, .int .i64 k], .int .i64 r, .int .i64 at'] w fun e w' => e = .returned (.tuple #[.agg #[.int .i64 A3, .int .i64 W3], .int .i64 E3]) ∧ Below w.heap.size w w') (w : World) :
    Calls Try.prog 6 #[.int .i64 m, .agg #[.int .i64 a, .int .i64 k], .int .i64 r, .int .i64 mid, .int .i64 at'] w fun e w' => e = .returned (.bool true) ∧ Below w.heap.size w w' := by
  go_enter Try.func6, Try.ntmps6
  go_wp2_with fail
  refine (D1 _).mono ?_
  rintro e w1 ⟨rfl, hw1⟩
  have B : At2 w1 w.heap.size (.int .i64 a) (.int .i64 k) := At2.below (by constructor <;> simp [go_sem]) hw1 (by simp <;> omega)
  have hb : Below w.heap.size w w1 := Below.call (by go_grown) (by simp <;> omega) hw1
  clear hw1
  have hs := hb.size
  obtain ⟨b0, b1, b2, b3, b4⟩ := id B
  go_wp2_with fail
  refine (D2 _).mono ?_
  rintro e w2 ⟨rfl, hw2⟩
  replace B := (B.alloc _).below hw2 (by have := B.lt; simp; omega)
  have X := At2.after_fresh' hw2
  replace hb : Below w.heap.size w w2 := Below.call (show Below w.heap.size w _ by go_grown) (by simp; omega) hw2
  clear hw2
  clear b0 b1 b2 b3 b4
  obtain ⟨b0, b1, b2, b3, b4⟩ := id B
  obtain ⟨x0, x1, x2, x3, x4⟩ := id X
  have hs := hb.size
  go_wp2_with fail
  refine (D3 _).mono ?_
  rintro e w3 ⟨rfl, hw3⟩
  replace B := (B.alloc _).below hw3 (by have := B.lt; simp; omega)
  replace X := (X.alloc _).below hw3 (by have := X.lt; simp; omega)
  have Y := At2.after_fresh' hw3
  replace hb : Below w.heap.size w w3 := Below.call (show Below w.heap.size w _ by go_grown) (by simp; omega) hw3
  clear hw3
  clear b0 b1 b2 b3 b4 x0 x1 x2 x3 x4
  obtain ⟨b0, b1, b2, b3, b4⟩ := id B
  obtain ⟨x0, x1, x2, x3, x4⟩ := id X
  obtain ⟨y0, y1, y2, y3, y4⟩ := id Y
  have hs := hb.size
  go_wp2_with fail
  refine (queued_any _).mono ?_
  rintro e w4 ⟨rfl, hw4⟩
  replace B := (B.alloc _).below hw4 (by have := B.lt; simp; omega)
  replace X := (X.alloc _).below hw4 (by have := X.lt; simp; omega)
  replace Y := (Y.alloc _).below hw4 (by have := Y.lt; simp; omega)
  have Z := At2.after_fresh' hw4
  replace hb : Below w.heap.size w w4 := Below.call (show Below w.heap.size w _ by go_grown) (by simp; omega) hw4
  clear hw4
  clear b0 b1 b2 b3 b4 x0 x1 x2 x3 x4 y0 y1 y2 y3 y4
  obtain ⟨b0, b1, b2, b3, b4⟩ := id B
  obtain ⟨x0, x1, x2, x3, x4⟩ := id X
  obtain ⟨y0, y1, y2, y3, y4⟩ := id Y
  obtain ⟨z0, z1, z2, z3, z4⟩ := id Z
  have hs := hb.size
  go_wp2
  go_ret
  exact ⟨rfl, hb⟩
set_option maxHeartbeats 4000000 in
set_option maxRecDepth 100000 in
theorem splits_mid (m a k r mid at' : Int) (A1 W1 E2 A2 W2 A3 W3 E3 : Int) (hE : (E2 == 0) = false) (hE' : (E2 != 0) = true)
    (D1 : ∀ w, Calls Try.prog 8 #[.int .i64 m, .agg #[.int .i64 a, .int .i64 k], .int .i64 r, .int .i64 mid] w fun e w' => e = .returned (.tuple #[.agg #[.int .i64 A1, .int .i64 W1], .int .i64 0]) ∧ Below w.heap.size w w')
    (D2 : ∀ w, Calls Try.prog 8 #[.int .i64 m, .agg #[.int .i64 A1, .int .i64 W1], .int .i64 r, .int .i64 at'] w fun e w' => e = .returned (.tuple #[.agg #[.int .i64 A2, .int .i64 W2], .int .i64 E2]) ∧ Below w.heap.size w w')
    (D3 : ∀ w, Calls Try.prog 8 #[.int .i64 m, .agg #[.int .i64 a, .int .i64 k], .int .i64 r, .int .i64 at'] w fun e w' => e = .returned (.tuple #[.agg #[.int .i64 A3, .int .i64 W3], .int .i64 E3]) ∧ Below w.heap.size w w') (w : World) :
    Calls Try.prog 6 #[.int .i64 m, .agg #[.int .i64 a, .int .i64 k], .int .i64 r, .int .i64 mid, .int .i64 at'] w fun e w' => e = .returned (.bool true) ∧ Below w.heap.size w w' := by
  go_enter Try.func6, Try.ntmps6
  go_wp2_with fail
  refine (D1 _).mono ?_
  rintro e w1 ⟨rfl, hw1⟩
  have B : At2 w1 w.heap.size (.int .i64 a) (.int .i64 k) := At2.below (by constructor <;> simp [go_sem]) hw1 (by simp <;> omega)
  have hb : Below w.heap.size w w1 := Below.call (by go_grown) (by simp <;> omega) hw1
  clear hw1
  have hs := hb.size
  obtain ⟨b0, b1, b2, b3, b4⟩ := id B
  go_wp2_with fail
  refine (D2 _).mono ?_
  rintro e w2 ⟨rfl, hw2⟩
  replace B := (B.alloc _).below hw2 (by have := B.lt; simp; omega)
  have X := At2.after_fresh' hw2
  replace hb : Below w.heap.size w w2 := Below.call (show Below w.heap.size w _ by go_grown) (by simp; omega) hw2
  clear hw2
  clear b0 b1 b2 b3 b4
  obtain ⟨b0, b1, b2, b3, b4⟩ := id B
  obtain ⟨x0, x1, x2, x3, x4⟩ := id X
  have hs := hb.size
  go_wp2_with fail
  refine (D3 _).mono ?_
  rintro e w3 ⟨rfl, hw3⟩
  replace B := (B.alloc _).below hw3 (by have := B.lt; simp; omega)
  replace X := (X.alloc _).below hw3 (by have := X.lt; simp; omega)
  have Y := At2.after_fresh' hw3
  replace hb : Below w.heap.size w w3 := Below.call (show Below w.heap.size w _ by go_grown) (by simp; omega) hw3
  clear hw3
  clear b0 b1 b2 b3 b4 x0 x1 x2 x3 x4
  obtain ⟨b0, b1, b2, b3, b4⟩ := id B
  obtain ⟨x0, x1, x2, x3, x4⟩ := id X
  obtain ⟨y0, y1, y2, y3, y4⟩ := id Y
  have hs := hb.size
  go_wp2_with fail
  refine (queued_any _).mono ?_
  rintro e w4 ⟨rfl, hw4⟩
  replace B := (B.alloc _).below hw4 (by have := B.lt; simp; omega)
  replace X := (X.alloc _).below hw4 (by have := X.lt; simp; omega)
  replace Y := (Y.alloc _).below hw4 (by have := Y.lt; simp; omega)
  have Z := At2.after_fresh' hw4
  replace hb : Below w.heap.size w w4 := Below.call (show Below w.heap.size w _ by go_grown) (by simp; omega) hw4
  clear hw4
  clear b0 b1 b2 b3 b4 x0 x1 x2 x3 x4 y0 y1 y2 y3 y4
  obtain ⟨b0, b1, b2, b3, b4⟩ := id B
  obtain ⟨x0, x1, x2, x3, x4⟩ := id X
  obtain ⟨y0, y1, y2, y3, y4⟩ := id Y
  obtain ⟨z0, z1, z2, z3, z4⟩ := id Z
  have hs := hb.size
  go_wp2
  go_ret
  exact ⟨rfl, hb⟩
set_option maxHeartbeats 4000000 in
set_option maxRecDepth 100000 in
theorem splits_yes (m a k r mid at' : Int) (A1 W1 A2 W2 : Int) (hle : W2 ≤ k) (hi : isq m A2 W2 = true)
    (D1 : ∀ w, Calls Try.prog 8 #[.int .i64 m, .agg #[.int .i64 a, .int .i64 k], .int .i64 r, .int .i64 mid] w fun e w' => e = .returned (.tuple #[.agg #[.int .i64 A1, .int .i64 W1], .int .i64 0]) ∧ Below w.heap.size w w')
    (D2 : ∀ w, Calls Try.prog 8 #[.int .i64 m, .agg #[.int .i64 A1, .int .i64 W1], .int .i64 r, .int .i64 at'] w fun e w' => e = .returned (.tuple #[.agg #[.int .i64 A2, .int .i64 W2], .int .i64 0]) ∧ Below w.heap.size w w')
    (D3 : ∀ w, Calls Try.prog 8 #[.int .i64 m, .agg #[.int .i64 a, .int .i64 k], .int .i64 r, .int .i64 at'] w fun e w' => e = .returned (.tuple #[.agg #[.int .i64 A2, .int .i64 W2], .int .i64 0]) ∧ Below w.heap.size w w') (w : World) :
    Calls Try.prog 6 #[.int .i64 m, .agg #[.int .i64 a, .int .i64 k], .int .i64 r, .int .i64 mid, .int .i64 at'] w fun e w' => e = .returned (.bool true) ∧ Below w.heap.size w w' := by
  go_enter Try.func6, Try.ntmps6
  go_wp2_with fail
  refine (D1 _).mono ?_
  rintro e w1 ⟨rfl, hw1⟩
  have B : At2 w1 w.heap.size (.int .i64 a) (.int .i64 k) := At2.below (by constructor <;> simp [go_sem]) hw1 (by simp <;> omega)
  have hb : Below w.heap.size w w1 := Below.call (by go_grown) (by simp <;> omega) hw1
  clear hw1
  have hs := hb.size
  obtain ⟨b0, b1, b2, b3, b4⟩ := id B
  go_wp2_with fail
  refine (D2 _).mono ?_
  rintro e w2 ⟨rfl, hw2⟩
  replace B := (B.alloc _).below hw2 (by have := B.lt; simp; omega)
  have X := At2.after_fresh' hw2
  replace hb : Below w.heap.size w w2 := Below.call (show Below w.heap.size w _ by go_grown) (by simp; omega) hw2
  clear hw2
  clear b0 b1 b2 b3 b4
  obtain ⟨b0, b1, b2, b3, b4⟩ := id B
  obtain ⟨x0, x1, x2, x3, x4⟩ := id X
  have hs := hb.size
  go_wp2_with fail
  refine (D3 _).mono ?_
  rintro e w3 ⟨rfl, hw3⟩
  replace B := (B.alloc _).below hw3 (by have := B.lt; simp; omega)
  replace X := (X.alloc _).below hw3 (by have := X.lt; simp; omega)
  have Y := At2.after_fresh' hw3
  replace hb : Below w.heap.size w w3 := Below.call (show Below w.heap.size w _ by go_grown) (by simp; omega) hw3
  clear hw3
  clear b0 b1 b2 b3 b4 x0 x1 x2 x3 x4
  obtain ⟨b0, b1, b2, b3, b4⟩ := id B
  obtain ⟨x0, x1, x2, x3, x4⟩ := id X
  obtain ⟨y0, y1, y2, y3, y4⟩ := id Y
  have hs := hb.size
  go_wp2_with fail
  refine (queued_any _).mono ?_
  rintro e w4 ⟨rfl, hw4⟩
  replace B := (B.alloc _).below hw4 (by have := B.lt; simp; omega)
  replace X := (X.alloc _).below hw4 (by have := X.lt; simp; omega)
  replace Y := (Y.alloc _).below hw4 (by have := Y.lt; simp; omega)
  have Z := At2.after_fresh' hw4
  replace hb : Below w.heap.size w w4 := Below.call (show Below w.heap.size w _ by go_grown) (by simp; omega) hw4
  clear hw4
  clear b0 b1 b2 b3 b4 x0 x1 x2 x3 x4 y0 y1 y2 y3 y4
  obtain ⟨b0, b1, b2, b3, b4⟩ := id B
  obtain ⟨x0, x1, x2, x3, x4⟩ := id X
  obtain ⟨y0, y1, y2, y3, y4⟩ := id Y
  obtain ⟨z0, z1, z2, z3, z4⟩ := id Z
  have hs := hb.size
  go_wp2_with fail
  refine (isq_any m A2 W2 true hi _).mono ?_
  rintro e w5 ⟨rfl, hw5⟩
  replace hb := Below.call hb hb.size hw5
  go_wp2
  go_ret
  exact ⟨rfl, hb⟩
theorem walk_splits (m a k r mid at' : Int) (m_0 : -9223372036854775808 ≤ m) (m_1 : m ≤ 9223372036854775807) (a_0 : -9223372036854775808 ≤ a) (a_1 : a ≤ 9223372036854775807) (k_0 : -9223372036854775808 ≤ k) (k_1 : k ≤ 9223372036854775807) (r_0 : -9223372036854775808 ≤ r) (r_1 : r ≤ 9223372036854775807) (d_0 : -9223372036854775808 ≤ mid) (d_1 : mid ≤ 9223372036854775807) (t_0 : -9223372036854775808 ≤ at') (t_1 : at' ≤ 9223372036854775807) (w : World) :
    Calls Try.prog 6 #[.int .i64 m, .agg #[.int .i64 a, .int .i64 k], .int .i64 r, .int .i64 mid, .int .i64 at'] w fun e w' => e = .returned (.bool true) ∧ Below w.heap.size w w' := by
  have D1 := fun w => drain_any m a k r mid w
  have D3 := fun w => drain_any m a k r at' w
  by_cases h1 : drE m a k r mid = 0
  · obtain ⟨i1, ⟨i2, i3⟩, ⟨i4, i5⟩, i6, i7, i8⟩ := dr_ok h1
    rw [h1, i7, i8] at D1
    have D2 := fun w => drain_any m mid (lft k r (mid - a)) r at' w
    obtain ⟨_, _, k4, k5⟩ := isq_iff.1 i1
    by_cases h2 : drE m mid (lft k r (mid - a)) r at' = 0
    · obtain ⟨j1, _, ⟨j4, j5⟩, j6, j7, j8⟩ := dr_ok h2
      have h3 : drE m a k r at' = 0 := dr_is i1 i2 i3 j4 j5 (by omega)
      obtain ⟨_, _, _, _, l7, l8⟩ := dr_ok h3
      obtain ⟨b1, b2⟩ := dr_bd h2
      have e := lft_lft (w := k) (r := r) (s := mid - a) (u := at' - mid) (by omega) k4 (by omega) (by omega)
      rw [show mid - a + (at' - mid) = at' - a by omega] at e
      have b3 := (lft_bd (w := k) (r := r) (s := at' - a) (by omega) k4 (by omega)).2
      rw [h2, j7, j8, e] at D2
      rw [h3, l7, l8] at D3
      rw [j7, j8, e] at b1
      exact splits_yes m a k r mid at' _ _ _ _ b3 b1 D1 D2 D3 w
    · exact splits_mid m a k r mid at' _ _ _ _ _ _ _ _ (by simp [h2]) (by simp [h2]) D1 D2 D3 w
  · obtain ⟨i1, i2⟩ := dr_no h1
    rw [i1, i2] at D1
    exact splits_no m a k r mid at' _ _ _ _ _ _ _ (by simp [h1]) (by simp [h1]) D1 (fun w => drain_any m 0 0 r at' w) D3 w
end Go.Proofs.Ytiikdbadbocjcaa
namespace Go.Proofs.Ytiikdbadbocjcaa.queueSplits
open Go.ChangeShapes Go.WideShapes Go.ChangeAt Go.RowKit Go.Joins
set_option linter.unusedVariables false

theorem own : ownKnob Try.prog.godebug = none := by kernel_rfl
theorem laidOut : laidOutB Try.prog = true := by kernel_rfl
theorem cells23 : Try.prog.cellsOf 23 = 2 := by kernel_rfl
theorem word_of {x : Int} (h : (Lit.int .u64 x).wf = true) : 0 ≤ x ∧ x ≤ 18446744073709551615 := by
  simp [Lit.wf, IntKind.min, IntKind.max, IntKind.signed, IntKind.bits] at h
  exact ⟨by omega, by omega⟩
theorem int_of {x : Int} (h : (Lit.int .i64 x).wf = true) : -9223372036854775808 ≤ x ∧ x ≤ 9223372036854775807 := by
  simp [Lit.wf, IntKind.min, IntKind.max, IntKind.signed, IntKind.bits] at h
  exact ⟨by omega, by omega⟩

set_option maxRecDepth 100000 in
theorem lifted (os : Os) (started : os.Started) (H : Type) (enc : TypeId × Value → H) :
    ReturnsInHanded {} Try.checked os 6 .any (Rows.queueSplitsSpec.pre6 enc Try.prog Try.f6 Rows.queueSplitsRow.domain false) (Rows.queueSplitsSpec.post enc Try.prog Try.f6 false true false false) := by
  refine returnsInHanded_of_change (C := Try.checked) own started (by kernel_rfl) Try.func6
    (ChangeSpec.witness6 (enc := enc) (C := Try.checked) false ⟨#[], #[.int .i64 0, .agg #[.int .i64 0, .int .i64 0], .int .i64 0, .int .i64 0, .int .i64 0], []⟩ 8 (by kernel_rfl) (by kernel_rfl) (by kernel_rfl) (by kernel_rfl)) ?_
  intro W base args ds gs before hval0 hW hcnd _
  have hval : ∀ (j : Nat) t v, Try.f6.params[j]? = some t → args[j]? = some v → Value.okWide Try.prog W .any base t v := hval0
  have hW' := hW
  obtain ⟨p, q, hA0, hV, rfl, hfz, hnd⟩ := hW
  have hA : DataW.TrodAll enc Try.prog W 0 (fun _ => true) true Try.f6.params.toList args.toList ds p := hA0
  rw [Try.params6] at hA hval
  obtain ⟨v0, vs0, d0, ds0, p0, q0, hargs, rfl, rfl, h0, r0⟩ := trodAll_cons hA
  obtain ⟨v1, vs1, d1, ds1, p1, q1, rfl, rfl, rfl, h1, r1⟩ := trodAll_cons r0
  obtain ⟨v2, vs2, d2, ds2, p2, q2, rfl, rfl, rfl, h2, r2⟩ := trodAll_cons r1
  obtain ⟨v3, vs3, d3, ds3, p3, q3, rfl, rfl, rfl, h3, r3⟩ := trodAll_cons r2
  obtain ⟨v4, vs4, d4, ds4, p4, q4, rfl, rfl, rfl, h4, r4⟩ := trodAll_cons r3
  obtain ⟨rfl, rfl, rfl⟩ := trodAll_nil r4
  obtain rfl : args = #[v0, v1, v2, v3, v4] := by cases args; simp_all
  obtain ⟨rfl, rfl⟩ := trodVars_none hV
  obtain ⟨a0, rfl, rfl, rfl, w0⟩ := open_int Try.underlying3 (hval 0 3 v0 rfl rfl) h0
  have k1 := h1
  have lt1 : ∀ x ∈ p1, x.block < W.heap.size := by obtain ⟨m, hm⟩ := k1; exact DataW.trod_lt m _ _ _ hm
  obtain ⟨c1a, c1b, y1a, y1b, m1, rfl, rfl, rfl, hy1a, hy1b⟩ := open_agg2 Try.underlying23 (by kernel_rfl) cells23 (hval 1 23 v1 rfl rfl) h1
  obtain ⟨x1a, e1a, rfl, w1a⟩ := DataW.trod_int Try.underlying3 hy1a
  obtain ⟨x1b, e1b, rfl, w1b⟩ := DataW.trod_int Try.underlying3 hy1b
  simp at e1a e1b
  subst e1a e1b
  obtain ⟨a2, rfl, rfl, rfl, w2⟩ := open_int Try.underlying3 (hval 2 3 v2 rfl rfl) h2
  obtain ⟨a3, rfl, rfl, rfl, w3⟩ := open_int Try.underlying3 (hval 3 3 v3 rfl rfl) h3
  obtain ⟨a4, rfl, rfl, rfl, w4⟩ := open_int Try.underlying3 (hval 4 3 v4 rfl rfl) h4
  clear hA0 hval0
  refine (walk_splits a0 x1a x1b a2 a3 a4 (int_of w0).1 (int_of w0).2 (int_of w1a).1 (int_of w1a).2 (int_of w1b).1 (int_of w1b).2 (int_of w2).1 (int_of w2).2 (int_of w3).1 (int_of w3).2 (int_of w4).1 (int_of w4).2 W).mono fun e W' ⟨he, bel⟩ => ?_
  subst he
  exact ⟨_, rfl, _, _, _, [], _, [], hW', trodAll_mk1 (shut_bool Try.underlying4 _), (trodAll_cons_mk (shut_int Try.underlying3 w0) (trodAll_cons_mk (Below.trod laidOut (by kernel_rfl) (of_decide_eq_true (by kernel_rfl)) k1 bel lt1) (trodAll_cons_mk (shut_int Try.underlying3 w2) (trodAll_cons_mk (shut_int Try.underlying3 w3) (trodAll_cons_mk (shut_int Try.underlying3 w4) trodAll_mk0))))), rfl, bel.frame _, fun h => by cases h⟩

theorem over : Rows.queueSplitsRow.holds Try.pinned (OpenSpec.ofChange Rows.queueSplitsSpec) :=
  OpenClaim.holds_of_wide 6 Try.f6 rfl rfl rfl rfl rfl rfl rfl ⟨rfl, rfl, rfl, rfl, rfl⟩ rfl rfl rfl rfl rfl (by kernel_rfl) Try.func6 (by kernel_rfl)
    (of_decide_eq_true (by kernel_rfl)) (by unfold Func.isWrapper; first | (rw [if_pos (by decide +kernel)]; kernel_rfl) | (rw [if_neg (by decide +kernel)]; exact ⟨rfl, rfl⟩))
    (fun os started H enc _ => lifted os started H enc)
theorem proved : Rows.QueueSplitsSaid := over
#print axioms proved
end Go.Proofs.Ytiikdbadbocjcaa.queueSplits
