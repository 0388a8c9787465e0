/-
  DrawJoins: for any source and two numbers, draws of two rows, one behind the other, are draws of one. No conditions.
-/
import Derived.Test.YtfpchofihofojaaQ13
import Derived.Test.YtfpchofihofojaaOS
import Derived.Test.YtfpchofihofojaaRows
import Derived.WalkKit
import Derived.ProofKit
import Derived.OpenShut
import Derived.ChangeOld
import Derived.Below
import Derived.Lib.SmallJoins
namespace Go.Proofs.Ytfpchofihofojaa
open Go.RowKit
set_option linter.unusedVariables false
theorem many_at (k s i p a : Int) (A : Nat) (ao : Option Addr) (n c : Nat) (zs : List Int) (h0 : 0 ≤ s) (h1 : s ≤ 18446744073709551615) (i0 : 0 ≤ i) (i1 : i ≤ 18446744073709551615) (hA : (A : Int) = a) (ha : A ≤ 1000) (w : World) (hz : Row .u64 w ao n c zs) :
    Calls Try.prog 17 #[.agg #[.int .i64 k, .int .u64 s, .int .u64 i, .slice ao n c, .int .i64 p], .int .i64 a] w fun e w' => ∃ bo d, e = .returned (.tuple #[.slice bo A d, .agg #[.int .i64 k, .int .u64 (sN k s i A), .int .u64 i, .slice ao n c, .int .i64 (pN k p zs A)]]) ∧
      Row .i64 w' bo A d (dN k s i p zs A) ∧ Below w.heap.size w w' := by
  have e : manyN a = A := by unfold manyN; omega
  have := many_any k s i p a ao n c zs h0 h1 i0 i1 w hz
  rwa [e] at this
set_option maxHeartbeats 4000000 in
set_option maxRecDepth 100000 in
theorem walk_joins (k s i p : Int) (ao : Option Addr) (n c : Nat) (zs : List Int) (a b : Int) (h0 : 0 ≤ s) (h1 : s ≤ 18446744073709551615) (i0 : 0 ≤ i) (i1 : i ≤ 18446744073709551615) (k0 : -9223372036854775808 ≤ k) (k1 : k ≤ 9223372036854775807) (p0 : -9223372036854775808 ≤ p) (p1 : p ≤ 9223372036854775807)
    (a0 : -9223372036854775808 ≤ a) (a1 : a ≤ 9223372036854775807) (b0 : -9223372036854775808 ≤ b) (b1 : b ≤ 9223372036854775807) (w : World) (hz : Row .u64 w ao n c zs) :
    Calls Try.prog 7 #[.agg #[.int .i64 k, .int .u64 s, .int .u64 i, .slice ao n c, .int .i64 p], .int .i64 a, .int .i64 b] w fun e w' => e = .returned (.bool true) ∧ Below w.heap.size w w' := by
  by_cases e1 : a < 0
  · go_enter Try.func7, Try.ntmps7
    go_wp2
    go_ret
    exact ⟨rfl, by go_grown⟩
  by_cases e2 : b < 0
  · go_enter Try.func7, Try.ntmps7
    go_wp2
    go_ret
    exact ⟨rfl, by go_grown⟩
  by_cases e3 : 400 < a
  · go_enter Try.func7, Try.ntmps7
    go_wp2
    go_ret
    exact ⟨rfl, by go_grown⟩
  by_cases e4 : 400 < b
  · go_enter Try.func7, Try.ntmps7
    go_wp2
    go_ret
    exact ⟨rfl, by go_grown⟩
  by_cases e5 : (2000 : Int) < n
  · have hbig : decide ((2000 : Int) < n) = true := by simpa using e5
    have G := fun w => big_any k s i p ao n c w
    rw [hbig] at G
    go_enter Try.func7, Try.ntmps7
    go_wp2_with fail
    refine (G _).mono ?_
    rintro e w1 ⟨rfl, hw1⟩
    have g1 : Below w.heap.size w w1 := Below.call (by go_grown) (by simp) hw1
    go_wp2
    go_ret
    exact ⟨rfl, g1⟩
  have hbig : decide ((2000 : Int) < n) = false := by simpa using e5
  have G := fun w => big_any k s i p ao n c w
  rw [hbig] at G
  clear hbig e5
  obtain ⟨A, hA⟩ : ∃ A : Nat, (A : Int) = a := ⟨a.toNat, by omega⟩
  obtain ⟨E, hE⟩ : ∃ E : Nat, (E : Int) = b := ⟨b.toNat, by omega⟩
  have C1 := fun w hz => many_at k s i p a A ao n c zs h0 h1 i0 i1 hA (by omega) w hz
  have bs := sN_bd (k := k) (i := i) h0 h1 A
  have C2 := fun w hz => many_at k (sN k s i A) i (pN k p zs A) b E ao n c zs bs.1 bs.2 i0 i1 hE (by omega) w hz
  have C3 := fun w hz => many_at k s i p (a + b) (A + E) ao n c zs h0 h1 i0 i1 (by omega) (by omega) w hz
  rw [← sN_add, ← pN_add, ← dN_add] at C3
  have W1 := dN_wf (k := k) (i := i) (p := p) (zs := zs) h0 h1 A
  have W2 := dN_wf (k := k) (i := i) (p := pN k p zs A) (zs := zs) bs.1 bs.2 E
  generalize dN k (sN k s i A) i (pN k p zs A) zs E = DE at *
  generalize sN k (sN k s i A) i E = s2' at *
  generalize pN k (pN k p zs A) zs E = p2' at *
  generalize dN k s i p zs A = DA at *
  generalize sN k s i A = s1' at *
  generalize pN k p zs A = p1' at *
  have hA4 : A ≤ 400 := by omega
  have hE4 : E ≤ 400 := by omega
  subst hA hE
  obtain ⟨i9, hi, hz0, hz1, hz2⟩ := info_parts info_int
  go_enter Try.func7, Try.ntmps7
  go_wp2_with fail
  refine (G _).mono ?_
  rintro e w1 ⟨rfl, hw1⟩
  have g1 : Below w.heap.size w w1 := Below.call (by go_grown) (by simp) hw1
  have S : At5 w1 w.heap.size (.int .i64 k) (.int .u64 s) (.int .u64 i) (.slice ao n c) (.int .i64 p) := At5.of hw1 (by constructor <;> simp [go_sem])
  have R := (hz.alloc _).below hw1
  clear hw1 hz G
  obtain ⟨s0, s1, s2, s3, s4, sa, sb, sc, sd, se, sl⟩ := id S
  go_wp2_with fail
  refine (C1 _ R).mono ?_
  rintro e w2 ⟨bo1, d1, rfl, RA, hw2⟩
  have g2 := Below.call g1 g1.size hw2
  have S' := At5.of hw2 S
  have R' := R.below hw2
  clear C1 S R hw2 g1 s0 s1 s2 s3 s4 sa sb sc sd se sl
  obtain ⟨s0, s1, s2, s3, s4, sa, sb, sc, sd, se, sl⟩ := id S'
  go_wp2_with fail
  refine (C2 _ (R'.alloc _)).mono ?_
  rintro e w3 ⟨bo2, d2, rfl, RE, hw3⟩
  have g3 : Below w.heap.size w w3 := Below.call (by have := g2.size; go_grown) (by have := g2.size; simp; omega) hw3
  have S := At5.of hw3 (S'.alloc _)
  have R := (R'.alloc _).below hw3
  have RA' := (RA.alloc _).below hw3
  clear C2 S' R' hw3 g2 RA s0 s1 s2 s3 s4 sa sb sc sd se sl
  obtain ⟨s0, s1, s2, s3, s4, sa, sb, sc, sd, se, sl⟩ := id S
  go_wp2_with fail
  refine (C3 _ (R.alloc _)).mono ?_
  rintro e w4 ⟨bo3, d3, rfl, RC, hw4⟩
  have g4 : Below w.heap.size w w4 := Below.call (by have := g3.size; go_grown) (by have := g3.size; simp; omega) hw4
  have U : At5 w4 w3.heap.size (.int .i64 k) (.int .u64 s2') (.int .u64 i) (.slice ao n c) (.int .i64 p2') := At5.of hw4 (At5.fresh _ _ _ _ _ _ _)
  have RA := (RA'.alloc _).below hw4
  have RE' := (RE.alloc _).below hw4
  have R' := (R.alloc _).below hw4
  clear C3 S R hw4 g3 RA' RE s0 s1 s2 s3 s4 sa sb sc sd se sl
  go_wp2_with (first
    | (at_builtin; refine wpList_append_row _ rfl (.tmp 52) (.tmp 53) 34 rfl (w4.heap.size + 1) 3 i9 (.int .i64 0) 8 Try.underlying34 hi hz0 hz1 hz2 rfl (.slice none 0 0) 0 [] rfl (World.ownsRow_nil _ _ _ _) .i64 bo1 A d1 DA rfl (RA.alloc _) (by unfold maxLen; omega) (by omega) (by simp) ?_; intro v5 w5 own5 gr5; simp only [Nat.zero_add, List.nil_append] at own5; have X5 := Below.grown (Below.refl (w4.heap.size + 1) _) gr5 (by simp) (by simp [Value.ownBlock]); have RE5 := (RE'.alloc _).below (X5.mono (by simp)))
    | (at_builtin; refine wpList_append_row _ rfl (.tmp 55) (.tmp 56) 34 rfl (w4.heap.size + 1) 3 i9 (.int .i64 0) 8 Try.underlying34 hi hz0 hz1 hz2 rfl v5 A _ rfl own5 .i64 bo2 E d2 DE rfl RE5 (by unfold maxLen; omega) (by omega) (by have := X5.size; simpa using this) ?_; intro v6 w6 own6 gr6; have X6 := Below.grown X5 gr6 (by have := X5.size; simpa using this) (fun k hk => (own5.lt k hk).1)))
  obtain ⟨bo6, d6, rfl, R6⟩ := Row.own (zs := DA ++ DE) (by rw [List.map_append]; exact own6) (fun x hx => (List.mem_append.1 hx).elim (W1 x) (W2 x))
  have B6 : Below w.heap.size w w6 := Below.trans (by have := g4.size; go_grown : Below w.heap.size w (w4.alloc (.cells #[.int .i64 k, .int .u64 s2', .int .u64 i, .slice ao n c, .int .i64 p2'] 25))) (X6.mono (by have := g4.size; omega))
  have Y6 := X6.mono (show (w4.alloc (.cells #[.int .i64 k, .int .u64 s2', .int .u64 i, .slice ao n c, .int .i64 p2'] 25)).heap.size ≤ w4.heap.size + 1 by simp)
  have U6 := At5.of Y6 (U.alloc _)
  have V6 := At5.of Y6 (At5.fresh _ _ _ _ _ _ _)
  have RC6 := (RC.alloc _).below Y6
  have RZ6 := (R'.alloc _).below Y6
  clear own5 own6 gr5 gr6 X5 X6 Y6 U RC R' RA RE' RE5 g4
  go_wp2_with fail
  refine (drawn_any _).mono ?_
  rintro e w7 ⟨rfl, hw7⟩
  have g7 := Below.call B6 B6.size hw7
  have U7 := At5.of hw7 U6
  have V7 := At5.of hw7 V6
  have RC7 := RC6.below hw7
  have RZ7 := RZ6.below hw7
  have R7 := R6.below hw7
  clear U6 V6 RC6 RZ6 R6 hw7 B6
  go_wp2_with fail
  refine (ints_same _ _ _ _ _ _ _ R7 RC7).mono ?_
  rintro e w8 ⟨rfl, hw8⟩
  have g8 := Below.call g7 g7.size hw8
  have U8 := At5.of hw8 U7
  have V8 := At5.of hw8 V7
  have RZ8 := RZ7.below hw8
  clear U7 V7 RC7 RZ7 R7 hw8 g7
  obtain ⟨u0, u1, u2, u3, u4, ua, ub, uc, ud, ue, ul⟩ := id U8
  obtain ⟨v0, v1, v2, v3, v4, va, vb, vc, vd, ve, vl⟩ := id V8
  go_wp2_with fail
  refine (same_any _ _ _ _ _ _ _ _ _ _ _ RZ8 RZ8).mono ?_
  rintro e w9 ⟨rfl, hw9⟩
  have g9 := Below.call g8 g8.size hw9
  go_wp2
  go_ret
  exact ⟨rfl, g9⟩
end Go.Proofs.Ytfpchofihofojaa
namespace Go.Proofs.Ytfpchofihofojaa.drawJoins
open Go.ChangeShapes Go.WideShapes Go.ChangeAt Go.RowKit Go.Joins
set_option linter.unusedVariables false

theorem own : ownKnob Try.prog.godebug = none := by kernel_rfl
theorem laidOut : laidOutB Try.prog = true := by kernel_rfl
theorem word_of {x : Int} (h : (Lit.int .u64 x).wf = true) : 0 ≤ x ∧ x ≤ 18446744073709551615 := by
  simp [Lit.wf, IntKind.min, IntKind.max, IntKind.signed, IntKind.bits] at h
  exact ⟨by omega, by omega⟩
theorem int_of {x : Int} (h : (Lit.int .i64 x).wf = true) : -9223372036854775808 ≤ x ∧ x ≤ 9223372036854775807 := by
  simp [Lit.wf, IntKind.min, IntKind.max, IntKind.signed, IntKind.bits] at h
  exact ⟨by omega, by omega⟩

set_option maxRecDepth 100000 in
theorem lifted (os : Os) (started : os.Started) (H : Type) (enc : TypeId × Value → H) :
    ReturnsInHanded {} Try.checked os 7 .any (Rows.drawJoinsSpec.pre6 enc Try.prog Try.f7 Rows.drawJoinsRow.domain false) (Rows.drawJoinsSpec.post enc Try.prog Try.f7 false true false false) := by
  refine returnsInHanded_of_change (C := Try.checked) own started (by kernel_rfl) Try.func7
    (ChangeSpec.witness6 (enc := enc) (C := Try.checked) false ⟨#[], #[.agg #[.int .i64 0, .int .u64 0, .int .u64 0, .slice none 0 0, .int .i64 0], .int .i64 0, .int .i64 0], []⟩ 8 (by kernel_rfl) (by kernel_rfl) (by kernel_rfl) (by kernel_rfl)) ?_
  intro W base args ds gs before hval0 hW hcnd _
  have hval : ∀ (j : Nat) t v, Try.f7.params[j]? = some t → args[j]? = some v → Value.okWide Try.prog W .any base t v := hval0
  have hW' := hW
  obtain ⟨p, q, hA0, hV, rfl, hfz, hnd⟩ := hW
  have hA : DataW.TrodAll enc Try.prog W 0 (fun _ => true) true Try.f7.params.toList args.toList ds p := hA0
  rw [Try.params7] at hA hval
  obtain ⟨v0, vs0, d0, ds0, p0, q0, hargs, rfl, rfl, h0, r0⟩ := trodAll_cons hA
  obtain ⟨v1, vs1, d1, ds1, p1, q1, rfl, rfl, rfl, h1, r1⟩ := trodAll_cons r0
  obtain ⟨v2, vs2, d2, ds2, p2, q2, rfl, rfl, rfl, h2, r2⟩ := trodAll_cons r1
  obtain ⟨rfl, rfl, rfl⟩ := trodAll_nil r2
  obtain rfl : args = #[v0, v1, v2] := by cases args; simp_all
  obtain ⟨rfl, rfl⟩ := trodVars_none hV
  have k0 := h0
  have lt0 : ∀ x ∈ p0, x.block < W.heap.size := by obtain ⟨m, hm⟩ := k0; exact DataW.trod_lt m _ _ _ hm
  obtain ⟨k_0, s_0, i_0, q_0, ao_0, n_0, c_0, zs_0, rfl, bs0, bi0, bk0, bq0, hz0⟩ := open_source (hval 0 25 v0 rfl rfl) h0
  obtain ⟨a1, rfl, rfl, rfl, w1⟩ := open_int Try.underlying3 (hval 1 3 v1 rfl rfl) h1
  obtain ⟨a2, rfl, rfl, rfl, w2⟩ := open_int Try.underlying3 (hval 2 3 v2 rfl rfl) h2
  clear hA0 hval0
  refine (walk_joins k_0 s_0 i_0 q_0 ao_0 n_0 c_0 zs_0 a1 a2 bs0.1 bs0.2 bi0.1 bi0.2 bk0.1 bk0.2 bq0.1 bq0.2 (int_of w1).1 (int_of w1).2 (int_of w2).1 (int_of w2).2 W hz0).mono fun e W' ⟨he, bel⟩ => ?_
  subst he
  exact ⟨_, rfl, _, _, _, [], _, [], hW', trodAll_mk1 (shut_bool Try.underlying4 _), (trodAll_cons_mk (Below.trod laidOut (by kernel_rfl) (of_decide_eq_true (by kernel_rfl)) k0 bel lt0) (trodAll_cons_mk (shut_int Try.underlying3 w1) (trodAll_cons_mk (shut_int Try.underlying3 w2) trodAll_mk0))), rfl, bel.frame _, fun h => by cases h⟩

theorem over : Rows.drawJoinsRow.holds Try.pinned (OpenSpec.ofChange Rows.drawJoinsSpec) :=
  OpenClaim.holds_of_wide 7 Try.f7 rfl rfl rfl rfl rfl rfl rfl ⟨rfl, rfl, rfl, rfl, rfl⟩ rfl rfl rfl rfl rfl (by kernel_rfl) Try.func7 (by kernel_rfl)
    (of_decide_eq_true (by kernel_rfl)) (by unfold Func.isWrapper; first | (rw [if_pos (by decide +kernel)]; kernel_rfl) | (rw [if_neg (by decide +kernel)]; exact ⟨rfl, rfl⟩))
    (fun os started H enc _ => lifted os started H enc)
theorem proved : Rows.DrawJoinsSaid := over
#print axioms proved
end Go.Proofs.Ytfpchofihofojaa.drawJoins
