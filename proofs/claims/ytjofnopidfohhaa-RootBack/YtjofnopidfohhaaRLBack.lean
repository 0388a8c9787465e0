/-
  RootBack: for any two numbers of 128 bits and one of 64 a root of a square is the number, of less than the next square, too; it grows with what it is taken of. No conditions.
-/
import Derived.Test.YtjofnopidfohhaaE3
import Derived.Test.YtjofnopidfohhaaD1
import Derived.Test.YtjofnopidfohhaaRows
import Derived.WalkKit
import Derived.ProofKit
import Derived.OpenShut
import Derived.ChangeOld
import Derived.Below
import Derived.Lib.SmallJoins
namespace Go.Proofs.Ytjofnopidfohhaa
open Go.RowKit
set_option linter.unusedVariables false
attribute [local go_sem] Later.cell Later.frozen

theorem add_small (u x s : Int) (hu : 0 ≤ u) (hs : s = u + x) (hx0 : 0 ≤ x) (hx1 : x ≤ 18446744073709551615) (hx : u + x < 340282366920938463463374607431768211456) (w : World) : Calls Try.prog 21 #[.agg #[.int .u64 (hiw u), .int .u64 (low u)], .agg #[.int .u64 0, .int .u64 x]] w fun e w' => e = .returned (.tuple #[.agg #[.int .u64 (hiw s), .int .u64 (low s)], .int .u64 0]) ∧ Below w.heap.size w w' := by
  subst hs
  have := add_any u x ⟨hu, by omega⟩ ⟨hx0, by omega⟩ w
  have eh : hiw x = 0 := by unfold hiw; omega
  have el : low x = x := by unfold low; omega
  have e1 : addv u x = u + x := by unfold addv; omega
  have e2 : addc u x = 0 := by unfold addc; omega
  rwa [eh, el, e1, e2] at this
theorem sqrt_lo (v : Int) (h0 : 0 ≤ v) (h1 : v ≤ 18446744073709551615) (w : World) : Calls Try.prog 8 #[.agg #[.int .u64 0, .int .u64 v]] w fun e w' => e = .returned (.int .u64 (sqrtv v)) ∧ Below w.heap.size w w' := by
  have := sqrt_any v ⟨h0, by omega⟩ w
  have eh : hiw v = 0 := by unfold hiw; omega
  have el : low v = v := by unfold low; omega
  rwa [eh, el] at this
theorem sqrt_is (u x : Int) (hx0 : 0 ≤ x) (hx1 : x ≤ 18446744073709551615) (h0 : x * x ≤ u) (h1 : u ≤ x * x + 2 * x) (w : World) : Calls Try.prog 8 #[.agg #[.int .u64 (hiw u), .int .u64 (low u)]] w fun e w' => e = .returned (.int .u64 x) ∧ Below w.heap.size w w' := by
  have hW : W128 (x * x) := mul_lt hx0 hx1 hx0 hx1
  have m := Int.mul_le_mul hx1 hx1 hx0 (by omega)
  have hu : W128 u := ⟨by have := hW.1; omega, by omega⟩
  have := sqrt_any u hu w
  rwa [sqrtv_of hu hx0 h0 (by rw [Int.add_mul, Int.mul_add]; omega)] at this

set_option maxHeartbeats 4000000 in
set_option maxRecDepth 100000 in
theorem walk_back (x a b : Int) (hx0 : 0 ≤ x) (hx1 : x ≤ 18446744073709551615) (ha : W128 a) (hbW : W128 b) (w : World) :
    Calls Try.prog 5 #[.int .u64 x, .agg #[.int .u64 (hiw a), .int .u64 (low a)], .agg #[.int .u64 (hiw b), .int .u64 (low b)]] w fun e w' => e = .returned (.bool true) ∧ Below w.heap.size w w' := by
  have hW : W128 (x * x) := mul_lt hx0 hx1 hx0 hx1
  have m := Int.mul_le_mul hx1 hx1 hx0 (by omega)
  have M := fun w => mul_any x x hx0 hx1 hx0 hx1 w
  obtain ⟨p, hp⟩ : ∃ p, x * x = p := ⟨_, rfl⟩
  rw [hp] at M m hW
  obtain ⟨q, hq⟩ : ∃ q, p + x = q := ⟨_, rfl⟩
  obtain ⟨r, hr⟩ : ∃ r, q + x = r := ⟨_, rfl⟩
  have hp0 := hW.1
  have A1 := fun w => add_small p x q hp0 hq.symm hx0 hx1 (by omega) w
  have A2 := fun w => add_small q x r (by omega) hr.symm hx0 hx1 (by omega) w
  have S1 := fun w => sqrt_is p x hx0 hx1 (by omega) (by omega) w
  have S2 := fun w => sqrt_is q x hx0 hx1 (by omega) (by omega) w
  have S3 := fun w => sqrt_is r x hx0 hx1 (by omega) (by omega) w
  have lb := low_bd a
  have SL := fun w => sqrt_lo (low a) lb.1 lb.2 w
  have SQ := fun w => sqrt64_any (low a) lb.1 lb.2 w
  have SA := fun w => sqrt_any a ha w
  have SB := fun w => sqrt_any b hbW w
  have CM := fun w => cmp_any a b ha hbW w
  have mono : ¬ 0 < cmpv a b → sqrtv a ≤ sqrtv b := by
    intro h
    refine sqrtv_mono ha hbW ?_
    unfold cmpv at h; split at h
    · omega
    · split at h <;> omega
  clear hp hW m hp0 hq hr
  go_enter Try.func5, Try.ntmps5
  go_wp2_with fail
  refine (M _).mono ?_
  rintro e w1 ⟨rfl, hw1⟩
  have A : At2 w1 w.heap.size (.int .u64 (hiw a)) (.int .u64 (low a)) := At2.below (by constructor <;> simp [go_sem]) hw1 (by simp <;> omega)
  have B : At2 w1 (w.heap.size + 1) (.int .u64 (hiw b)) (.int .u64 (low b)) := At2.below (by constructor <;> simp [go_sem]) hw1 (by simp <;> omega)
  have hb : Below w.heap.size w w1 := Below.call (by go_grown) (by simp <;> omega) hw1
  clear hw1
  go_wp2_with fail
  refine (A1 _).mono ?_
  rintro e w2 ⟨rfl, hw2⟩
  have hs := hb.size
  replace A := (A.alloc _).below hw2 (by have := A.lt; simp <;> omega)
  replace B := (B.alloc _).below hw2 (by have := B.lt; simp <;> omega)
  have P : At2 w2 w1.heap.size (.int .u64 (hiw p)) (.int .u64 (low p)) := At2.after_fresh' hw2
  replace hb := Below.call (show Below w.heap.size w _ by go_grown) (by simp <;> omega) hw2
  clear hw2 hs
  go_wp2_with fail
  refine (A2 _).mono ?_
  rintro e w3 ⟨rfl, hw3⟩
  have hs := hb.size
  replace A := (A.alloc _).below hw3 (by have := A.lt; simp <;> omega)
  replace B := (B.alloc _).below hw3 (by have := B.lt; simp <;> omega)
  replace P := (P.alloc _).below hw3 (by have := P.lt; simp <;> omega)
  have Q : At2 w3 w2.heap.size (.int .u64 (hiw q)) (.int .u64 (low q)) := At2.after_fresh' hw3
  replace hb := Below.call (show Below w.heap.size w _ by go_grown) (by simp <;> omega) hw3
  clear hw3 hs
  go_upto_region 4 with fail
  have hs := hb.size
  refine wp_forget (fun W => At2 W w.heap.size (.int .u64 (hiw a)) (.int .u64 (low a)) ∧ At2 W (w.heap.size + 1) (.int .u64 (hiw b)) (.int .u64 (low b)) ∧ At2 W w1.heap.size (.int .u64 (hiw p)) (.int .u64 (low p)) ∧ At2 W w2.heap.size (.int .u64 (hiw q)) (.int .u64 (low q)) ∧ At2 W w3.heap.size (.int .u64 (hiw r)) (.int .u64 (low r)) ∧ Below w.heap.size w W) ⟨A.alloc _, B.alloc _, P.alloc _, Q.alloc _, At2.fresh _ _ _ _, by go_grown⟩ ?_
  rintro W ⟨A', B', P', Q', R', hbW⟩
  clear A B P Q hb hs
  obtain ⟨x0, x1, x2, x3, x4⟩ := id P'
  obtain ⟨y0, y1, y2, y3, y4⟩ := id Q'
  obtain ⟨z0, z1, z2, z3, z4⟩ := id R'
  go_wp2_with fail
  refine (S1 _).mono ?_
  rintro e w4 ⟨rfl, hw4⟩
  replace A' := A'.below hw4 A'.lt
  replace B' := B'.below hw4 B'.lt
  replace Q' := Q'.below hw4 Q'.lt
  replace R' := R'.below hw4 R'.lt
  replace hbW := Below.call hbW hbW.size hw4
  clear hw4 x0 x1 x2 x3 x4 y0 y1 y2 y3 y4 z0 z1 z2 z3 z4 P'
  obtain ⟨y0, y1, y2, y3, y4⟩ := id Q'
  obtain ⟨z0, z1, z2, z3, z4⟩ := id R'
  go_wp2_with fail
  refine (S2 _).mono ?_
  rintro e w5 ⟨rfl, hw5⟩
  replace A' := A'.below hw5 A'.lt
  replace B' := B'.below hw5 B'.lt
  replace R' := R'.below hw5 R'.lt
  replace hbW := Below.call hbW hbW.size hw5
  clear hw5 y0 y1 y2 y3 y4 z0 z1 z2 z3 z4 Q'
  obtain ⟨z0, z1, z2, z3, z4⟩ := id R'
  go_wp2_with fail
  refine (S3 _).mono ?_
  rintro e w6 ⟨rfl, hw6⟩
  replace A' := A'.below hw6 A'.lt
  replace B' := B'.below hw6 B'.lt
  replace hbW := Below.call hbW hbW.size hw6
  clear hw6 z0 z1 z2 z3 z4 R' S1 S2 S3 A1 A2 M
  obtain ⟨y0, y1, y2, y3, y4⟩ := id A'
  obtain ⟨z0, z1, z2, z3, z4⟩ := id B'
  have hne : Nonempty (Later w6) := Later.ne w6
  by_cases hc : 0 < cmpv a b
  · have d1 : decide (0 < cmpv a b) = true := decide_eq_true hc
    clear mono
    go_wp2_with fail
    refine wp_region_later (by kernel_rfl) (by kernel_rfl) ?_
    repeat (go_big_quiet_step (first
      | (go_at_call 7; exact Later.call _ (rooted_any _))
      | (go_at_call 18; exact Later.call _ (CM _))
      | (go_at_call 10; exact Later.call _ (SQ _))
      | (go_at_call 8; exact Later.call _ (SL _))))
    refine wpQuiet_nil ?_
    rintro w8 ⟨⟨_, hw8⟩, rfl⟩
    go_wp2
    go_ret
    exact ⟨rfl, Below.call hbW hbW.size hw8⟩
  · have d1 : decide (0 < cmpv a b) = false := decide_eq_false hc
    have d2 : decide (sqrtv a ≤ sqrtv b) = true := decide_eq_true (mono (by omega))
    clear mono
    go_wp2_with fail
    refine wp_region_later (by kernel_rfl) (by kernel_rfl) ?_
    repeat (go_big_quiet_step (first
      | (go_at_call 7; exact Later.call _ (rooted_any _))
      | (go_at_call 18; exact Later.call _ (CM _))
      | (go_at_call 10; exact Later.call _ (SQ _))
      | (go_at_call_of 8 (hiw a); exact Later.call _ (SA _))
      | (go_at_call_of 8 (hiw b); exact Later.call _ (SB _))
      | (go_at_call 8; exact Later.call _ (SL _))))
    refine wpQuiet_nil ?_
    rintro w8 ⟨⟨_, hw8⟩, rfl⟩
    go_wp2
    go_ret
    exact ⟨rfl, Below.call hbW hbW.size hw8⟩
end Go.Proofs.Ytjofnopidfohhaa
namespace Go.Proofs.Ytjofnopidfohhaa.rootBack
open Go.ChangeShapes Go.WideShapes Go.ChangeAt Go.RowKit Go.Joins
set_option linter.unusedVariables false

theorem own : ownKnob Try.prog.godebug = none := by kernel_rfl
theorem laidOut : laidOutB Try.prog = true := by kernel_rfl
theorem cells24 : Try.prog.cellsOf 24 = 2 := by kernel_rfl
theorem word_of {x : Int} (h : (Lit.int .u64 x).wf = true) : 0 ≤ x ∧ x ≤ 18446744073709551615 := by
  simp [Lit.wf, IntKind.min, IntKind.max, IntKind.signed, IntKind.bits] at h
  exact ⟨by omega, by omega⟩
theorem int_of {x : Int} (h : (Lit.int .i64 x).wf = true) : -9223372036854775808 ≤ x ∧ x ≤ 9223372036854775807 := by
  simp [Lit.wf, IntKind.min, IntKind.max, IntKind.signed, IntKind.bits] at h
  exact ⟨by omega, by omega⟩

set_option maxRecDepth 100000 in
theorem lifted (os : Os) (started : os.Started) (H : Type) (enc : TypeId × Value → H) :
    ReturnsInHanded {} Try.checked os 5 .any (Rows.rootBackSpec.pre6 enc Try.prog Try.f5 Rows.rootBackRow.domain false) (Rows.rootBackSpec.post enc Try.prog Try.f5 false true false false) := by
  refine returnsInHanded_of_change (C := Try.checked) own started (by kernel_rfl) Try.func5
    (ChangeSpec.witness6 (enc := enc) (C := Try.checked) false ⟨#[], #[.int .u64 0, .agg #[.int .u64 0, .int .u64 0], .agg #[.int .u64 0, .int .u64 0]], []⟩ 8 (by kernel_rfl) (by kernel_rfl) (by kernel_rfl) (by kernel_rfl)) ?_
  intro W base args ds gs before hval0 hW hcnd _
  have hval : ∀ (j : Nat) t v, Try.f5.params[j]? = some t → args[j]? = some v → Value.okWide Try.prog W .any base t v := hval0
  have hW' := hW
  obtain ⟨p, q, hA0, hV, rfl, hfz, hnd⟩ := hW
  have hA : DataW.TrodAll enc Try.prog W 0 (fun _ => true) true Try.f5.params.toList args.toList ds p := hA0
  rw [Try.params5] at hA hval
  obtain ⟨v0, vs0, d0, ds0, p0, q0, hargs, rfl, rfl, h0, r0⟩ := trodAll_cons hA
  obtain ⟨v1, vs1, d1, ds1, p1, q1, rfl, rfl, rfl, h1, r1⟩ := trodAll_cons r0
  obtain ⟨v2, vs2, d2, ds2, p2, q2, rfl, rfl, rfl, h2, r2⟩ := trodAll_cons r1
  obtain ⟨rfl, rfl, rfl⟩ := trodAll_nil r2
  obtain rfl : args = #[v0, v1, v2] := by cases args; simp_all
  obtain ⟨rfl, rfl⟩ := trodVars_none hV
  obtain ⟨a0, rfl, rfl, rfl, w0⟩ := open_int Try.underlying22 (hval 0 22 v0 rfl rfl) h0
  have k1 := h1
  have lt1 : ∀ x ∈ p1, x.block < W.heap.size := by obtain ⟨m, hm⟩ := k1; exact DataW.trod_lt m _ _ _ hm
  obtain ⟨c1a, c1b, y1a, y1b, m1, rfl, rfl, rfl, hy1a, hy1b⟩ := open_agg2 Try.underlying24 (by kernel_rfl) cells24 (hval 1 24 v1 rfl rfl) h1
  obtain ⟨x1a, e1a, rfl, w1a⟩ := DataW.trod_int Try.underlying22 hy1a
  obtain ⟨x1b, e1b, rfl, w1b⟩ := DataW.trod_int Try.underlying22 hy1b
  simp at e1a e1b
  subst e1a e1b
  obtain ⟨a1, W1, ra1, rb1⟩ := wide_of x1a x1b (word_of w1a).1 (word_of w1a).2 (word_of w1b).1 (word_of w1b).2
  subst ra1 rb1
  have k2 := h2
  have lt2 : ∀ x ∈ p2, x.block < W.heap.size := by obtain ⟨m, hm⟩ := k2; exact DataW.trod_lt m _ _ _ hm
  obtain ⟨c2a, c2b, y2a, y2b, m2, rfl, rfl, rfl, hy2a, hy2b⟩ := open_agg2 Try.underlying24 (by kernel_rfl) cells24 (hval 2 24 v2 rfl rfl) h2
  obtain ⟨x2a, e2a, rfl, w2a⟩ := DataW.trod_int Try.underlying22 hy2a
  obtain ⟨x2b, e2b, rfl, w2b⟩ := DataW.trod_int Try.underlying22 hy2b
  simp at e2a e2b
  subst e2a e2b
  obtain ⟨a2, W2, ra2, rb2⟩ := wide_of x2a x2b (word_of w2a).1 (word_of w2a).2 (word_of w2b).1 (word_of w2b).2
  subst ra2 rb2
  clear hA0 hval0
  refine (walk_back a0 a1 a2 (word_of w0).1 (word_of w0).2 W1 W2 W).mono fun e W' ⟨he, bel⟩ => ?_
  subst he
  exact ⟨_, rfl, _, _, _, [], _, [], hW', trodAll_mk1 (shut_bool Try.underlying4 _), (trodAll_cons_mk (shut_int Try.underlying22 w0) (trodAll_cons_mk (Below.trod laidOut (by kernel_rfl) (of_decide_eq_true (by kernel_rfl)) k1 bel lt1) (trodAll_cons_mk (Below.trod laidOut (by kernel_rfl) (of_decide_eq_true (by kernel_rfl)) k2 bel lt2) trodAll_mk0))), rfl, bel.frame _, fun h => by cases h⟩

theorem over : Rows.rootBackRow.holds Try.pinned (OpenSpec.ofChange Rows.rootBackSpec) :=
  OpenClaim.holds_of_wide 5 Try.f5 rfl rfl rfl rfl rfl rfl rfl ⟨rfl, rfl, rfl, rfl, rfl⟩ rfl rfl rfl rfl rfl (by kernel_rfl) Try.func5 (by kernel_rfl)
    (of_decide_eq_true (by kernel_rfl)) (by unfold Func.isWrapper; first | (rw [if_pos (by decide +kernel)]; kernel_rfl) | (rw [if_neg (by decide +kernel)]; exact ⟨rfl, rfl⟩))
    (fun os started H enc _ => lifted os started H enc)
theorem proved : Rows.RootBackSaid := over
#print axioms proved
end Go.Proofs.Ytjofnopidfohhaa.rootBack
