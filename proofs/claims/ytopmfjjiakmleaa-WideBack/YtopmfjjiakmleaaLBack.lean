/-
  WideBack: for any three numbers what is added is taken away again, and sums hang on no order. No conditions.
-/
import Derived.Test.YtopmfjjiakmleaaE1
import Derived.Test.YtopmfjjiakmleaaC5
import Derived.Test.YtopmfjjiakmleaaA5
import Derived.Test.YtopmfjjiakmleaaRows
import Derived.WalkKit
import Derived.ProofKit
import Derived.OpenShut
import Derived.ChangeOld
import Derived.Below
import Derived.Lib.SmallJoins
namespace Go.Proofs.Ytopmfjjiakmleaa
open Go.RowKit
set_option linter.unusedVariables false
attribute [local go_sem] Later.cell Later.frozen

set_option maxHeartbeats 4000000 in
set_option maxRecDepth 100000 in
theorem walk_back (a b c : Int) (ha : W128 a) (hbW : W128 b) (hc : W128 c) (w : World) : Calls Try.prog 6 #[.agg #[.int .u64 (hiw a), .int .u64 (low a)], .agg #[.int .u64 (hiw b), .int .u64 (low b)], .agg #[.int .u64 (hiw c), .int .u64 (low c)]] w fun e w' => e = .returned (.bool true) ∧ Below w.heap.size w w' := by
  have EY : Hid (subv (addv a b) b = a) := (add_sub ha hbW).1
  have EC : Hid (subc (addv a b) b = addc a b) := (add_sub ha hbW).2
  have EZ : Hid (addv b a = addv a b) := (add_comm a b).1
  have EZC : Hid (addc b a = addc a b) := (add_comm a b).2
  have EA : Hid (addv a (addv b c) = addv (addv a b) c) := add_assoc a b c
  have HO : Hid (((addc a b == 1) = true ∧ cmpv (addv a b) a < 0) ∨ ((addc a b == 1) = false ∧ ¬ cmpv (addv a b) a < 0)) := add_over ha hbW
  go_enter Try.func6, Try.ntmps6
  go_wp2_with fail
  refine (add_any a b ha hbW _).mono ?_
  rintro e w1 ⟨rfl, hw1⟩
  have A : At2 w1 w.heap.size (.int .u64 (hiw a)) (.int .u64 (low a)) := At2.below (by constructor <;> simp [go_sem]) hw1 (by simp <;> omega)
  have B : At2 w1 (w.heap.size + 1) (.int .u64 (hiw b)) (.int .u64 (low b)) := At2.below (by constructor <;> simp [go_sem]) hw1 (by simp <;> omega)
  have C : At2 w1 (w.heap.size + 1 + 1) (.int .u64 (hiw c)) (.int .u64 (low c)) := At2.below (by constructor <;> simp [go_sem]) hw1 (by simp <;> omega)
  have hb : Below w.heap.size w w1 := Below.call (by go_grown) (by simp <;> omega) hw1
  clear hw1
  obtain ⟨zA0, zA1, zA2, zA3, zA4⟩ := id A
  obtain ⟨zB0, zB1, zB2, zB3, zB4⟩ := id B
  obtain ⟨zC0, zC1, zC2, zC3, zC4⟩ := id C
  go_wp2_with fail
  refine (sub_any (addv a b) b (addv_W a b) hbW _).mono ?_
  rintro e w2 ⟨rfl, hw2⟩
  rw [EY.out, EC.out]
  replace A := (A.alloc _).below hw2 (by have := A.lt; simp <;> omega)
  replace B := (B.alloc _).below hw2 (by have := B.lt; simp <;> omega)
  replace C := (C.alloc _).below hw2 (by have := C.lt; simp <;> omega)
  have X : At2 w2 w1.heap.size (.int .u64 (hiw (addv a b))) (.int .u64 (low (addv a b))) := At2.after_fresh' hw2
  replace hb := Below.call (show Below w.heap.size w _ by go_grown) (by have := hb.size; simp <;> omega) hw2
  clear hw2 zA0 zA1 zA2 zA3 zA4 zB0 zB1 zB2 zB3 zB4 zC0 zC1 zC2 zC3 zC4
  obtain ⟨zA0, zA1, zA2, zA3, zA4⟩ := id A
  obtain ⟨zB0, zB1, zB2, zB3, zB4⟩ := id B
  obtain ⟨zC0, zC1, zC2, zC3, zC4⟩ := id C
  obtain ⟨zX0, zX1, zX2, zX3, zX4⟩ := id X
  go_wp2_with fail
  refine (add_any b a hbW ha _).mono ?_
  rintro e w3 ⟨rfl, hw3⟩
  rw [EZ.out, EZC.out]
  replace A := (A.alloc _).below hw3 (by have := A.lt; simp <;> omega)
  replace B := (B.alloc _).below hw3 (by have := B.lt; simp <;> omega)
  replace C := (C.alloc _).below hw3 (by have := C.lt; simp <;> omega)
  replace X := (X.alloc _).below hw3 (by have := X.lt; simp <;> omega)
  have Y : At2 w3 w2.heap.size (.int .u64 (hiw a)) (.int .u64 (low a)) := At2.after_fresh' hw3
  replace hb := Below.call (show Below w.heap.size w _ by go_grown) (by have := hb.size; simp <;> omega) hw3
  clear hw3 zA0 zA1 zA2 zA3 zA4 zB0 zB1 zB2 zB3 zB4 zC0 zC1 zC2 zC3 zC4 zX0 zX1 zX2 zX3 zX4
  obtain ⟨zA0, zA1, zA2, zA3, zA4⟩ := id A
  obtain ⟨zB0, zB1, zB2, zB3, zB4⟩ := id B
  obtain ⟨zC0, zC1, zC2, zC3, zC4⟩ := id C
  obtain ⟨zX0, zX1, zX2, zX3, zX4⟩ := id X
  obtain ⟨zY0, zY1, zY2, zY3, zY4⟩ := id Y
  go_wp2_with fail
  refine (add_any (addv a b) c (addv_W a b) hc _).mono ?_
  rintro e w4 ⟨rfl, hw4⟩
  replace A := (A.alloc _).below hw4 (by have := A.lt; simp <;> omega)
  replace B := (B.alloc _).below hw4 (by have := B.lt; simp <;> omega)
  replace C := (C.alloc _).below hw4 (by have := C.lt; simp <;> omega)
  replace X := (X.alloc _).below hw4 (by have := X.lt; simp <;> omega)
  replace Y := (Y.alloc _).below hw4 (by have := Y.lt; simp <;> omega)
  have Z : At2 w4 w3.heap.size (.int .u64 (hiw (addv a b))) (.int .u64 (low (addv a b))) := At2.after_fresh' hw4
  replace hb := Below.call (show Below w.heap.size w _ by go_grown) (by have := hb.size; simp <;> omega) hw4
  clear hw4 zA0 zA1 zA2 zA3 zA4 zB0 zB1 zB2 zB3 zB4 zC0 zC1 zC2 zC3 zC4 zX0 zX1 zX2 zX3 zX4 zY0 zY1 zY2 zY3 zY4
  obtain ⟨zA0, zA1, zA2, zA3, zA4⟩ := id A
  obtain ⟨zB0, zB1, zB2, zB3, zB4⟩ := id B
  obtain ⟨zC0, zC1, zC2, zC3, zC4⟩ := id C
  obtain ⟨zX0, zX1, zX2, zX3, zX4⟩ := id X
  obtain ⟨zY0, zY1, zY2, zY3, zY4⟩ := id Y
  obtain ⟨zZ0, zZ1, zZ2, zZ3, zZ4⟩ := id Z
  go_wp2_with fail
  refine (add_any b c hbW hc _).mono ?_
  rintro e w5 ⟨rfl, hw5⟩
  replace A := (A.alloc _).below hw5 (by have := A.lt; simp <;> omega)
  replace B := (B.alloc _).below hw5 (by have := B.lt; simp <;> omega)
  replace C := (C.alloc _).below hw5 (by have := C.lt; simp <;> omega)
  replace X := (X.alloc _).below hw5 (by have := X.lt; simp <;> omega)
  replace Y := (Y.alloc _).below hw5 (by have := Y.lt; simp <;> omega)
  replace Z := (Z.alloc _).below hw5 (by have := Z.lt; simp <;> omega)
  have P : At2 w5 w4.heap.size (.int .u64 (hiw (addv (addv a b) c))) (.int .u64 (low (addv (addv a b) c))) := At2.after_fresh' hw5
  replace hb := Below.call (show Below w.heap.size w _ by go_grown) (by have := hb.size; simp <;> omega) hw5
  clear hw5 zA0 zA1 zA2 zA3 zA4 zB0 zB1 zB2 zB3 zB4 zC0 zC1 zC2 zC3 zC4 zX0 zX1 zX2 zX3 zX4 zY0 zY1 zY2 zY3 zY4 zZ0 zZ1 zZ2 zZ3 zZ4
  obtain ⟨zA0, zA1, zA2, zA3, zA4⟩ := id A
  obtain ⟨zB0, zB1, zB2, zB3, zB4⟩ := id B
  obtain ⟨zC0, zC1, zC2, zC3, zC4⟩ := id C
  obtain ⟨zX0, zX1, zX2, zX3, zX4⟩ := id X
  obtain ⟨zY0, zY1, zY2, zY3, zY4⟩ := id Y
  obtain ⟨zZ0, zZ1, zZ2, zZ3, zZ4⟩ := id Z
  obtain ⟨zP0, zP1, zP2, zP3, zP4⟩ := id P
  go_wp2_with fail
  refine (add_any a (addv b c) ha (addv_W b c) _).mono ?_
  rintro e w6 ⟨rfl, hw6⟩
  rw [EA.out]
  replace A := (A.alloc _).below hw6 (by have := A.lt; simp <;> omega)
  replace B := (B.alloc _).below hw6 (by have := B.lt; simp <;> omega)
  replace C := (C.alloc _).below hw6 (by have := C.lt; simp <;> omega)
  replace X := (X.alloc _).below hw6 (by have := X.lt; simp <;> omega)
  replace Y := (Y.alloc _).below hw6 (by have := Y.lt; simp <;> omega)
  replace Z := (Z.alloc _).below hw6 (by have := Z.lt; simp <;> omega)
  replace P := (P.alloc _).below hw6 (by have := P.lt; simp <;> omega)
  have S : At2 w6 w5.heap.size (.int .u64 (hiw (addv b c))) (.int .u64 (low (addv b c))) := At2.after_fresh' hw6
  replace hb := Below.call (show Below w.heap.size w _ by go_grown) (by have := hb.size; simp <;> omega) hw6
  clear hw6 zA0 zA1 zA2 zA3 zA4 zB0 zB1 zB2 zB3 zB4 zC0 zC1 zC2 zC3 zC4 zX0 zX1 zX2 zX3 zX4 zY0 zY1 zY2 zY3 zY4 zZ0 zZ1 zZ2 zZ3 zZ4 zP0 zP1 zP2 zP3 zP4
  obtain ⟨zA0, zA1, zA2, zA3, zA4⟩ := id A
  obtain ⟨zB0, zB1, zB2, zB3, zB4⟩ := id B
  obtain ⟨zC0, zC1, zC2, zC3, zC4⟩ := id C
  obtain ⟨zX0, zX1, zX2, zX3, zX4⟩ := id X
  obtain ⟨zY0, zY1, zY2, zY3, zY4⟩ := id Y
  obtain ⟨zZ0, zZ1, zZ2, zZ3, zZ4⟩ := id Z
  obtain ⟨zP0, zP1, zP2, zP3, zP4⟩ := id P
  obtain ⟨zS0, zS1, zS2, zS3, zS4⟩ := id S
  go_wp2_with fail
  refine (broad_any _).mono ?_
  rintro e w7 ⟨rfl, hw7⟩
  replace A := (A.alloc _).below hw7 (by have := A.lt; simp <;> omega)
  replace B := (B.alloc _).below hw7 (by have := B.lt; simp <;> omega)
  replace C := (C.alloc _).below hw7 (by have := C.lt; simp <;> omega)
  replace X := (X.alloc _).below hw7 (by have := X.lt; simp <;> omega)
  replace Y := (Y.alloc _).below hw7 (by have := Y.lt; simp <;> omega)
  replace Z := (Z.alloc _).below hw7 (by have := Z.lt; simp <;> omega)
  replace P := (P.alloc _).below hw7 (by have := P.lt; simp <;> omega)
  replace S := (S.alloc _).below hw7 (by have := S.lt; simp <;> omega)
  have Q : At2 w7 w6.heap.size (.int .u64 (hiw (addv (addv a b) c))) (.int .u64 (low (addv (addv a b) c))) := At2.after_fresh' hw7
  replace hb := Below.call (show Below w.heap.size w _ by go_grown) (by have := hb.size; simp <;> omega) hw7
  clear hw7 zA0 zA1 zA2 zA3 zA4 zB0 zB1 zB2 zB3 zB4 zC0 zC1 zC2 zC3 zC4 zX0 zX1 zX2 zX3 zX4 zY0 zY1 zY2 zY3 zY4 zZ0 zZ1 zZ2 zZ3 zZ4 zP0 zP1 zP2 zP3 zP4 zS0 zS1 zS2 zS3 zS4
  obtain ⟨zA0, zA1, zA2, zA3, zA4⟩ := id A
  obtain ⟨zB0, zB1, zB2, zB3, zB4⟩ := id B
  obtain ⟨zC0, zC1, zC2, zC3, zC4⟩ := id C
  obtain ⟨zX0, zX1, zX2, zX3, zX4⟩ := id X
  obtain ⟨zY0, zY1, zY2, zY3, zY4⟩ := id Y
  obtain ⟨zZ0, zZ1, zZ2, zZ3, zZ4⟩ := id Z
  obtain ⟨zP0, zP1, zP2, zP3, zP4⟩ := id P
  obtain ⟨zS0, zS1, zS2, zS3, zS4⟩ := id S
  obtain ⟨zQ0, zQ1, zQ2, zQ3, zQ4⟩ := id Q
  go_wp2_with fail
  refine (cmp_any (addv a b) a (addv_W a b) ha _).mono ?_
  rintro e w8 ⟨rfl, hw8⟩
  replace A := A.below hw8 A.lt
  replace B := B.below hw8 B.lt
  replace C := C.below hw8 C.lt
  replace X := X.below hw8 X.lt
  replace Y := Y.below hw8 Y.lt
  replace Z := Z.below hw8 Z.lt
  replace P := P.below hw8 P.lt
  replace S := S.below hw8 S.lt
  replace Q := Q.below hw8 Q.lt
  replace hb := Below.call hb hb.size hw8
  clear hw8 zA0 zA1 zA2 zA3 zA4 zB0 zB1 zB2 zB3 zB4 zC0 zC1 zC2 zC3 zC4 zX0 zX1 zX2 zX3 zX4 zY0 zY1 zY2 zY3 zY4 zZ0 zZ1 zZ2 zZ3 zZ4 zP0 zP1 zP2 zP3 zP4 zS0 zS1 zS2 zS3 zS4 zQ0 zQ1 zQ2 zQ3 zQ4
  obtain ⟨zA0, zA1, zA2, zA3, zA4⟩ := id A
  obtain ⟨zB0, zB1, zB2, zB3, zB4⟩ := id B
  obtain ⟨zC0, zC1, zC2, zC3, zC4⟩ := id C
  obtain ⟨zX0, zX1, zX2, zX3, zX4⟩ := id X
  obtain ⟨zY0, zY1, zY2, zY3, zY4⟩ := id Y
  obtain ⟨zZ0, zZ1, zZ2, zZ3, zZ4⟩ := id Z
  obtain ⟨zP0, zP1, zP2, zP3, zP4⟩ := id P
  obtain ⟨zS0, zS1, zS2, zS3, zS4⟩ := id S
  obtain ⟨zQ0, zQ1, zQ2, zQ3, zQ4⟩ := id Q
  rcases HO.out with ⟨h1, h2⟩ | ⟨h1, h2⟩
  · go_wp2
    go_ret
    exact ⟨rfl, hb⟩
  · have h3 : decide (cmpv (addv a b) a < 0) = false := decide_eq_false (by omega)
    go_wp2
    go_ret
    exact ⟨rfl, hb⟩
end Go.Proofs.Ytopmfjjiakmleaa
namespace Go.Proofs.Ytopmfjjiakmleaa.wideBack
open Go.ChangeShapes Go.WideShapes Go.ChangeAt Go.RowKit Go.Joins
set_option linter.unusedVariables false

theorem own : ownKnob Try.prog.godebug = none := by kernel_rfl
theorem laidOut : laidOutB Try.prog = true := by kernel_rfl
theorem cells24 : Try.prog.cellsOf 24 = 2 := by kernel_rfl
theorem word_of {x : Int} (h : (Lit.int .u64 x).wf = true) : 0 ≤ x ∧ x ≤ 18446744073709551615 := by
  simp [Lit.wf, IntKind.min, IntKind.max, IntKind.signed, IntKind.bits] at h
  exact ⟨by omega, by omega⟩
theorem int_of {x : Int} (h : (Lit.int .i64 x).wf = true) : -9223372036854775808 ≤ x ∧ x ≤ 9223372036854775807 := by
  simp [Lit.wf, IntKind.min, IntKind.max, IntKind.signed, IntKind.bits] at h
  exact ⟨by omega, by omega⟩

set_option maxRecDepth 100000 in
theorem lifted (os : Os) (started : os.Started) (H : Type) (enc : TypeId × Value → H) :
    ReturnsInHanded {} Try.checked os 6 .any (Rows.wideBackSpec.pre6 enc Try.prog Try.f6 Rows.wideBackRow.domain false) (Rows.wideBackSpec.post enc Try.prog Try.f6 false true false false) := by
  refine returnsInHanded_of_change (C := Try.checked) own started (by kernel_rfl) Try.func6
    (ChangeSpec.witness6 (enc := enc) (C := Try.checked) false ⟨#[], #[.agg #[.int .u64 0, .int .u64 0], .agg #[.int .u64 0, .int .u64 0], .agg #[.int .u64 0, .int .u64 0]], []⟩ 8 (by kernel_rfl) (by kernel_rfl) (by kernel_rfl) (by kernel_rfl)) ?_
  intro W base args ds gs before hval0 hW hcnd _
  have hval : ∀ (j : Nat) t v, Try.f6.params[j]? = some t → args[j]? = some v → Value.okWide Try.prog W .any base t v := hval0
  have hW' := hW
  obtain ⟨p, q, hA0, hV, rfl, hfz, hnd⟩ := hW
  have hA : DataW.TrodAll enc Try.prog W 0 (fun _ => true) true Try.f6.params.toList args.toList ds p := hA0
  rw [Try.params6] at hA hval
  obtain ⟨v0, vs0, d0, ds0, p0, q0, hargs, rfl, rfl, h0, r0⟩ := trodAll_cons hA
  obtain ⟨v1, vs1, d1, ds1, p1, q1, rfl, rfl, rfl, h1, r1⟩ := trodAll_cons r0
  obtain ⟨v2, vs2, d2, ds2, p2, q2, rfl, rfl, rfl, h2, r2⟩ := trodAll_cons r1
  obtain ⟨rfl, rfl, rfl⟩ := trodAll_nil r2
  obtain rfl : args = #[v0, v1, v2] := by cases args; simp_all
  obtain ⟨rfl, rfl⟩ := trodVars_none hV
  have k0 := h0
  have lt0 : ∀ x ∈ p0, x.block < W.heap.size := by obtain ⟨m, hm⟩ := k0; exact DataW.trod_lt m _ _ _ hm
  obtain ⟨c0a, c0b, y0a, y0b, m0, rfl, rfl, rfl, hy0a, hy0b⟩ := open_agg2 Try.underlying24 (by kernel_rfl) cells24 (hval 0 24 v0 rfl rfl) h0
  obtain ⟨x0a, e0a, rfl, w0a⟩ := DataW.trod_int Try.underlying22 hy0a
  obtain ⟨x0b, e0b, rfl, w0b⟩ := DataW.trod_int Try.underlying22 hy0b
  simp at e0a e0b
  subst e0a e0b
  obtain ⟨a0, W0, ra0, rb0⟩ := wide_of x0a x0b (word_of w0a).1 (word_of w0a).2 (word_of w0b).1 (word_of w0b).2
  subst ra0 rb0
  have k1 := h1
  have lt1 : ∀ x ∈ p1, x.block < W.heap.size := by obtain ⟨m, hm⟩ := k1; exact DataW.trod_lt m _ _ _ hm
  obtain ⟨c1a, c1b, y1a, y1b, m1, rfl, rfl, rfl, hy1a, hy1b⟩ := open_agg2 Try.underlying24 (by kernel_rfl) cells24 (hval 1 24 v1 rfl rfl) h1
  obtain ⟨x1a, e1a, rfl, w1a⟩ := DataW.trod_int Try.underlying22 hy1a
  obtain ⟨x1b, e1b, rfl, w1b⟩ := DataW.trod_int Try.underlying22 hy1b
  simp at e1a e1b
  subst e1a e1b
  obtain ⟨a1, W1, ra1, rb1⟩ := wide_of x1a x1b (word_of w1a).1 (word_of w1a).2 (word_of w1b).1 (word_of w1b).2
  subst ra1 rb1
  have k2 := h2
  have lt2 : ∀ x ∈ p2, x.block < W.heap.size := by obtain ⟨m, hm⟩ := k2; exact DataW.trod_lt m _ _ _ hm
  obtain ⟨c2a, c2b, y2a, y2b, m2, rfl, rfl, rfl, hy2a, hy2b⟩ := open_agg2 Try.underlying24 (by kernel_rfl) cells24 (hval 2 24 v2 rfl rfl) h2
  obtain ⟨x2a, e2a, rfl, w2a⟩ := DataW.trod_int Try.underlying22 hy2a
  obtain ⟨x2b, e2b, rfl, w2b⟩ := DataW.trod_int Try.underlying22 hy2b
  simp at e2a e2b
  subst e2a e2b
  obtain ⟨a2, W2, ra2, rb2⟩ := wide_of x2a x2b (word_of w2a).1 (word_of w2a).2 (word_of w2b).1 (word_of w2b).2
  subst ra2 rb2
  clear hA0 hval0
  refine (walk_back a0 a1 a2 W0 W1 W2 W).mono fun e W' ⟨he, bel⟩ => ?_
  subst he
  exact ⟨_, rfl, _, _, _, [], _, [], hW', trodAll_mk1 (shut_bool Try.underlying4 _), (trodAll_cons_mk (Below.trod laidOut (by kernel_rfl) (of_decide_eq_true (by kernel_rfl)) k0 bel lt0) (trodAll_cons_mk (Below.trod laidOut (by kernel_rfl) (of_decide_eq_true (by kernel_rfl)) k1 bel lt1) (trodAll_cons_mk (Below.trod laidOut (by kernel_rfl) (of_decide_eq_true (by kernel_rfl)) k2 bel lt2) trodAll_mk0))), rfl, bel.frame _, fun h => by cases h⟩

theorem over : Rows.wideBackRow.holds Try.pinned (OpenSpec.ofChange Rows.wideBackSpec) :=
  OpenClaim.holds_of_wide 6 Try.f6 rfl rfl rfl rfl rfl rfl rfl ⟨rfl, rfl, rfl, rfl, rfl⟩ rfl rfl rfl rfl rfl (by kernel_rfl) Try.func6 (by kernel_rfl)
    (of_decide_eq_true (by kernel_rfl)) (by unfold Func.isWrapper; first | (rw [if_pos (by decide +kernel)]; kernel_rfl) | (rw [if_neg (by decide +kernel)]; exact ⟨rfl, rfl⟩))
    (fun os started H enc _ => lifted os started H enc)
theorem proved : Rows.WideBackSaid := over
#print axioms proved
end Go.Proofs.Ytopmfjjiakmleaa.wideBack
