/-
  WideSums: for any two numbers the program's sum, difference and order are the document's. No conditions.
-/
import Derived.Test.YtopmfjjiakmleaaE1
import Derived.Test.YtopmfjjiakmleaaC5
import Derived.Test.YtopmfjjiakmleaaRows
import Derived.WalkKit
import Derived.ProofKit
import Derived.OpenShut
import Derived.ChangeOld
import Derived.Below
import Derived.Lib.SmallJoins
namespace Go.Proofs.Ytopmfjjiakmleaa
open Go.RowKit
set_option linter.unusedVariables false
attribute [local go_sem] Later.cell Later.frozen

set_option maxHeartbeats 4000000 in
set_option maxRecDepth 100000 in
theorem walk_sums (a b : Int) (ha : W128 a) (hbW : W128 b) (w : World) : Calls Try.prog 3 #[.agg #[.int .u64 (hiw a), .int .u64 (low a)], .agg #[.int .u64 (hiw b), .int .u64 (low b)]] w fun e w' => e = .returned (.bool true) ∧ Below w.heap.size w w' := by
  go_enter Try.func3, Try.ntmps3
  go_wp2_with fail
  refine (add_any a b ha hbW _).mono ?_
  rintro e w1 ⟨rfl, hw1⟩
  have A : At2 w1 w.heap.size (.int .u64 (hiw a)) (.int .u64 (low a)) := At2.below (by constructor <;> simp [go_sem]) hw1 (by simp <;> omega)
  have B : At2 w1 (w.heap.size + 1) (.int .u64 (hiw b)) (.int .u64 (low b)) := At2.below (by constructor <;> simp [go_sem]) hw1 (by simp <;> omega)
  have hb : Below w.heap.size w w1 := Below.call (by go_grown) (by simp <;> omega) hw1
  clear hw1
  obtain ⟨zA0, zA1, zA2, zA3, zA4⟩ := id A
  obtain ⟨zB0, zB1, zB2, zB3, zB4⟩ := id B
  go_wp2_with fail
  refine (refAdd_any a b ha hbW _).mono ?_
  rintro e w2 ⟨rfl, hw2⟩
  replace A := (A.alloc _).below hw2 (by have := A.lt; simp <;> omega)
  replace B := (B.alloc _).below hw2 (by have := B.lt; simp <;> omega)
  have X : At2 w2 w1.heap.size (.int .u64 (hiw (addv a b))) (.int .u64 (low (addv a b))) := At2.after_fresh' hw2
  replace hb := Below.call (show Below w.heap.size w _ by go_grown) (by have := hb.size; simp <;> omega) hw2
  clear hw2 zA0 zA1 zA2 zA3 zA4 zB0 zB1 zB2 zB3 zB4
  obtain ⟨zA0, zA1, zA2, zA3, zA4⟩ := id A
  obtain ⟨zB0, zB1, zB2, zB3, zB4⟩ := id B
  obtain ⟨zX0, zX1, zX2, zX3, zX4⟩ := id X
  go_wp2_with fail
  refine (sub_any a b ha hbW _).mono ?_
  rintro e w3 ⟨rfl, hw3⟩
  replace A := (A.alloc _).below hw3 (by have := A.lt; simp <;> omega)
  replace B := (B.alloc _).below hw3 (by have := B.lt; simp <;> omega)
  replace X := (X.alloc _).below hw3 (by have := X.lt; simp <;> omega)
  have Y : At2 w3 w2.heap.size (.int .u64 (hiw (addv a b))) (.int .u64 (low (addv a b))) := At2.after_fresh' hw3
  replace hb := Below.call (show Below w.heap.size w _ by go_grown) (by have := hb.size; simp <;> omega) hw3
  clear hw3 zA0 zA1 zA2 zA3 zA4 zB0 zB1 zB2 zB3 zB4 zX0 zX1 zX2 zX3 zX4
  obtain ⟨zA0, zA1, zA2, zA3, zA4⟩ := id A
  obtain ⟨zB0, zB1, zB2, zB3, zB4⟩ := id B
  obtain ⟨zX0, zX1, zX2, zX3, zX4⟩ := id X
  obtain ⟨zY0, zY1, zY2, zY3, zY4⟩ := id Y
  go_wp2_with fail
  refine (refSub_any a b ha hbW _).mono ?_
  rintro e w4 ⟨rfl, hw4⟩
  replace A := (A.alloc _).below hw4 (by have := A.lt; simp <;> omega)
  replace B := (B.alloc _).below hw4 (by have := B.lt; simp <;> omega)
  replace X := (X.alloc _).below hw4 (by have := X.lt; simp <;> omega)
  replace Y := (Y.alloc _).below hw4 (by have := Y.lt; simp <;> omega)
  have U : At2 w4 w3.heap.size (.int .u64 (hiw (subv a b))) (.int .u64 (low (subv a b))) := At2.after_fresh' hw4
  replace hb := Below.call (show Below w.heap.size w _ by go_grown) (by have := hb.size; simp <;> omega) hw4
  clear hw4 zA0 zA1 zA2 zA3 zA4 zB0 zB1 zB2 zB3 zB4 zX0 zX1 zX2 zX3 zX4 zY0 zY1 zY2 zY3 zY4
  obtain ⟨zA0, zA1, zA2, zA3, zA4⟩ := id A
  obtain ⟨zB0, zB1, zB2, zB3, zB4⟩ := id B
  obtain ⟨zX0, zX1, zX2, zX3, zX4⟩ := id X
  obtain ⟨zY0, zY1, zY2, zY3, zY4⟩ := id Y
  obtain ⟨zU0, zU1, zU2, zU3, zU4⟩ := id U
  go_upto_region 5 with fail
  refine wp_forget (fun W => At2 W w.heap.size (.int .u64 (hiw a)) (.int .u64 (low a)) ∧ At2 W (w.heap.size + 1) (.int .u64 (hiw b)) (.int .u64 (low b)) ∧ At2 W w1.heap.size (.int .u64 (hiw (addv a b))) (.int .u64 (low (addv a b))) ∧
    At2 W w2.heap.size (.int .u64 (hiw (addv a b))) (.int .u64 (low (addv a b))) ∧ At2 W w3.heap.size (.int .u64 (hiw (subv a b))) (.int .u64 (low (subv a b))) ∧
    At2 W w4.heap.size (.int .u64 (hiw (subv a b))) (.int .u64 (low (subv a b))) ∧ Below w.heap.size w W) ⟨A.alloc _, B.alloc _, X.alloc _, Y.alloc _, U.alloc _, At2.fresh _ _ _ _, by have := hb.size; go_grown⟩ ?_
  rintro W ⟨A', B', X', Y', U', V', hb'⟩
  clear A B X Y U hb zA0 zA1 zA2 zA3 zA4 zB0 zB1 zB2 zB3 zB4 zX0 zX1 zX2 zX3 zX4 zY0 zY1 zY2 zY3 zY4 zU0 zU1 zU2 zU3 zU4
  obtain ⟨zA0, zA1, zA2, zA3, zA4⟩ := id A'
  obtain ⟨zB0, zB1, zB2, zB3, zB4⟩ := id B'
  obtain ⟨zX0, zX1, zX2, zX3, zX4⟩ := id X'
  obtain ⟨zY0, zY1, zY2, zY3, zY4⟩ := id Y'
  obtain ⟨zU0, zU1, zU2, zU3, zU4⟩ := id U'
  obtain ⟨zV0, zV1, zV2, zV3, zV4⟩ := id V'
  have hne : Nonempty (Later W) := Later.ne W
  go_wp2_with fail
  refine wp_region_later (by kernel_rfl) (by kernel_rfl) ?_
  repeat (go_big_quiet_step (first | (go_at_call 13; exact Later.call _ (broad_any _)) | (go_at_call 14; exact Later.call _ (cmp_any a b ha hbW _)) | (go_at_call 15; exact Later.call _ (refCmp_any a b ha hbW _))))
  refine wpQuiet_nil ?_
  rintro w5 ⟨⟨_, hw5⟩, rfl⟩
  go_wp2
  go_ret
  exact ⟨rfl, Below.call hb' hb'.size hw5⟩
end Go.Proofs.Ytopmfjjiakmleaa
namespace Go.Proofs.Ytopmfjjiakmleaa.wideSums
open Go.ChangeShapes Go.WideShapes Go.ChangeAt Go.RowKit Go.Joins
set_option linter.unusedVariables false

theorem own : ownKnob Try.prog.godebug = none := by kernel_rfl
theorem laidOut : laidOutB Try.prog = true := by kernel_rfl
theorem cells24 : Try.prog.cellsOf 24 = 2 := by kernel_rfl
theorem word_of {x : Int} (h : (Lit.int .u64 x).wf = true) : 0 ≤ x ∧ x ≤ 18446744073709551615 := by
  simp [Lit.wf, IntKind.min, IntKind.max, IntKind.signed, IntKind.bits] at h
  exact ⟨by omega, by omega⟩
theorem int_of {x : Int} (h : (Lit.int .i64 x).wf = true) : -9223372036854775808 ≤ x ∧ x ≤ 9223372036854775807 := by
  simp [Lit.wf, IntKind.min, IntKind.max, IntKind.signed, IntKind.bits] at h
  exact ⟨by omega, by omega⟩

set_option maxRecDepth 100000 in
theorem lifted (os : Os) (started : os.Started) (H : Type) (enc : TypeId × Value → H) :
    ReturnsInHanded {} Try.checked os 3 .any (Rows.wideSumsSpec.pre6 enc Try.prog Try.f3 Rows.wideSumsRow.domain false) (Rows.wideSumsSpec.post enc Try.prog Try.f3 false true false false) := by
  refine returnsInHanded_of_change (C := Try.checked) own started (by kernel_rfl) Try.func3
    (ChangeSpec.witness6 (enc := enc) (C := Try.checked) false ⟨#[], #[.agg #[.int .u64 0, .int .u64 0], .agg #[.int .u64 0, .int .u64 0]], []⟩ 8 (by kernel_rfl) (by kernel_rfl) (by kernel_rfl) (by kernel_rfl)) ?_
  intro W base args ds gs before hval0 hW hcnd _
  have hval : ∀ (j : Nat) t v, Try.f3.params[j]? = some t → args[j]? = some v → Value.okWide Try.prog W .any base t v := hval0
  have hW' := hW
  obtain ⟨p, q, hA0, hV, rfl, hfz, hnd⟩ := hW
  have hA : DataW.TrodAll enc Try.prog W 0 (fun _ => true) true Try.f3.params.toList args.toList ds p := hA0
  rw [Try.params3] at hA hval
  obtain ⟨v0, vs0, d0, ds0, p0, q0, hargs, rfl, rfl, h0, r0⟩ := trodAll_cons hA
  obtain ⟨v1, vs1, d1, ds1, p1, q1, rfl, rfl, rfl, h1, r1⟩ := trodAll_cons r0
  obtain ⟨rfl, rfl, rfl⟩ := trodAll_nil r1
  obtain rfl : args = #[v0, v1] := by cases args; simp_all
  obtain ⟨rfl, rfl⟩ := trodVars_none hV
  have k0 := h0
  have lt0 : ∀ x ∈ p0, x.block < W.heap.size := by obtain ⟨m, hm⟩ := k0; exact DataW.trod_lt m _ _ _ hm
  obtain ⟨c0a, c0b, y0a, y0b, m0, rfl, rfl, rfl, hy0a, hy0b⟩ := open_agg2 Try.underlying24 (by kernel_rfl) cells24 (hval 0 24 v0 rfl rfl) h0
  obtain ⟨x0a, e0a, rfl, w0a⟩ := DataW.trod_int Try.underlying22 hy0a
  obtain ⟨x0b, e0b, rfl, w0b⟩ := DataW.trod_int Try.underlying22 hy0b
  simp at e0a e0b
  subst e0a e0b
  obtain ⟨a0, W0, ra0, rb0⟩ := wide_of x0a x0b (word_of w0a).1 (word_of w0a).2 (word_of w0b).1 (word_of w0b).2
  subst ra0 rb0
  have k1 := h1
  have lt1 : ∀ x ∈ p1, x.block < W.heap.size := by obtain ⟨m, hm⟩ := k1; exact DataW.trod_lt m _ _ _ hm
  obtain ⟨c1a, c1b, y1a, y1b, m1, rfl, rfl, rfl, hy1a, hy1b⟩ := open_agg2 Try.underlying24 (by kernel_rfl) cells24 (hval 1 24 v1 rfl rfl) h1
  obtain ⟨x1a, e1a, rfl, w1a⟩ := DataW.trod_int Try.underlying22 hy1a
  obtain ⟨x1b, e1b, rfl, w1b⟩ := DataW.trod_int Try.underlying22 hy1b
  simp at e1a e1b
  subst e1a e1b
  obtain ⟨a1, W1, ra1, rb1⟩ := wide_of x1a x1b (word_of w1a).1 (word_of w1a).2 (word_of w1b).1 (word_of w1b).2
  subst ra1 rb1
  clear hA0 hval0
  refine (walk_sums a0 a1 W0 W1 W).mono fun e W' ⟨he, bel⟩ => ?_
  subst he
  exact ⟨_, rfl, _, _, _, [], _, [], hW', trodAll_mk1 (shut_bool Try.underlying4 _), (trodAll_cons_mk (Below.trod laidOut (by kernel_rfl) (of_decide_eq_true (by kernel_rfl)) k0 bel lt0) (trodAll_cons_mk (Below.trod laidOut (by kernel_rfl) (of_decide_eq_true (by kernel_rfl)) k1 bel lt1) trodAll_mk0)), rfl, bel.frame _, fun h => by cases h⟩

theorem over : Rows.wideSumsRow.holds Try.pinned (OpenSpec.ofChange Rows.wideSumsSpec) :=
  OpenClaim.holds_of_wide 3 Try.f3 rfl rfl rfl rfl rfl rfl rfl ⟨rfl, rfl, rfl, rfl, rfl⟩ rfl rfl rfl rfl rfl (by kernel_rfl) Try.func3 (by kernel_rfl)
    (of_decide_eq_true (by kernel_rfl)) (by unfold Func.isWrapper; first | (rw [if_pos (by decide +kernel)]; kernel_rfl) | (rw [if_neg (by decide +kernel)]; exact ⟨rfl, rfl⟩))
    (fun os started H enc _ => lifted os started H enc)
theorem proved : Rows.WideSumsSaid := over
#print axioms proved
end Go.Proofs.Ytopmfjjiakmleaa.wideSums
