/-
  DrawDoes: for any source and two numbers a draw, and the source behind it, seeds and tapes are just the document's. No conditions.
-/
import Derived.Test.YtfpchofihofojaaQ13
import Derived.Test.YtfpchofihofojaaOS
import Derived.Test.YtfpchofihofojaaRows
import Derived.WalkKit
import Derived.ProofKit
import Derived.OpenShut
import Derived.ChangeOld
import Derived.Below
import Derived.Lib.SmallJoins
namespace Go.Proofs.Ytfpchofihofojaa
open Go.RowKit
set_option linter.unusedVariables false
attribute [local go_sem] Later.cell Later.frozen
theorem info_word : (Try.prog.info? 22).map (fun i => (i.zero, i.size, i.bytes)) = some (some (.int .u64 0), 1, 8) := by kernel_rfl
theorem Row.clip' {k : IntKind} {w : World} {ao : Option Addr} {n c : Nat} {zs : List Int} (h : Row k w ao n c zs) : Row k w ao n n zs :=
  ⟨h.len, Nat.le_refl _, Nat.le_trans h.cap h.max, fun e => by have := h.nil e; have := h.cap; omega, h.wf, h.at'⟩
set_option maxHeartbeats 4000000 in
set_option maxRecDepth 100000 in
theorem walk_does (k s i p : Int) (ao : Option Addr) (n c : Nat) (zs : List Int) (e t : Int) (h0 : 0 ≤ s) (h1 : s ≤ 18446744073709551615) (i0 : 0 ≤ i) (i1 : i ≤ 18446744073709551615) (k0 : -9223372036854775808 ≤ k) (k1 : k ≤ 9223372036854775807) (p0 : -9223372036854775808 ≤ p) (p1 : p ≤ 9223372036854775807)
    (e0 : 0 ≤ e) (e1 : e ≤ 18446744073709551615) (t0 : 0 ≤ t) (t1 : t ≤ 18446744073709551615) (w : World) (hz : Row .u64 w ao n c zs) :
    Calls Try.prog 3 #[.agg #[.int .i64 k, .int .u64 s, .int .u64 i, .slice ao n c, .int .i64 p], .int .u64 e, .int .u64 t] w fun e w' => e = .returned (.bool true) ∧ Below w.heap.size w w' := by
  by_cases e5 : (2000 : Int) < n
  · have hbig : decide ((2000 : Int) < n) = true := by simpa using e5
    have G := fun w => big_any k s i p ao n c w
    rw [hbig] at G
    go_enter Try.func3, Try.ntmps3
    go_wp2_with fail
    refine (G _).mono ?_
    rintro e w1 ⟨rfl, hw1⟩
    have g1 : Below w.heap.size w w1 := Below.call (by go_grown) (by simp) hw1
    go_wp2
    go_ret
    exact ⟨rfl, g1⟩
  have hbig : decide ((2000 : Int) < n) = false := by simpa using e5
  have G := fun w => big_any k s i p ao n c w
  rw [hbig] at G
  have hn : n ≤ 2000 := by omega
  clear hbig e5
  have C9 := fun w hz => next_any k s i p ao n c zs h0 h1 i0 i1 w hz
  have C10 := fun w ao' c' hz => refNext_any k s i p ao' n c' zs h0 h1 i0 i1 w hz
  have P13 := fun w => pcg_any e t e0 e1 t0 t1 w
  have P14 := fun w => refPcg_any e t e0 e1 t0 t1 w
  generalize seedv e t = sp' at *
  generalize incv t = ip' at *
  generalize drawv k s p zs = x at *
  generalize statev k s i = s' at *
  generalize atv k p zs = p' at *
  obtain ⟨i9, hi, hz0, hz1, hz2⟩ := info_parts info_word
  go_enter Try.func3, Try.ntmps3
  go_wp2_with fail
  refine (G _).mono ?_
  rintro e w1 ⟨rfl, hw1⟩
  have g1 : Below w.heap.size w w1 := Below.call (by go_grown) (by simp) hw1
  have S : At5 w1 w.heap.size (.int .i64 k) (.int .u64 s) (.int .u64 i) (.slice ao n c) (.int .i64 p) := At5.of hw1 (by constructor <;> simp [go_sem])
  have R := (hz.alloc _).below hw1
  clear hw1 G
  obtain ⟨s0, s1, s2, s3, s4, sa, sb, sc, sd, se, sl⟩ := id S
  have hne1 : w.heap.size ≠ w1.heap.size := by omega
  have hne2 : w1.heap.size ≠ w.heap.size := by omega
  go_wp2_with (at_builtin; refine wpList_append_row _ rfl (.tmp 16) (.tmp 18) 23 rfl (w1.heap.size + 1) 22 i9 (.int .u64 0) 8 Try.underlying23 hi hz0 hz1 hz2 rfl (.slice none 0 0) 0 [] rfl (World.ownsRow_nil _ _ _ _) .u64 ao n c zs rfl (R.alloc _) (by unfold maxLen; omega) (by omega) (by simp) ?_; intro v2 w2 own2 gr2; simp only [Nat.zero_add, List.nil_append] at own2; obtain ⟨ao', c', rfl, _⟩ := Row.own own2 R.wf; have X2 := Below.grown (Below.refl (w1.heap.size + 1) _) gr2 (by simp) (by simp [Value.ownBlock]); have Y2 := X2.mono (show (w1.alloc (.cells #[.int .i64 k, .int .u64 s, .int .u64 i, .slice ao n c, .int .i64 p] 25)).heap.size ≤ w1.heap.size + 1 by simp); have S2 := At5.of Y2 (S.alloc _); have T2 : At5 w2 w1.heap.size (.int .i64 k) (.int .u64 s) (.int .u64 i) (.slice ao n c) (.int .i64 p) := At5.of Y2 (At5.fresh _ _ _ _ _ _ _); clear Y2 s0 s1 s2 s3 s4 sa sb sc sd se sl; obtain ⟨s0, s1, s2, s3, s4, sa, sb, sc, sd, se, sl⟩ := id S2; obtain ⟨t0, t1, t2, t3, t4, ta, tb, tc, td, te, tl⟩ := id T2)
  have gW : Below w.heap.size w (w2.setCell ⟨w1.heap.size, 3, none⟩ (.slice ao' n c')) := ((g1.alloc g1.size _).trans (X2.mono (by have := g1.size; omega))).setCell g1.size _
  have RW := hz.below gW
  have own3 := ownsRow_setCell_below own2 (a := ⟨w1.heap.size, 3, none⟩) (Nat.lt_succ_self _) (.slice ao' n c')
  obtain ⟨ao2, c2, e2, RO⟩ := Row.own own3 R.wf
  simp only [Value.slice.injEq, true_and] at e2
  obtain ⟨rfl, rfl⟩ := e2
  have SW := S2.other (a := ⟨w1.heap.size, 3, none⟩) hne2 (.slice ao' n c')
  have TW := T2.put3 (.slice ao' n c')
  clear own2 own3 gr2 X2 S2 T2 R S hz s0 s1 s2 s3 s4 sa sb sc sd se sl t0 t1 t2 t3 t4 ta tb tc td te tl
  refine (C9 _ RW).mono ?_
  rintro e w3 ⟨rfl, hw3⟩
  have g3 := Below.call gW gW.size hw3
  have S3 := At5.of hw3 SW
  have T3 := At5.of hw3 TW
  have R3 := RW.below hw3
  have RO3 := RO.below hw3
  clear hw3 gW SW TW RW RO C9
  obtain ⟨s0, s1, s2, s3, s4, sa, sb, sc, sd, se, sl⟩ := id S3
  obtain ⟨t0, t1, t2, t3, t4, ta, tb, tc, td, te, tl⟩ := id T3
  go_wp2_with fail
  refine (C10 _ _ _ (RO3.alloc _)).mono ?_
  rintro e w4 ⟨rfl, hw4⟩
  have g4 : Below w.heap.size w w4 := Below.call (by have := g3.size; go_grown) (by have := g3.size; simp; omega) hw4
  have S4 := At5.of hw4 (S3.alloc _)
  have T4 := At5.of hw4 (T3.alloc _)
  have U4 : At5 w4 w3.heap.size (.int .i64 k) (.int .u64 s') (.int .u64 i) (.slice ao n c) (.int .i64 p') := At5.of hw4 (At5.fresh _ _ _ _ _ _ _)
  have R4 := (R3.alloc _).below hw4
  have RO4 := (RO3.alloc _).below hw4
  clear hw4 g3 S3 T3 R3 RO3 C10 s0 s1 s2 s3 s4 sa sb sc sd se sl t0 t1 t2 t3 t4 ta tb tc td te tl
  go_wp2_with fail
  refine wp_forget (fun W => At5 W w.heap.size (.int .i64 k) (.int .u64 s) (.int .u64 i) (.slice ao n c) (.int .i64 p) ∧ At5 W w1.heap.size (.int .i64 k) (.int .u64 s) (.int .u64 i) (.slice ao' n c') (.int .i64 p) ∧ At5 W w3.heap.size (.int .i64 k) (.int .u64 s') (.int .u64 i) (.slice ao n c) (.int .i64 p') ∧ At5 W w4.heap.size (.int .i64 k) (.int .u64 s') (.int .u64 i) (.slice ao' n c') (.int .i64 p') ∧ Row .u64 W ao n c zs ∧ Row .u64 W ao' n c' zs ∧ Below w.heap.size w W)
    ⟨S4.alloc _, T4.alloc _, U4.alloc _, At5.fresh _ _ _ _ _ _ _, R4.alloc _, RO4.alloc _, by have := g4.size; go_grown⟩ ?_
  clear S4 T4 U4 R4 RO4 g4
  rintro W ⟨S, T, U, V, R, RO, g⟩
  obtain ⟨s0, s1, s2, s3, s4, sa, sb, sc, sd, se, sl⟩ := id S
  obtain ⟨t0, t1, t2, t3, t4, ta, tb, tc, td, te, tl⟩ := id T
  obtain ⟨u0, u1, u2, u3, u4, ua, ub, uc, ud, ue, ul⟩ := id U
  obtain ⟨v0, v1, v2, v3, v4, va, vb, vc, vd, ve, vl⟩ := id V
  have hne : Nonempty (Later W) := Later.ne W
  go_wp2_with fail
  refine wp_region_later (by kernel_rfl) (by kernel_rfl) ?_
  repeat (go_big_quiet_step (first
    | (go_at_call 11; exact Later.call _ (drawn_any _))
    | (go_at_call 13; exact Later.call _ (P13 _))
    | (go_at_call 14; exact Later.call _ (P14 _))
    | (go_at_call 15; exact Later.call _ (tape_any ao n c zs _ (R.later _)))
    | (go_at_call 16; exact Later.call _ (refTape_any ao' n c' _))
    | (go_at_call_of 12 (Value.int IntKind.u64 sp'); exact Later.call _ (same_any 1 sp' ip' 0 none none 0 0 0 [] _ (row_nil _ _) (row_nil _ _)))
    | (go_at_call_of 12 (Value.slice ao n n); exact Later.call _ (same_any 2 0 0 0 ao ao' n n c' zs _ (R.clip'.later _) (RO.later _)))
    | (go_at_call_of 12 (Value.int IntKind.u64 s'); exact Later.call _ (same_any k s' i p' ao ao' n c c' zs _ (R.later _) (RO.later _)))
    | (go_at_call_of 12 (Value.int IntKind.u64 s); exact Later.call _ (same_any k s i p ao ao' n c c' zs _ (R.later _) (RO.later _)))))
  refine wpQuiet_nil ?_
  rintro w5 ⟨⟨_, hw5⟩, rfl⟩
  go_wp2
  go_ret
  exact ⟨rfl, Below.call g g.size hw5⟩
end Go.Proofs.Ytfpchofihofojaa
namespace Go.Proofs.Ytfpchofihofojaa.drawDoes
open Go.ChangeShapes Go.WideShapes Go.ChangeAt Go.RowKit Go.Joins
set_option linter.unusedVariables false

theorem own : ownKnob Try.prog.godebug = none := by kernel_rfl
theorem laidOut : laidOutB Try.prog = true := by kernel_rfl
theorem word_of {x : Int} (h : (Lit.int .u64 x).wf = true) : 0 ≤ x ∧ x ≤ 18446744073709551615 := by
  simp [Lit.wf, IntKind.min, IntKind.max, IntKind.signed, IntKind.bits] at h
  exact ⟨by omega, by omega⟩
theorem int_of {x : Int} (h : (Lit.int .i64 x).wf = true) : -9223372036854775808 ≤ x ∧ x ≤ 9223372036854775807 := by
  simp [Lit.wf, IntKind.min, IntKind.max, IntKind.signed, IntKind.bits] at h
  exact ⟨by omega, by omega⟩

set_option maxRecDepth 100000 in
theorem lifted (os : Os) (started : os.Started) (H : Type) (enc : TypeId × Value → H) :
    ReturnsInHanded {} Try.checked os 3 .any (Rows.drawDoesSpec.pre6 enc Try.prog Try.f3 Rows.drawDoesRow.domain false) (Rows.drawDoesSpec.post enc Try.prog Try.f3 false true false false) := by
  refine returnsInHanded_of_change (C := Try.checked) own started (by kernel_rfl) Try.func3
    (ChangeSpec.witness6 (enc := enc) (C := Try.checked) false ⟨#[], #[.agg #[.int .i64 0, .int .u64 0, .int .u64 0, .slice none 0 0, .int .i64 0], .int .u64 0, .int .u64 0], []⟩ 8 (by kernel_rfl) (by kernel_rfl) (by kernel_rfl) (by kernel_rfl)) ?_
  intro W base args ds gs before hval0 hW hcnd _
  have hval : ∀ (j : Nat) t v, Try.f3.params[j]? = some t → args[j]? = some v → Value.okWide Try.prog W .any base t v := hval0
  have hW' := hW
  obtain ⟨p, q, hA0, hV, rfl, hfz, hnd⟩ := hW
  have hA : DataW.TrodAll enc Try.prog W 0 (fun _ => true) true Try.f3.params.toList args.toList ds p := hA0
  rw [Try.params3] at hA hval
  obtain ⟨v0, vs0, d0, ds0, p0, q0, hargs, rfl, rfl, h0, r0⟩ := trodAll_cons hA
  obtain ⟨v1, vs1, d1, ds1, p1, q1, rfl, rfl, rfl, h1, r1⟩ := trodAll_cons r0
  obtain ⟨v2, vs2, d2, ds2, p2, q2, rfl, rfl, rfl, h2, r2⟩ := trodAll_cons r1
  obtain ⟨rfl, rfl, rfl⟩ := trodAll_nil r2
  obtain rfl : args = #[v0, v1, v2] := by cases args; simp_all
  obtain ⟨rfl, rfl⟩ := trodVars_none hV
  have k0 := h0
  have lt0 : ∀ x ∈ p0, x.block < W.heap.size := by obtain ⟨m, hm⟩ := k0; exact DataW.trod_lt m _ _ _ hm
  obtain ⟨k_0, s_0, i_0, q_0, ao_0, n_0, c_0, zs_0, rfl, bs0, bi0, bk0, bq0, hz0⟩ := open_source (hval 0 25 v0 rfl rfl) h0
  obtain ⟨a1, rfl, rfl, rfl, w1⟩ := open_int Try.underlying22 (hval 1 22 v1 rfl rfl) h1
  obtain ⟨a2, rfl, rfl, rfl, w2⟩ := open_int Try.underlying22 (hval 2 22 v2 rfl rfl) h2
  clear hA0 hval0
  refine (walk_does k_0 s_0 i_0 q_0 ao_0 n_0 c_0 zs_0 a1 a2 bs0.1 bs0.2 bi0.1 bi0.2 bk0.1 bk0.2 bq0.1 bq0.2 (word_of w1).1 (word_of w1).2 (word_of w2).1 (word_of w2).2 W hz0).mono fun e W' ⟨he, bel⟩ => ?_
  subst he
  exact ⟨_, rfl, _, _, _, [], _, [], hW', trodAll_mk1 (shut_bool Try.underlying4 _), (trodAll_cons_mk (Below.trod laidOut (by kernel_rfl) (of_decide_eq_true (by kernel_rfl)) k0 bel lt0) (trodAll_cons_mk (shut_int Try.underlying22 w1) (trodAll_cons_mk (shut_int Try.underlying22 w2) trodAll_mk0))), rfl, bel.frame _, fun h => by cases h⟩

theorem over : Rows.drawDoesRow.holds Try.pinned (OpenSpec.ofChange Rows.drawDoesSpec) :=
  OpenClaim.holds_of_wide 3 Try.f3 rfl rfl rfl rfl rfl rfl rfl ⟨rfl, rfl, rfl, rfl, rfl⟩ rfl rfl rfl rfl rfl (by kernel_rfl) Try.func3 (by kernel_rfl)
    (of_decide_eq_true (by kernel_rfl)) (by unfold Func.isWrapper; first | (rw [if_pos (by decide +kernel)]; kernel_rfl) | (rw [if_neg (by decide +kernel)]; exact ⟨rfl, rfl⟩))
    (fun os started H enc _ => lifted os started H enc)
theorem proved : Rows.DrawDoesSaid := over
#print axioms proved
end Go.Proofs.Ytfpchofihofojaa.drawDoes
