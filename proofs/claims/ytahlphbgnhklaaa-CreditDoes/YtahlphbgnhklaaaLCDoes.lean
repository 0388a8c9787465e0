/-
  CreditDoes: for any burst, credit and numbers the program's Is, New, Fill, Take and Wait answer as the document's, and the chapter's rows hold. No conditions.
-/
import Derived.Test.YtahlphbgnhklaaaN7
import Derived.Test.YtahlphbgnhklaaaN6
import Derived.Test.YtahlphbgnhklaaaRows
import Derived.WalkKit
import Derived.ProofKit
import Derived.OpenShut
import Derived.ChangeOld
import Derived.Below
import Derived.Lib.SmallJoins
namespace Go.Proofs.Ytahlphbgnhklaaa
open Go.RowKit
set_option linter.unusedVariables false
attribute [local go_sem] Later.cell Later.frozen

set_option maxHeartbeats 4000000 in
set_option maxRecDepth 100000 in
theorem walk_cdoes (b a h r t s : Int) (b_0 : -9223372036854775808 ≤ b) (b_1 : b ≤ 9223372036854775807) (a_0 : -9223372036854775808 ≤ a) (a_1 : a ≤ 9223372036854775807) (h_0 : -9223372036854775808 ≤ h) (h_1 : h ≤ 9223372036854775807) (r_0 : -9223372036854775808 ≤ r) (r_1 : r ≤ 9223372036854775807) (t_0 : -9223372036854775808 ≤ t) (t_1 : t ≤ 9223372036854775807) (s_0 : -9223372036854775808 ≤ s) (s_1 : s ≤ 9223372036854775807) (w : World) :
    Calls Try.prog 3 #[.int .i64 b, .agg #[.int .i64 a, .int .i64 h], .int .i64 r, .int .i64 t, .int .i64 s] w fun e w' => e = .returned (.bool true) ∧ Below w.heap.size w w' := by
  go_enter Try.func3, Try.ntmps3
  go_wp2_with fail
  refine (new_any b t b_0 _).mono ?_
  rintro e w1 ⟨rfl, hw1⟩
  have A : At2 w1 w.heap.size (.int .i64 (a)) (.int .i64 (h)) := At2.below (by constructor <;> simp [go_sem]) hw1 (by simp <;> omega)
  have hb : Below w.heap.size w w1 := Below.call (by go_grown) (by simp <;> omega) hw1
  clear hw1
  have hs := hb.size
  obtain ⟨zA0, zA1, zA2, zA3, zA4⟩ := id A
  go_wp2_with fail
  refine (refNew_any b t _).mono ?_
  rintro e w2 ⟨rfl, hw2⟩
  replace A := (A.alloc _).below hw2 (by have := A.lt; simp <;> omega)
  have X1 : At2 w2 w1.heap.size (.int .i64 (nwA b t)) (.int .i64 (nwH b t)) := At2.after_fresh' hw2
  replace hb : Below w.heap.size w w2 := Below.call (show Below w.heap.size w _ by have := hb.size; go_grown) (by have := hb.size; simp <;> omega) hw2
  clear hw2 zA0 zA1 zA2 zA3 zA4
  have hs := hb.size
  obtain ⟨zA0, zA1, zA2, zA3, zA4⟩ := id A
  obtain ⟨zX10, zX11, zX12, zX13, zX14⟩ := id X1
  go_wp2_with fail
  refine (fill_any b a h r t h_0 h_1 _).mono ?_
  rintro e w3 ⟨rfl, hw3⟩
  replace A := (A.alloc _).below hw3 (by have := A.lt; simp <;> omega)
  replace X1 := (X1.alloc _).below hw3 (by have := X1.lt; simp <;> omega)
  have X2 : At2 w3 w2.heap.size (.int .i64 (nwA b t)) (.int .i64 (nwH b t)) := At2.after_fresh' hw3
  replace hb : Below w.heap.size w w3 := Below.call (show Below w.heap.size w _ by have := hb.size; go_grown) (by have := hb.size; simp <;> omega) hw3
  clear hw3 zA0 zA1 zA2 zA3 zA4 zX10 zX11 zX12 zX13 zX14
  have hs := hb.size
  obtain ⟨zA0, zA1, zA2, zA3, zA4⟩ := id A
  obtain ⟨zX10, zX11, zX12, zX13, zX14⟩ := id X1
  obtain ⟨zX20, zX21, zX22, zX23, zX24⟩ := id X2
  go_wp2_with fail
  refine (refFill_any b a h r t h_0 h_1 _).mono ?_
  rintro e w4 ⟨rfl, hw4⟩
  replace A := (A.alloc _).below hw4 (by have := A.lt; simp <;> omega)
  replace X1 := (X1.alloc _).below hw4 (by have := X1.lt; simp <;> omega)
  replace X2 := (X2.alloc _).below hw4 (by have := X2.lt; simp <;> omega)
  have X3 : At2 w4 w3.heap.size (.int .i64 (flA b a h r t)) (.int .i64 (flH b a h r t)) := At2.after_fresh' hw4
  replace hb : Below w.heap.size w w4 := Below.call (show Below w.heap.size w _ by have := hb.size; go_grown) (by have := hb.size; simp <;> omega) hw4
  clear hw4 zA0 zA1 zA2 zA3 zA4 zX10 zX11 zX12 zX13 zX14 zX20 zX21 zX22 zX23 zX24
  have hs := hb.size
  obtain ⟨zA0, zA1, zA2, zA3, zA4⟩ := id A
  obtain ⟨zX10, zX11, zX12, zX13, zX14⟩ := id X1
  obtain ⟨zX20, zX21, zX22, zX23, zX24⟩ := id X2
  obtain ⟨zX30, zX31, zX32, zX33, zX34⟩ := id X3
  go_wp2_with fail
  refine (take_any b a h s h_0 h_1 _).mono ?_
  rintro e w5 ⟨rfl, hw5⟩
  replace A := (A.alloc _).below hw5 (by have := A.lt; simp <;> omega)
  replace X1 := (X1.alloc _).below hw5 (by have := X1.lt; simp <;> omega)
  replace X2 := (X2.alloc _).below hw5 (by have := X2.lt; simp <;> omega)
  replace X3 := (X3.alloc _).below hw5 (by have := X3.lt; simp <;> omega)
  have X4 : At2 w5 w4.heap.size (.int .i64 (flA b a h r t)) (.int .i64 (flH b a h r t)) := At2.after_fresh' hw5
  replace hb : Below w.heap.size w w5 := Below.call (show Below w.heap.size w _ by have := hb.size; go_grown) (by have := hb.size; simp <;> omega) hw5
  clear hw5 zA0 zA1 zA2 zA3 zA4 zX10 zX11 zX12 zX13 zX14 zX20 zX21 zX22 zX23 zX24 zX30 zX31 zX32 zX33 zX34
  have hs := hb.size
  obtain ⟨zA0, zA1, zA2, zA3, zA4⟩ := id A
  obtain ⟨zX10, zX11, zX12, zX13, zX14⟩ := id X1
  obtain ⟨zX20, zX21, zX22, zX23, zX24⟩ := id X2
  obtain ⟨zX30, zX31, zX32, zX33, zX34⟩ := id X3
  obtain ⟨zX40, zX41, zX42, zX43, zX44⟩ := id X4
  go_wp2_with fail
  refine (refTake_any b a h s h_0 h_1 _).mono ?_
  rintro e w6 ⟨rfl, hw6⟩
  replace A := (A.alloc _).below hw6 (by have := A.lt; simp <;> omega)
  replace X1 := (X1.alloc _).below hw6 (by have := X1.lt; simp <;> omega)
  replace X2 := (X2.alloc _).below hw6 (by have := X2.lt; simp <;> omega)
  replace X3 := (X3.alloc _).below hw6 (by have := X3.lt; simp <;> omega)
  replace X4 := (X4.alloc _).below hw6 (by have := X4.lt; simp <;> omega)
  have X5 : At2 w6 w5.heap.size (.int .i64 (tkA b a h s)) (.int .i64 (tkH b a h s)) := At2.after_fresh' hw6
  replace hb : Below w.heap.size w w6 := Below.call (show Below w.heap.size w _ by have := hb.size; go_grown) (by have := hb.size; simp <;> omega) hw6
  clear hw6 zA0 zA1 zA2 zA3 zA4 zX10 zX11 zX12 zX13 zX14 zX20 zX21 zX22 zX23 zX24 zX30 zX31 zX32 zX33 zX34 zX40 zX41 zX42 zX43 zX44
  have hs := hb.size
  obtain ⟨zA0, zA1, zA2, zA3, zA4⟩ := id A
  obtain ⟨zX10, zX11, zX12, zX13, zX14⟩ := id X1
  obtain ⟨zX20, zX21, zX22, zX23, zX24⟩ := id X2
  obtain ⟨zX30, zX31, zX32, zX33, zX34⟩ := id X3
  obtain ⟨zX40, zX41, zX42, zX43, zX44⟩ := id X4
  obtain ⟨zX50, zX51, zX52, zX53, zX54⟩ := id X5
  go_upto_region 7 with fail
  refine wp_forget (fun W => At2 W w.heap.size (.int .i64 (a)) (.int .i64 (h)) ∧ At2 W w1.heap.size (.int .i64 (nwA b t)) (.int .i64 (nwH b t)) ∧ At2 W w2.heap.size (.int .i64 (nwA b t)) (.int .i64 (nwH b t)) ∧ At2 W w3.heap.size (.int .i64 (flA b a h r t)) (.int .i64 (flH b a h r t)) ∧ At2 W w4.heap.size (.int .i64 (flA b a h r t)) (.int .i64 (flH b a h r t)) ∧ At2 W w5.heap.size (.int .i64 (tkA b a h s)) (.int .i64 (tkH b a h s)) ∧ At2 W w6.heap.size (.int .i64 (tkA b a h s)) (.int .i64 (tkH b a h s)) ∧ Below w.heap.size w W) ⟨A.alloc _, X1.alloc _, X2.alloc _, X3.alloc _, X4.alloc _, X5.alloc _, At2.fresh _ _ _ _, by have := hb.size; go_grown⟩ ?_
  rintro W ⟨A', X1', X2', X3', X4', X5', X6', hb'⟩
  clear A X1 X2 X3 X4 X5 hb zA0 zA1 zA2 zA3 zA4 zX10 zX11 zX12 zX13 zX14 zX20 zX21 zX22 zX23 zX24 zX30 zX31 zX32 zX33 zX34 zX40 zX41 zX42 zX43 zX44 zX50 zX51 zX52 zX53 zX54
  obtain ⟨zA0, zA1, zA2, zA3, zA4⟩ := id A'
  obtain ⟨zX10, zX11, zX12, zX13, zX14⟩ := id X1'
  obtain ⟨zX20, zX21, zX22, zX23, zX24⟩ := id X2'
  obtain ⟨zX30, zX31, zX32, zX33, zX34⟩ := id X3'
  obtain ⟨zX40, zX41, zX42, zX43, zX44⟩ := id X4'
  obtain ⟨zX50, zX51, zX52, zX53, zX54⟩ := id X5'
  obtain ⟨zX60, zX61, zX62, zX63, zX64⟩ := id X6'
  have hne : Nonempty (Later W) := Later.ne W
  go_wp2_with fail
  refine wp_region_later (by kernel_rfl) (by kernel_rfl) ?_
  repeat (go_big_quiet_step (first | (go_at_call 14; exact Later.call _ (credited_any _)) | (go_at_call 15; exact Later.call _ (is_any b a h h_0 h_1 _ rfl _)) | (go_at_call 16; exact Later.call _ (refIs_any b a h h_0 h_1 _ rfl _)) | (go_at_call 17; exact Later.call _ (wait_any a h r s h_0 h_1 r_1 s_1 _)) | (go_at_call 18; exact Later.call _ (refWait_any a h r s h_0 h_1 r_1 s_1 _))))
  refine wpQuiet_nil ?_
  rintro w9 ⟨⟨_, hw9⟩, rfl⟩
  go_wp2
  go_ret
  exact ⟨rfl, Below.call hb' hb'.size hw9⟩
end Go.Proofs.Ytahlphbgnhklaaa
namespace Go.Proofs.Ytahlphbgnhklaaa.creditDoes
open Go.ChangeShapes Go.WideShapes Go.ChangeAt Go.RowKit Go.Joins
set_option linter.unusedVariables false

theorem own : ownKnob Try.prog.godebug = none := by kernel_rfl
theorem laidOut : laidOutB Try.prog = true := by kernel_rfl
theorem cells23 : Try.prog.cellsOf 23 = 2 := by kernel_rfl
theorem word_of {x : Int} (h : (Lit.int .u64 x).wf = true) : 0 ≤ x ∧ x ≤ 18446744073709551615 := by
  simp [Lit.wf, IntKind.min, IntKind.max, IntKind.signed, IntKind.bits] at h
  exact ⟨by omega, by omega⟩
theorem int_of {x : Int} (h : (Lit.int .i64 x).wf = true) : -9223372036854775808 ≤ x ∧ x ≤ 9223372036854775807 := by
  simp [Lit.wf, IntKind.min, IntKind.max, IntKind.signed, IntKind.bits] at h
  exact ⟨by omega, by omega⟩

set_option maxRecDepth 100000 in
theorem lifted (os : Os) (started : os.Started) (H : Type) (enc : TypeId × Value → H) :
    ReturnsInHanded {} Try.checked os 3 .any (Rows.creditDoesSpec.pre6 enc Try.prog Try.f3 Rows.creditDoesRow.domain false) (Rows.creditDoesSpec.post enc Try.prog Try.f3 false true false false) := by
  refine returnsInHanded_of_change (C := Try.checked) own started (by kernel_rfl) Try.func3
    (ChangeSpec.witness6 (enc := enc) (C := Try.checked) false ⟨#[], #[.int .i64 0, .agg #[.int .i64 0, .int .i64 0], .int .i64 0, .int .i64 0, .int .i64 0], []⟩ 8 (by kernel_rfl) (by kernel_rfl) (by kernel_rfl) (by kernel_rfl)) ?_
  intro W base args ds gs before hval0 hW hcnd _
  have hval : ∀ (j : Nat) t v, Try.f3.params[j]? = some t → args[j]? = some v → Value.okWide Try.prog W .any base t v := hval0
  have hW' := hW
  obtain ⟨p, q, hA0, hV, rfl, hfz, hnd⟩ := hW
  have hA : DataW.TrodAll enc Try.prog W 0 (fun _ => true) true Try.f3.params.toList args.toList ds p := hA0
  rw [Try.params3] at hA hval
  obtain ⟨v0, vs0, d0, ds0, p0, q0, hargs, rfl, rfl, h0, r0⟩ := trodAll_cons hA
  obtain ⟨v1, vs1, d1, ds1, p1, q1, rfl, rfl, rfl, h1, r1⟩ := trodAll_cons r0
  obtain ⟨v2, vs2, d2, ds2, p2, q2, rfl, rfl, rfl, h2, r2⟩ := trodAll_cons r1
  obtain ⟨v3, vs3, d3, ds3, p3, q3, rfl, rfl, rfl, h3, r3⟩ := trodAll_cons r2
  obtain ⟨v4, vs4, d4, ds4, p4, q4, rfl, rfl, rfl, h4, r4⟩ := trodAll_cons r3
  obtain ⟨rfl, rfl, rfl⟩ := trodAll_nil r4
  obtain rfl : args = #[v0, v1, v2, v3, v4] := by cases args; simp_all
  obtain ⟨rfl, rfl⟩ := trodVars_none hV
  obtain ⟨a0, rfl, rfl, rfl, w0⟩ := open_int Try.underlying3 (hval 0 3 v0 rfl rfl) h0
  have k1 := h1
  have lt1 : ∀ x ∈ p1, x.block < W.heap.size := by obtain ⟨m, hm⟩ := k1; exact DataW.trod_lt m _ _ _ hm
  obtain ⟨c1a, c1b, y1a, y1b, m1, rfl, rfl, rfl, hy1a, hy1b⟩ := open_agg2 Try.underlying23 (by kernel_rfl) cells23 (hval 1 23 v1 rfl rfl) h1
  obtain ⟨x1a, e1a, rfl, w1a⟩ := DataW.trod_int Try.underlying3 hy1a
  obtain ⟨x1b, e1b, rfl, w1b⟩ := DataW.trod_int Try.underlying3 hy1b
  simp at e1a e1b
  subst e1a e1b
  obtain ⟨a2, rfl, rfl, rfl, w2⟩ := open_int Try.underlying3 (hval 2 3 v2 rfl rfl) h2
  obtain ⟨a3, rfl, rfl, rfl, w3⟩ := open_int Try.underlying3 (hval 3 3 v3 rfl rfl) h3
  obtain ⟨a4, rfl, rfl, rfl, w4⟩ := open_int Try.underlying3 (hval 4 3 v4 rfl rfl) h4
  clear hA0 hval0
  refine (walk_cdoes a0 x1a x1b a2 a3 a4 (int_of w0).1 (int_of w0).2 (int_of w1a).1 (int_of w1a).2 (int_of w1b).1 (int_of w1b).2 (int_of w2).1 (int_of w2).2 (int_of w3).1 (int_of w3).2 (int_of w4).1 (int_of w4).2 W).mono fun e W' ⟨he, bel⟩ => ?_
  subst he
  exact ⟨_, rfl, _, _, _, [], _, [], hW', trodAll_mk1 (shut_bool Try.underlying4 _), (trodAll_cons_mk (shut_int Try.underlying3 w0) (trodAll_cons_mk (Below.trod laidOut (by kernel_rfl) (of_decide_eq_true (by kernel_rfl)) k1 bel lt1) (trodAll_cons_mk (shut_int Try.underlying3 w2) (trodAll_cons_mk (shut_int Try.underlying3 w3) (trodAll_cons_mk (shut_int Try.underlying3 w4) trodAll_mk0))))), rfl, bel.frame _, fun h => by cases h⟩

theorem over : Rows.creditDoesRow.holds Try.pinned (OpenSpec.ofChange Rows.creditDoesSpec) :=
  OpenClaim.holds_of_wide 3 Try.f3 rfl rfl rfl rfl rfl rfl rfl ⟨rfl, rfl, rfl, rfl, rfl⟩ rfl rfl rfl rfl rfl (by kernel_rfl) Try.func3 (by kernel_rfl)
    (of_decide_eq_true (by kernel_rfl)) (by unfold Func.isWrapper; first | (rw [if_pos (by decide +kernel)]; kernel_rfl) | (rw [if_neg (by decide +kernel)]; exact ⟨rfl, rfl⟩))
    (fun os started H enc _ => lifted os started H enc)
theorem proved : Rows.CreditDoesSaid := over
#print axioms proved
end Go.Proofs.Ytahlphbgnhklaaa.creditDoes
