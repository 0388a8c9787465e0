/-
  WideWhole: for any number and three of 64 bits a product divided by one of both is the other one, with what is added below it left over. No conditions.
-/
import Derived.Test.YtopmfjjiakmleaaE1
import Derived.Test.YtopmfjjiakmleaaC5
import Derived.Test.YtopmfjjiakmleaaA5
import Derived.Test.YtopmfjjiakmleaaRows
import Derived.WalkKit
import Derived.ProofKit
import Derived.OpenShut
import Derived.ChangeOld
import Derived.Below
import Derived.Lib.SmallJoins
namespace Go.Proofs.Ytopmfjjiakmleaa
open Go.RowKit
set_option linter.unusedVariables false
attribute [local go_sem] Later.cell Later.frozen

set_option maxHeartbeats 4000000 in
set_option maxRecDepth 100000 in
theorem walk_whole0 (a x more : Int) (ha : W128 a) (w : World) : Calls Try.prog 7 #[.agg #[.int .u64 (hiw a), .int .u64 (low a)], .int .u64 x, .int .u64 0, .int .u64 more] w fun e w' => e = .returned (.bool true) ∧ Below w.heap.size w w' := by
  go_enter Try.func7, Try.ntmps7
  go_wp2_with fail
  refine (div_0 a ha _).mono ?_
  rintro e w1 ⟨rfl, hw1⟩
  have A : At2 w1 w.heap.size (.int .u64 (hiw a)) (.int .u64 (low a)) := At2.below (by constructor <;> simp [go_sem]) hw1 (by simp <;> omega)
  have hb : Below w.heap.size w w1 := Below.call (by go_grown) (by simp <;> omega) hw1
  clear hw1
  obtain ⟨zA0, zA1, zA2, zA3, zA4⟩ := id A
  go_wp2_with fail
  refine (broad_any _).mono ?_
  rintro e w2 ⟨rfl, hw2⟩
  replace A := (A.alloc _).below hw2 (by have := A.lt; simp <;> omega)
  have Q : At2 w2 w1.heap.size (.int .u64 0) (.int .u64 0) := At2.after_fresh' hw2
  replace hb := Below.call (show Below w.heap.size w _ by go_grown) (by have := hb.size; simp <;> omega) hw2
  clear hw2 zA0 zA1 zA2 zA3 zA4
  obtain ⟨zA0, zA1, zA2, zA3, zA4⟩ := id A
  obtain ⟨zQ0, zQ1, zQ2, zQ3, zQ4⟩ := id Q
  go_wp2
  go_ret
  exact ⟨rfl, hb⟩
theorem add_hl (a h l : Int) (ha : W128 a) (h0 : 0 ≤ h) (h1 : h ≤ 18446744073709551615) (l0 : 0 ≤ l) (l1 : l ≤ 18446744073709551615) (w : World) :
    Calls Try.prog 9 #[.agg #[.int .u64 (hiw a), .int .u64 (low a)], .agg #[.int .u64 h, .int .u64 l]] w fun e w' => e = .returned (.tuple #[.agg #[.int .u64 (hiw (addv a (vv h l))), .int .u64 (low (addv a (vv h l)))], .int .u64 (addc a (vv h l))]) ∧ Below w.heap.size w w' := by
  have := add_any a (vv h l) ha (vv_W h0 h1 l0 l1) w
  rwa [hiw_vv l0 l1, low_vv l0 l1] at this
set_option maxHeartbeats 4000000 in
set_option maxRecDepth 100000 in
theorem walk_whole1 (a x y more m : Int) (ha : W128 a) (hx0 : 0 ≤ x) (hx1 : x ≤ 18446744073709551615) (hpos : 0 < y) (hy1 : y ≤ 18446744073709551615) (hm0 : 0 ≤ more) (hm1 : more ≤ 18446744073709551615) (hm : more % y = m) (w : World) : Calls Try.prog 7 #[.agg #[.int .u64 (hiw a), .int .u64 (low a)], .int .u64 x, .int .u64 y, .int .u64 more] w fun e w' => e = .returned (.bool true) ∧ Below w.heap.size w w' := by
  have m0 : 0 ≤ m := by rw [← hm]; exact Int.emod_nonneg _ (by omega)
  have m1 : m < y := by rw [← hm]; exact Int.emod_lt_of_pos _ hpos
  obtain ⟨g1, g2, g3, g4, g5⟩ := prod_add hx0 hx1 hpos hy1 m0 m1
  have G1 : Hid (addv (x * y) m = x * y + m) := g1
  have G2 : Hid (addc (x * y) m = 0) := g2
  have hWp : W128 (x * y + m) := g3
  have G4 : Hid ((x * y + m) / y = x) := g4
  have G5 : Hid ((x * y + m) % y = m) := g5
  obtain ⟨n1, n2⟩ := hiw_word hx0 hx1
  have N1 : Hid (hiw x = 0) := n1
  have N2 : Hid (low x = x) := n2
  obtain ⟨k1, k2⟩ := hiw_word m0 (show m ≤ 18446744073709551615 by omega)
  have K1 : Hid (hiw m = 0) := k1
  have K2 : Hid (low m = m) := k2
  clear g1 g2 g3 g4 g5 n1 n2 k1 k2
  have hyz : (y == 0) = false := by simp; omega
  have hyn : ¬ y = 0 := by omega
  have hmt : more.tmod y = m := by rw [Int.tmod_eq_emod_of_nonneg hm0]; exact hm
  have rm0 := Int.emod_nonneg a (show y ≠ 0 by omega)
  have rm1 := Int.emod_lt_of_pos a hpos
  go_enter Try.func7, Try.ntmps7
  go_wp2_with fail
  refine (div_any a y ha hpos hy1 _).mono ?_
  rintro e w1 ⟨rfl, hw1⟩
  have A : At2 w1 w.heap.size (.int .u64 (hiw a)) (.int .u64 (low a)) := At2.below (by constructor <;> simp [go_sem]) hw1 (by simp <;> omega)
  have hb : Below w.heap.size w w1 := Below.call (by go_grown) (by simp <;> omega) hw1
  clear hw1
  obtain ⟨zA0, zA1, zA2, zA3, zA4⟩ := id A
  go_upto_region 4 with fail
  refine wp_forget (fun W => At2 W w1.heap.size (.int .u64 (hiw (a / y))) (.int .u64 (low (a / y))) ∧ Below w.heap.size w W) ⟨At2.fresh _ _ _ _, by have := hb.size; go_grown⟩ ?_
  rintro wr ⟨Q, hbw⟩
  clear A hb zA0 zA1 zA2 zA3 zA4
  go_cut [12, 13] (fun v12 v13 wc => ∃ b12 : Nat, v12 = .pointer (some ⟨b12, 0, none⟩) ∧ v13 = .int .u64 0 ∧ At2 wc b12 (.int .u64 (hiw (x * y + m))) (.int .u64 (low (x * y + m))) ∧ At2 wc w1.heap.size (.int .u64 (hiw (a / y))) (.int .u64 (low (a / y))) ∧ Below w.heap.size w wc)
  case first =>
    go_wp2_with fail
    go_region_held3 (fun w' => True ∧ True)
      (exact ⟨trivial, trivial⟩)
      (first
        | (go_at_call 18; refine (mul_any x y hx0 hx1 (by omega) hy1 _).mono ?_; rintro e w2 ⟨rfl, hw2⟩; have g2 : Below wr.heap.size wr w2 := Below.call (by go_grown) (by simp) hw2; have l2 := g2.size; try (have P := At2.after_fresh hw2; obtain ⟨p0, p1, p2, p3, p4⟩ := id P))
        | (go_at_call 9; refine (add_hl (x * y) 0 m (mul_lt hx0 hx1 (by omega) hy1) (by omega) (by omega) m0 (by omega) _).mono ?_; rintro e w3 ⟨rfl, hw3⟩; have g3 : Below wr.heap.size wr w3 := Below.call (by go_grown) (by have := g2.size; simp <;> omega) hw3; first | (have P2 := P.below hw3 P.lt; obtain ⟨s0, s1, s2, s3, s4⟩ := id P2) | (have P2 := At2.after_fresh' hw3; obtain ⟨s0, s1, s2, s3, s4⟩ := id P2) | skip))
    all_goals
      have eV : vv 0 m = m := by unfold vv; omega
      go_wp2_with fail
      go_meet
      case rel =>
        have hbw3 : Below w.heap.size w w3 := hbw.trans (g3.mono hbw.size)
        have Q3 := Q.below g3 Q.lt
        have lt := Q3.lt
        have ltq := Q.lt
        have lw := hbw.size
        have l3 := hbw3.size
        rw [eV, G1.out, G2.out]
        first
          | exact ⟨w3.heap.size, rfl, rfl, At2.fresh _ _ _ _, Q3.alloc _, by go_grown⟩
          | exact ⟨_, rfl, rfl, P2.put _ _, Q3.others (by omega) _ _, by go_grown⟩
  case rest =>
    obtain ⟨b12, rfl, rfl, P, Q', hbc⟩ := hcut
    clear Q hbw
    obtain ⟨p0, p1, p2, p3, p4⟩ := id P
    go_wp2_with fail
    refine (div_any (x * y + m) y hWp hpos hy1 _).mono ?_
    rintro e w5 ⟨rfl, hw5⟩
    rw [G4.out, G5.out, N1.out, N2.out]
    replace Q' := Q'.below hw5 Q'.lt
    replace hbc := Below.call hbc hbc.size hw5
    clear hw5 p0 p1 p2 p3 p4 P
    go_wp2_with fail
    refine (broad_any _).mono ?_
    rintro e w6 ⟨rfl, hw6⟩
    have S := At2.after_fresh' hw6
    have l5 := hbc.size
    have hb6 : Below w.heap.size w w6 := Below.call (show Below w.heap.size w _ by go_grown) (by have := hbc.size; simp <;> omega) hw6
    clear hw6
    obtain ⟨s0, s1, s2, s3, s4⟩ := id S
    go_wp2
    go_ret
    exact ⟨rfl, hb6⟩
theorem walk_whole (a x y more : Int) (ha : W128 a) (hx0 : 0 ≤ x) (hx1 : x ≤ 18446744073709551615) (hy0 : 0 ≤ y) (hy1 : y ≤ 18446744073709551615) (hm0 : 0 ≤ more) (hm1 : more ≤ 18446744073709551615) (w : World) : Calls Try.prog 7 #[.agg #[.int .u64 (hiw a), .int .u64 (low a)], .int .u64 x, .int .u64 y, .int .u64 more] w fun e w' => e = .returned (.bool true) ∧ Below w.heap.size w w' := by
  by_cases h : y = 0
  · subst h; exact walk_whole0 a x more ha w
  · exact walk_whole1 a x y more _ ha hx0 hx1 (by omega) hy1 hm0 hm1 rfl w
end Go.Proofs.Ytopmfjjiakmleaa
namespace Go.Proofs.Ytopmfjjiakmleaa.wideWhole
open Go.ChangeShapes Go.WideShapes Go.ChangeAt Go.RowKit Go.Joins
set_option linter.unusedVariables false

theorem own : ownKnob Try.prog.godebug = none := by kernel_rfl
theorem laidOut : laidOutB Try.prog = true := by kernel_rfl
theorem cells24 : Try.prog.cellsOf 24 = 2 := by kernel_rfl
theorem word_of {x : Int} (h : (Lit.int .u64 x).wf = true) : 0 ≤ x ∧ x ≤ 18446744073709551615 := by
  simp [Lit.wf, IntKind.min, IntKind.max, IntKind.signed, IntKind.bits] at h
  exact ⟨by omega, by omega⟩
theorem int_of {x : Int} (h : (Lit.int .i64 x).wf = true) : -9223372036854775808 ≤ x ∧ x ≤ 9223372036854775807 := by
  simp [Lit.wf, IntKind.min, IntKind.max, IntKind.signed, IntKind.bits] at h
  exact ⟨by omega, by omega⟩

set_option maxRecDepth 100000 in
theorem lifted (os : Os) (started : os.Started) (H : Type) (enc : TypeId × Value → H) :
    ReturnsInHanded {} Try.checked os 7 .any (Rows.wideWholeSpec.pre6 enc Try.prog Try.f7 Rows.wideWholeRow.domain false) (Rows.wideWholeSpec.post enc Try.prog Try.f7 false true false false) := by
  refine returnsInHanded_of_change (C := Try.checked) own started (by kernel_rfl) Try.func7
    (ChangeSpec.witness6 (enc := enc) (C := Try.checked) false ⟨#[], #[.agg #[.int .u64 0, .int .u64 0], .int .u64 0, .int .u64 0, .int .u64 0], []⟩ 8 (by kernel_rfl) (by kernel_rfl) (by kernel_rfl) (by kernel_rfl)) ?_
  intro W base args ds gs before hval0 hW hcnd _
  have hval : ∀ (j : Nat) t v, Try.f7.params[j]? = some t → args[j]? = some v → Value.okWide Try.prog W .any base t v := hval0
  have hW' := hW
  obtain ⟨p, q, hA0, hV, rfl, hfz, hnd⟩ := hW
  have hA : DataW.TrodAll enc Try.prog W 0 (fun _ => true) true Try.f7.params.toList args.toList ds p := hA0
  rw [Try.params7] at hA hval
  obtain ⟨v0, vs0, d0, ds0, p0, q0, hargs, rfl, rfl, h0, r0⟩ := trodAll_cons hA
  obtain ⟨v1, vs1, d1, ds1, p1, q1, rfl, rfl, rfl, h1, r1⟩ := trodAll_cons r0
  obtain ⟨v2, vs2, d2, ds2, p2, q2, rfl, rfl, rfl, h2, r2⟩ := trodAll_cons r1
  obtain ⟨v3, vs3, d3, ds3, p3, q3, rfl, rfl, rfl, h3, r3⟩ := trodAll_cons r2
  obtain ⟨rfl, rfl, rfl⟩ := trodAll_nil r3
  obtain rfl : args = #[v0, v1, v2, v3] := by cases args; simp_all
  obtain ⟨rfl, rfl⟩ := trodVars_none hV
  have k0 := h0
  have lt0 : ∀ x ∈ p0, x.block < W.heap.size := by obtain ⟨m, hm⟩ := k0; exact DataW.trod_lt m _ _ _ hm
  obtain ⟨c0a, c0b, y0a, y0b, m0, rfl, rfl, rfl, hy0a, hy0b⟩ := open_agg2 Try.underlying24 (by kernel_rfl) cells24 (hval 0 24 v0 rfl rfl) h0
  obtain ⟨x0a, e0a, rfl, w0a⟩ := DataW.trod_int Try.underlying22 hy0a
  obtain ⟨x0b, e0b, rfl, w0b⟩ := DataW.trod_int Try.underlying22 hy0b
  simp at e0a e0b
  subst e0a e0b
  obtain ⟨a0, W0, ra0, rb0⟩ := wide_of x0a x0b (word_of w0a).1 (word_of w0a).2 (word_of w0b).1 (word_of w0b).2
  subst ra0 rb0
  obtain ⟨a1, rfl, rfl, rfl, w1⟩ := open_int Try.underlying22 (hval 1 22 v1 rfl rfl) h1
  obtain ⟨a2, rfl, rfl, rfl, w2⟩ := open_int Try.underlying22 (hval 2 22 v2 rfl rfl) h2
  obtain ⟨a3, rfl, rfl, rfl, w3⟩ := open_int Try.underlying22 (hval 3 22 v3 rfl rfl) h3
  clear hA0 hval0
  refine (walk_whole a0 a1 a2 a3 W0 (word_of w1).1 (word_of w1).2 (word_of w2).1 (word_of w2).2 (word_of w3).1 (word_of w3).2 W).mono fun e W' ⟨he, bel⟩ => ?_
  subst he
  exact ⟨_, rfl, _, _, _, [], _, [], hW', trodAll_mk1 (shut_bool Try.underlying4 _), (trodAll_cons_mk (Below.trod laidOut (by kernel_rfl) (of_decide_eq_true (by kernel_rfl)) k0 bel lt0) (trodAll_cons_mk (shut_int Try.underlying22 w1) (trodAll_cons_mk (shut_int Try.underlying22 w2) (trodAll_cons_mk (shut_int Try.underlying22 w3) trodAll_mk0)))), rfl, bel.frame _, fun h => by cases h⟩

theorem over : Rows.wideWholeRow.holds Try.pinned (OpenSpec.ofChange Rows.wideWholeSpec) :=
  OpenClaim.holds_of_wide 7 Try.f7 rfl rfl rfl rfl rfl rfl rfl ⟨rfl, rfl, rfl, rfl, rfl⟩ rfl rfl rfl rfl rfl (by kernel_rfl) Try.func7 (by kernel_rfl)
    (of_decide_eq_true (by kernel_rfl)) (by unfold Func.isWrapper; first | (rw [if_pos (by decide +kernel)]; kernel_rfl) | (rw [if_neg (by decide +kernel)]; exact ⟨rfl, rfl⟩))
    (fun os started H enc _ => lifted os started H enc)
theorem proved : Rows.WideWholeSaid := over
#print axioms proved
end Go.Proofs.Ytopmfjjiakmleaa.wideWhole
