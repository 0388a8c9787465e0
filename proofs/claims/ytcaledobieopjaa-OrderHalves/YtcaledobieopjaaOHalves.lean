/-
  OrderHalves: for any source, half of its trials go up, and one of its pair; a tape's first number tells which. No conditions.
-/
import Derived.Test.YtcaledobieopjaaO10
import Derived.Test.YtcaledobieopjaaOS
import Derived.Test.YtcaledobieopjaaRows
import Derived.WalkKit
import Derived.ProofKit
import Derived.OpenShut
import Derived.ChangeOld
import Derived.Below
import Derived.Lib.SmallJoins
namespace Go.Proofs.Ytcaledobieopjaa
open Go.RowKit
set_option linter.unusedVariables false
set_option maxHeartbeats 4000000 in
set_option maxRecDepth 100000 in
theorem walk_halves (k s i p : Int) (ao : Option Addr) (n c : Nat) (zs : List Int) (h0 : 0 ≤ s) (h1 : s ≤ 18446744073709551615) (i0 : 0 ≤ i) (i1 : i ≤ 18446744073709551615) (k0 : -9223372036854775808 ≤ k) (k1 : k ≤ 9223372036854775807) (p0 : -9223372036854775808 ≤ p) (p1 : p ≤ 9223372036854775807) (w : World) (hz : Row .u64 w ao n c zs) :
    Calls Try.prog 5 #[.agg #[.int .i64 k, .int .u64 s, .int .u64 i, .slice ao n c, .int .i64 p]] w fun e w' => e = .returned (.bool true) ∧ Below w.heap.size w w' := by
  by_cases e5 : (2000 : Int) < n
  · have hbig : decide ((2000 : Int) < n) = true := by simpa using e5
    have G := fun w => big_any k s i p ao n c w
    rw [hbig] at G
    go_enter Try.func5, Try.ntmps5
    go_wp2_with fail
    refine (G _).mono ?_
    rintro e w1 ⟨rfl, hw1⟩
    have g1 : Below w.heap.size w w1 := Below.call (by go_grown) (by simp) hw1
    go_wp2
    go_ret
    exact ⟨rfl, g1⟩
  have hbig : decide ((2000 : Int) < n) = false := by simpa using e5
  have G := fun w => big_any k s i p ao n c w
  rw [hbig] at G
  clear hbig e5
  have A := fun w hz => trials_any k s i p ao n c zs h0 h1 i0 i1 w hz
  have B := fun w hz => pair_any k s i p ao n c zs h0 h1 i0 i1 w hz
  have C := fun w hz => next_any k s i p ao n c zs h0 h1 i0 i1 w hz
  obtain ⟨d0, d1⟩ := drawv_bd (k := k) (p := p) zs h0 h1
  have q0 : 0 ≤ drawv k s p zs % 6 := Int.emod_nonneg _ (by omega)
  have q1 : drawv k s p zs % 6 ≤ 5 := by have := Int.emod_lt_of_pos (drawv k s p zs) (show (0:Int) < 6 by omega); omega
  have D := fun w => rank_any (up0 (drawv k s p zs % 6)) (up1 (drawv k s p zs % 6)) (up2 (drawv k s p zs % 6)) (up3 (drawv k s p zs % 6)) w
  obtain ⟨r1, r2⟩ := rank_up q0 q1
  rw [r1, r2] at D
  clear r1 r2
  have et : (drawv k s p zs).tmod 6 = drawv k s p zs % 6 := Int.tmod_eq_emod_of_nonneg d0
  generalize drawv k s p zs % 6 = q at *
  generalize drawv k s p zs = x at *
  generalize statev k s i = s' at *
  generalize atv k p zs = p' at *
  generalize up0 q = b0 at *
  generalize up1 q = b1 at *
  generalize up2 q = b2 at *
  generalize up3 q = b3 at *
  have HB : Hid (decide (2147483648 ≤ x) = true ∨ decide (2147483648 ≤ x) = false) := by show _ ∨ _; cases decide (2147483648 ≤ x) <;> simp
  have hn6 : ¬ (6 : Int) = 0 := by omega
  go_enter Try.func5, Try.ntmps5
  go_wp2_with fail
  refine (G _).mono ?_
  rintro e w1 ⟨rfl, hw1⟩
  have g1 : Below w.heap.size w w1 := Below.call (by go_grown) (by simp) hw1
  have S : At5 w1 w.heap.size (.int .i64 k) (.int .u64 s) (.int .u64 i) (.slice ao n c) (.int .i64 p) := At5.of hw1 (by constructor <;> simp [go_sem])
  have R := hz.below (Below.call (by go_grown) (by simp) hw1 : Below w.heap.size w w1)
  clear hw1 G hz
  obtain ⟨s0, s1, s2, s3, s4, sa, sb, sc, sd, se, sl⟩ := id S
  go_wp2_with fail
  refine (A _ R).mono ?_
  rintro e w2 ⟨rfl, hw2⟩
  have g2 := Below.call g1 g1.size hw2
  have S' := At5.of hw2 S
  have R' := R.below hw2
  clear A hw2 S R g1 s0 s1 s2 s3 s4 sa sb sc sd se sl
  obtain ⟨s0, s1, s2, s3, s4, sa, sb, sc, sd, se, sl⟩ := id S'
  go_wp2_with fail
  refine (D _).mono ?_
  rintro e w3 ⟨rfl, hw3⟩
  have G2 := g2.size
  have g3 : Below w.heap.size w w3 := Below.call (by go_grown) (by simp; omega) hw3
  have S := At5.of hw3 ((S'.alloc _).alloc _)
  have R := ((R'.below ((Below.refl _ _).alloc (Nat.le_refl _) _)).below ((Below.refl _ _).alloc (Nat.le_refl _) _)).below hw3
  clear D hw3 S' R' g2 G2 s0 s1 s2 s3 s4 sa sb sc sd se sl
  generalize w2.heap.size = x2 at *
  obtain ⟨s0, s1, s2, s3, s4, sa, sb, sc, sd, se, sl⟩ := id S
  go_wp2_with fail
  refine (B _ R).mono ?_
  rintro e w4 ⟨rfl, hw4⟩
  have g4 := Below.call g3 g3.size hw4
  have S' := At5.of hw4 S
  have R' := R.below hw4
  clear B hw4 S R g3 s0 s1 s2 s3 s4 sa sb sc sd se sl
  obtain ⟨s0, s1, s2, s3, s4, sa, sb, sc, sd, se, sl⟩ := id S'
  go_wp2_with fail
  refine (C _ ((R'.below ((Below.refl _ _).alloc (Nat.le_refl _) _)).below ((Below.refl _ _).alloc (Nat.le_refl _) _))).mono ?_
  rintro e w5 ⟨rfl, hw5⟩
  have G4 := g4.size
  have g5 : Below w.heap.size w w5 := Below.call (by go_grown) (by simp; omega) hw5
  have Y : At2 w5 w4.heap.size (.bool (decide (2147483648 ≤ x))) (.bool (!decide (2147483648 ≤ x))) := At2.of hw5 ((At2.fresh _ _ _ _).alloc _)
  clear C hw5 S' R' g4 G4 s0 s1 s2 s3 s4 sa sb sc sd se sl
  generalize w4.heap.size = x4 at *
  go_wp2_with fail
  refine (ordered_any _).mono ?_
  rintro e w6 ⟨rfl, hw6⟩
  have G5 := g5.size
  have g6 : Below w.heap.size w w6 := Below.call (by go_grown) (by simp; omega) hw6
  have Y' := At2.of hw6 (Y.alloc _)
  clear hw6 Y g5 G5
  rcases HB.out with hb | hb
  all_goals
    rw [hb] at Y'
    obtain ⟨y0, y1, ya, yb, yl⟩ := id Y'
    go_wp2
    go_ret
    exact ⟨rfl, g6⟩
end Go.Proofs.Ytcaledobieopjaa
namespace Go.Proofs.Ytcaledobieopjaa.orderHalves
open Go.ChangeShapes Go.WideShapes Go.ChangeAt Go.RowKit Go.Joins
set_option linter.unusedVariables false

theorem own : ownKnob Try.prog.godebug = none := by kernel_rfl
theorem laidOut : laidOutB Try.prog = true := by kernel_rfl
theorem word_of {x : Int} (h : (Lit.int .u64 x).wf = true) : 0 ≤ x ∧ x ≤ 18446744073709551615 := by
  simp [Lit.wf, IntKind.min, IntKind.max, IntKind.signed, IntKind.bits] at h
  exact ⟨by omega, by omega⟩
theorem int_of {x : Int} (h : (Lit.int .i64 x).wf = true) : -9223372036854775808 ≤ x ∧ x ≤ 9223372036854775807 := by
  simp [Lit.wf, IntKind.min, IntKind.max, IntKind.signed, IntKind.bits] at h
  exact ⟨by omega, by omega⟩

set_option maxRecDepth 100000 in
theorem lifted (os : Os) (started : os.Started) (H : Type) (enc : TypeId × Value → H) :
    ReturnsInHanded {} Try.checked os 5 .any (Rows.orderHalvesSpec.pre6 enc Try.prog Try.f5 Rows.orderHalvesRow.domain false) (Rows.orderHalvesSpec.post enc Try.prog Try.f5 false true false false) := by
  refine returnsInHanded_of_change (C := Try.checked) own started (by kernel_rfl) Try.func5
    (ChangeSpec.witness6 (enc := enc) (C := Try.checked) false ⟨#[], #[.agg #[.int .i64 0, .int .u64 0, .int .u64 0, .slice none 0 0, .int .i64 0]], []⟩ 8 (by kernel_rfl) (by kernel_rfl) (by kernel_rfl) (by kernel_rfl)) ?_
  intro W base args ds gs before hval0 hW hcnd _
  have hval : ∀ (j : Nat) t v, Try.f5.params[j]? = some t → args[j]? = some v → Value.okWide Try.prog W .any base t v := hval0
  have hW' := hW
  obtain ⟨p, q, hA0, hV, rfl, hfz, hnd⟩ := hW
  have hA : DataW.TrodAll enc Try.prog W 0 (fun _ => true) true Try.f5.params.toList args.toList ds p := hA0
  rw [Try.params5] at hA hval
  obtain ⟨v0, vs0, d0, ds0, p0, q0, hargs, rfl, rfl, h0, r0⟩ := trodAll_cons hA
  obtain ⟨rfl, rfl, rfl⟩ := trodAll_nil r0
  obtain rfl : args = #[v0] := by cases args; simp_all
  obtain ⟨rfl, rfl⟩ := trodVars_none hV
  have k0 := h0
  have lt0 : ∀ x ∈ p0, x.block < W.heap.size := by obtain ⟨m, hm⟩ := k0; exact DataW.trod_lt m _ _ _ hm
  obtain ⟨k_0, s_0, i_0, q_0, ao_0, n_0, c_0, zs_0, rfl, bs0, bi0, bk0, bq0, hz0⟩ := open_source (hval 0 26 v0 rfl rfl) h0
  clear hA0 hval0
  refine (walk_halves k_0 s_0 i_0 q_0 ao_0 n_0 c_0 zs_0 bs0.1 bs0.2 bi0.1 bi0.2 bk0.1 bk0.2 bq0.1 bq0.2 W hz0).mono fun e W' ⟨he, bel⟩ => ?_
  subst he
  exact ⟨_, rfl, _, _, _, [], _, [], hW', trodAll_mk1 (shut_bool Try.underlying4 _), (trodAll_cons_mk (Below.trod laidOut (by kernel_rfl) (of_decide_eq_true (by kernel_rfl)) k0 bel lt0) trodAll_mk0), rfl, bel.frame _, fun h => by cases h⟩

theorem over : Rows.orderHalvesRow.holds Try.pinned (OpenSpec.ofChange Rows.orderHalvesSpec) :=
  OpenClaim.holds_of_wide 5 Try.f5 rfl rfl rfl rfl rfl rfl rfl ⟨rfl, rfl, rfl, rfl, rfl⟩ rfl rfl rfl rfl rfl (by kernel_rfl) Try.func5 (by kernel_rfl)
    (of_decide_eq_true (by kernel_rfl)) (by unfold Func.isWrapper; first | (rw [if_pos (by decide +kernel)]; kernel_rfl) | (rw [if_neg (by decide +kernel)]; exact ⟨rfl, rfl⟩))
    (fun os started H enc _ => lifted os started H enc)
theorem proved : Rows.OrderHalvesSaid := over
#print axioms proved
end Go.Proofs.Ytcaledobieopjaa.orderHalves
