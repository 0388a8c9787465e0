/-
  DrawTapes: for any numbers a tape's draws are its numbers, without what is too great, and then 0. No conditions.
-/
import Derived.Test.YtfpchofihofojaaQ12
import Derived.Test.YtfpchofihofojaaOS
import Derived.Test.YtfpchofihofojaaRows
import Derived.WalkKit
import Derived.ProofKit
import Derived.OpenShut
import Derived.ChangeOld
import Derived.Below
import Derived.Lib.SmallJoins
namespace Go.Proofs.Ytfpchofihofojaa
open Go.RowKit
set_option linter.unusedVariables false
theorem Row.clip {k : IntKind} {w : World} {ao : Option Addr} {n c : Nat} {zs : List Int} (h : Row k w ao n c zs) : Row k w ao n n zs :=
  ⟨h.len, Nat.le_refl _, Nat.le_trans h.cap h.max, fun e => by have := h.nil e; have := h.cap; omega, h.wf, h.at'⟩
theorem Row.drewN {k : IntKind} {w : World} {ao : Option Addr} {n c : Nat} {zs : List Int} (h : Row k w ao n c zs) (m : Nat) : Row k (w.drewN m) ao n c zs := h.below (Below.drewN (Below.refl _ _) m)
theorem many_tape (ao : Option Addr) (n : Nat) (zs : List Int) (m : Int) (M : Nat) (hM : (M : Int) = n + m) (hn : n ≤ 900) (m0 : 0 ≤ m) (m1 : m ≤ 50) (w : World) (hz : Row .u64 w ao n n zs) :
    Calls Try.prog 17 #[.agg #[.int .i64 2, .int .u64 0, .int .u64 0, .slice ao n n, .int .i64 0], .int .i64 (n + m)] w fun e w' => ∃ bo d s' D, e = .returned (.tuple #[.slice bo M d, .agg #[.int .i64 2, .int .u64 s', .int .u64 0, .slice ao n n, .int .i64 n]]) ∧
      Row .i64 w' bo M d D ∧ Hid (∀ j, j < M → D.getD j 0 = if j < n then zs.getD j 0 % 4294967296 else 0) ∧ Below w.heap.size w w' := by
  refine (many_any 2 0 0 0 (n + m) ao n n zs (by omega) (by omega) (by omega) (by omega) w hz).mono ?_
  rintro e w' ⟨bo, d, rfl, R, hb⟩
  have eM : manyN (n + m) = M := by unfold manyN; omega
  have hl := hz.len
  have ep : pN 2 0 zs M = n := by rw [pN_tape]; split <;> omega
  rw [eM] at R ⊢
  rw [ep]
  exact ⟨bo, d, _, _, rfl, R, fun j hj => by rw [dN_tape hj, hl], hb⟩
set_option maxHeartbeats 4000000 in
set_option maxRecDepth 100000 in
theorem walk_tapes (ao : Option Addr) (n c : Nat) (zs : List Int) (m : Int) (m0 : -9223372036854775808 ≤ m) (m1 : m ≤ 9223372036854775807) (w : World) (hz : Row .u64 w ao n c zs) :
    Calls Try.prog 6 #[.slice ao n c, .int .i64 m] w fun e w' => e = .returned (.bool true) ∧ Below w.heap.size w w' := by
  by_cases hb : 900 < n
  · go_enter Try.func6, Try.ntmps6
    go_wp2
    go_ret
    exact ⟨rfl, by go_grown⟩
  by_cases h0 : m < 0
  · go_enter Try.func6, Try.ntmps6
    go_wp2
    go_ret
    exact ⟨rfl, by go_grown⟩
  by_cases h1 : 50 < m
  · go_enter Try.func6, Try.ntmps6
    go_wp2
    go_ret
    exact ⟨rfl, by go_grown⟩
  obtain ⟨M, hM⟩ : ∃ M : Nat, (M : Int) = n + m := ⟨(n + m).toNat, by omega⟩
  have C := fun w hz => many_tape ao n zs m M hM (by omega) (by omega) (by omega) w hz
  have T := fun w => tape_any ao n c zs w
  have HM : Hid ((M : Int) = n + m) := hM
  have hn : n ≤ 900 := by omega
  have hM9 : M ≤ 950 := by omega
  have eM : (n : Int) + m = M := hM.symm
  clear hM
  go_enter Try.func6, Try.ntmps6
  go_wp2_with fail
  refine (T _ hz).mono ?_
  rintro e w1 ⟨rfl, hw1⟩
  have R := hz.below hw1
  clear T hz
  rw [eM] at C
  go_wp2_with fail
  refine (C _ R.clip).mono ?_
  rintro e w2 ⟨bo, d, s', D, rfl, RD, HD, hw2⟩
  have g2 := Below.call hw1 hw1.size hw2
  have R2 := R.below hw2
  clear hw1 hw2 R C
  go_wp2
  go_loopw [7] (fun i' wr => ∃ j : Nat, j ≤ M ∧ i' = .int .i64 j ∧ Row .i64 wr bo M d D ∧ Row .u64 wr ao n c zs ∧ Below w.heap.size w wr) (fun i' _ => M - (intOf i').toNat)
  case atStart => exact ⟨0, Nat.zero_le _, rfl, RD.alloc _, R2.alloc _, by have := g2.size; go_grown⟩
  case round =>
    obtain ⟨j, hj, rfl, RD', RZ', hbw⟩ := hrel
    clear RD R2 g2
    by_cases hlt : j < M
    · obtain ⟨b1, o1, rfl, hc1⟩ := RD'.at' (by omega)
      have l1 := hc1 j hlt
      have hy := HD.out j hlt
      clear hc1
      by_cases hjn : j < n
      · rw [if_pos hjn] at hy
        obtain ⟨b2, o2, rfl, hc2⟩ := RZ'.at' (by omega)
        have l2 := hc2 j hjn
        have hu := RZ'.u64 j
        clear hc2
        rw [hy] at l1
        clear hy
        generalize zs.getD j 0 = z at *
        obtain ⟨u0, u1⟩ := hu
        have e4 : IntKind.i64.wrap (z % 4294967296) = z % 4294967296 := by rw [IntKind.wrap_i64]; omega
        have hd1 : decide ((n : Int) ≤ j) = false := by simp; omega
        have hd3 : decide (n ≤ j) = false := by simp; omega
        have hd4 : ¬ n ≤ j := by omega
        have e5 : z.tmod 4294967296 = z % 4294967296 := Int.tmod_eq_emod_of_nonneg u0
        go_wp2
        go_quiet (fail)
        all_goals go_wp2
        exact ⟨⟨j + 1, by omega, by go_num, RD'.drewN _, RZ'.drewN _, Below.drewN hbw _⟩, by simp [intOf]; omega⟩
      · rw [if_neg hjn] at hy
        rw [hy] at l1
        clear hy
        have hd1 : decide ((j : Int) < n) = false := by simp; omega
        have hd2 : (n : Int) ≤ j := by omega
        go_wp2
        go_quiet (fail)
        all_goals go_wp2
        exact ⟨⟨j + 1, by omega, by go_num, RD'.drewN _, RZ'.drewN _, Below.drewN hbw _⟩, by simp [intOf]; omega⟩
    · go_wp2_with fail
      refine (drawn_any _).mono ?_
      rintro e w5 ⟨rfl, hw5⟩
      have g5 := Below.call hbw hbw.size hw5
      go_wp2
      go_ret
      exact ⟨rfl, g5⟩
end Go.Proofs.Ytfpchofihofojaa
namespace Go.Proofs.Ytfpchofihofojaa.drawTapes
open Go.ChangeShapes Go.WideShapes Go.ChangeAt Go.RowKit Go.Joins
set_option linter.unusedVariables false

theorem own : ownKnob Try.prog.godebug = none := by kernel_rfl
theorem laidOut : laidOutB Try.prog = true := by kernel_rfl
theorem word_of {x : Int} (h : (Lit.int .u64 x).wf = true) : 0 ≤ x ∧ x ≤ 18446744073709551615 := by
  simp [Lit.wf, IntKind.min, IntKind.max, IntKind.signed, IntKind.bits] at h
  exact ⟨by omega, by omega⟩
theorem int_of {x : Int} (h : (Lit.int .i64 x).wf = true) : -9223372036854775808 ≤ x ∧ x ≤ 9223372036854775807 := by
  simp [Lit.wf, IntKind.min, IntKind.max, IntKind.signed, IntKind.bits] at h
  exact ⟨by omega, by omega⟩

set_option maxRecDepth 100000 in
theorem lifted (os : Os) (started : os.Started) (H : Type) (enc : TypeId × Value → H) :
    ReturnsInHanded {} Try.checked os 6 .any (Rows.drawTapesSpec.pre6 enc Try.prog Try.f6 Rows.drawTapesRow.domain false) (Rows.drawTapesSpec.post enc Try.prog Try.f6 false true false false) := by
  refine returnsInHanded_of_change (C := Try.checked) own started (by kernel_rfl) Try.func6
    (ChangeSpec.witness6 (enc := enc) (C := Try.checked) false ⟨#[], #[.slice none 0 0, .int .i64 0], []⟩ 8 (by kernel_rfl) (by kernel_rfl) (by kernel_rfl) (by kernel_rfl)) ?_
  intro W base args ds gs before hval0 hW hcnd _
  have hval : ∀ (j : Nat) t v, Try.f6.params[j]? = some t → args[j]? = some v → Value.okWide Try.prog W .any base t v := hval0
  have hW' := hW
  obtain ⟨p, q, hA0, hV, rfl, hfz, hnd⟩ := hW
  have hA : DataW.TrodAll enc Try.prog W 0 (fun _ => true) true Try.f6.params.toList args.toList ds p := hA0
  rw [Try.params6] at hA hval
  obtain ⟨v0, vs0, d0, ds0, p0, q0, hargs, rfl, rfl, h0, r0⟩ := trodAll_cons hA
  obtain ⟨v1, vs1, d1, ds1, p1, q1, rfl, rfl, rfl, h1, r1⟩ := trodAll_cons r0
  obtain ⟨rfl, rfl, rfl⟩ := trodAll_nil r1
  obtain rfl : args = #[v0, v1] := by cases args; simp_all
  obtain ⟨rfl, rfl⟩ := trodVars_none hV
  have k0 := h0
  have lt0 : ∀ x ∈ p0, x.block < W.heap.size := by obtain ⟨m, hm⟩ := k0; exact DataW.trod_lt m _ _ _ hm
  obtain ⟨ao_0, n_0, c_0, zs_0, rfl, hz0⟩ := open_row64 (hval 0 23 v0 rfl rfl) h0
  obtain ⟨a1, rfl, rfl, rfl, w1⟩ := open_int Try.underlying3 (hval 1 3 v1 rfl rfl) h1
  clear hA0 hval0
  refine (walk_tapes ao_0 n_0 c_0 zs_0 a1 (int_of w1).1 (int_of w1).2 W hz0).mono fun e W' ⟨he, bel⟩ => ?_
  subst he
  exact ⟨_, rfl, _, _, _, [], _, [], hW', trodAll_mk1 (shut_bool Try.underlying4 _), (trodAll_cons_mk (Below.trod laidOut (by kernel_rfl) (of_decide_eq_true (by kernel_rfl)) k0 bel lt0) (trodAll_cons_mk (shut_int Try.underlying3 w1) trodAll_mk0)), rfl, bel.frame _, fun h => by cases h⟩

theorem over : Rows.drawTapesRow.holds Try.pinned (OpenSpec.ofChange Rows.drawTapesSpec) :=
  OpenClaim.holds_of_wide 6 Try.f6 rfl rfl rfl rfl rfl rfl rfl ⟨rfl, rfl, rfl, rfl, rfl⟩ rfl rfl rfl rfl rfl (by kernel_rfl) Try.func6 (by kernel_rfl)
    (of_decide_eq_true (by kernel_rfl)) (by unfold Func.isWrapper; first | (rw [if_pos (by decide +kernel)]; kernel_rfl) | (rw [if_neg (by decide +kernel)]; exact ⟨rfl, rfl⟩))
    (fun os started H enc _ => lifted os started H enc)
theorem proved : Rows.DrawTapesSaid := over
#print axioms proved
end Go.Proofs.Ytfpchofihofojaa.drawTapes
