/-
  CreditHolds: for any burst, time and row of steps from any step to any later one no more is taken than the rates give in it, and one burst. No conditions.
-/
import Derived.Test.YtahlphbgnhklaaaLH2
import Derived.Test.YtahlphbgnhklaaaRows
import Derived.WalkKit
import Derived.ProofKit
import Derived.OpenShut
import Derived.ChangeOld
import Derived.Below
import Derived.Lib.SmallJoins
namespace Go.Proofs.Ytahlphbgnhklaaa
open Go.RowKit
set_option linter.unusedVariables false
theorem walk_holds (b t : Int) (ao : Option Addr) (n c : Nat) (Z : Nat → St3) (b_0 : -9223372036854775808 ≤ b) (b_1 : b ≤ 9223372036854775807) (t_0 : -9223372036854775808 ≤ t) (t_1 : t ≤ 9223372036854775807) (w : World) (hz : Steps3 w ao n c Z) :
    Calls Try.prog 4 #[.int .i64 b, .int .i64 t, .slice ao n c] w fun e w' => e = .returned (.bool true) ∧ Below w.heap.size w w' := by
  have NW := fun w => new_any b t b_0 w
  by_cases hE : nwE b t = 0
  · rw [hE] at NW
    by_cases hn : 60 < n
    · exact holds_skip1 b t ao n c Z _ _ NW hn w hz
    · have hn2 : decide ((60 : Int) < n) = false := decide_eq_false (by omega)
      rcases nwE_cases b t with ⟨v1, k⟩ | ⟨v1, v2, k⟩ | ⟨v1, v2, k⟩
      · omega
      · omega
      · exact holds_main b t ao n c Z (wi_iff.1 v1).1 (wi_iff.1 v1).2 (wi_iff.1 v2).1 (wi_iff.1 v2).2 hn2 w hz
  · rw [show nwA b t = 0 by unfold nwA; rw [if_neg hE], show nwH b t = 0 by unfold nwH; rw [if_neg hE]] at NW
    by_cases hn : 60 < n
    · exact holds_skip2 b t ao n c Z _ NW hn (by simp [hE]) w hz
    · exact holds_skip3 b t ao n c Z _ NW (decide_eq_false (by omega)) (by simp [hE]) w hz
end Go.Proofs.Ytahlphbgnhklaaa
namespace Go.Proofs.Ytahlphbgnhklaaa.creditHolds
open Go.ChangeShapes Go.WideShapes Go.ChangeAt Go.RowKit Go.Joins
set_option linter.unusedVariables false

theorem own : ownKnob Try.prog.godebug = none := by kernel_rfl
theorem laidOut : laidOutB Try.prog = true := by kernel_rfl
theorem word_of {x : Int} (h : (Lit.int .u64 x).wf = true) : 0 ≤ x ∧ x ≤ 18446744073709551615 := by
  simp [Lit.wf, IntKind.min, IntKind.max, IntKind.signed, IntKind.bits] at h
  exact ⟨by omega, by omega⟩
theorem int_of {x : Int} (h : (Lit.int .i64 x).wf = true) : -9223372036854775808 ≤ x ∧ x ≤ 9223372036854775807 := by
  simp [Lit.wf, IntKind.min, IntKind.max, IntKind.signed, IntKind.bits] at h
  exact ⟨by omega, by omega⟩

set_option maxRecDepth 100000 in
theorem lifted (os : Os) (started : os.Started) (H : Type) (enc : TypeId × Value → H) :
    ReturnsInHanded {} Try.checked os 4 .any (Rows.creditHoldsSpec.pre6 enc Try.prog Try.f4 Rows.creditHoldsRow.domain false) (Rows.creditHoldsSpec.post enc Try.prog Try.f4 false true false false) := by
  refine returnsInHanded_of_change (C := Try.checked) own started (by kernel_rfl) Try.func4
    (ChangeSpec.witness6 (enc := enc) (C := Try.checked) false ⟨#[], #[.int .i64 0, .int .i64 0, .slice none 0 0], []⟩ 8 (by kernel_rfl) (by kernel_rfl) (by kernel_rfl) (by kernel_rfl)) ?_
  intro W base args ds gs before hval0 hW hcnd _
  have hval : ∀ (j : Nat) t v, Try.f4.params[j]? = some t → args[j]? = some v → Value.okWide Try.prog W .any base t v := hval0
  have hW' := hW
  obtain ⟨p, q, hA0, hV, rfl, hfz, hnd⟩ := hW
  have hA : DataW.TrodAll enc Try.prog W 0 (fun _ => true) true Try.f4.params.toList args.toList ds p := hA0
  rw [Try.params4] at hA hval
  obtain ⟨v0, vs0, d0, ds0, p0, q0, hargs, rfl, rfl, h0, r0⟩ := trodAll_cons hA
  obtain ⟨v1, vs1, d1, ds1, p1, q1, rfl, rfl, rfl, h1, r1⟩ := trodAll_cons r0
  obtain ⟨v2, vs2, d2, ds2, p2, q2, rfl, rfl, rfl, h2, r2⟩ := trodAll_cons r1
  obtain ⟨rfl, rfl, rfl⟩ := trodAll_nil r2
  obtain rfl : args = #[v0, v1, v2] := by cases args; simp_all
  obtain ⟨rfl, rfl⟩ := trodVars_none hV
  obtain ⟨a0, rfl, rfl, rfl, w0⟩ := open_int Try.underlying3 (hval 0 3 v0 rfl rfl) h0
  obtain ⟨a1, rfl, rfl, rfl, w1⟩ := open_int Try.underlying3 (hval 1 3 v1 rfl rfl) h1
  have k2 := h2
  have lt2 : ∀ x ∈ p2, x.block < W.heap.size := by obtain ⟨m, hm⟩ := k2; exact DataW.trod_lt m _ _ _ hm
  obtain ⟨ao_2, n_2, c_2, Z_2, rfl, hz2⟩ := open_steps3 (hval 2 33 v2 rfl rfl) h2
  clear hA0 hval0
  refine (walk_holds a0 a1 ao_2 n_2 c_2 Z_2 (int_of w0).1 (int_of w0).2 (int_of w1).1 (int_of w1).2 W hz2).mono fun e W' ⟨he, bel⟩ => ?_
  subst he
  exact ⟨_, rfl, _, _, _, [], _, [], hW', trodAll_mk1 (shut_bool Try.underlying4 _), (trodAll_cons_mk (shut_int Try.underlying3 w0) (trodAll_cons_mk (shut_int Try.underlying3 w1) (trodAll_cons_mk (Below.trod laidOut (by kernel_rfl) (of_decide_eq_true (by kernel_rfl)) k2 bel lt2) trodAll_mk0))), rfl, bel.frame _, fun h => by cases h⟩

theorem over : Rows.creditHoldsRow.holds Try.pinned (OpenSpec.ofChange Rows.creditHoldsSpec) :=
  OpenClaim.holds_of_wide 4 Try.f4 rfl rfl rfl rfl rfl rfl rfl ⟨rfl, rfl, rfl, rfl, rfl⟩ rfl rfl rfl rfl rfl (by kernel_rfl) Try.func4 (by kernel_rfl)
    (of_decide_eq_true (by kernel_rfl)) (by unfold Func.isWrapper; first | (rw [if_pos (by decide +kernel)]; kernel_rfl) | (rw [if_neg (by decide +kernel)]; exact ⟨rfl, rfl⟩))
    (fun os started H enc _ => lifted os started H enc)
theorem proved : Rows.CreditHoldsSaid := over
#print axioms proved
end Go.Proofs.Ytahlphbgnhklaaa.creditHolds
