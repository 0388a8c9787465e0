/-
  CreditFlows: for any burst, rate, size and row of steps who sends packets of one size as often as may be has sent at least what the rate gave, less one packet, and no more than that and one burst. No conditions.
-/
import Derived.Test.YtahlphbgnhklaaaLF2
import Derived.Test.YtahlphbgnhklaaaRows
import Derived.WalkKit
import Derived.ProofKit
import Derived.OpenShut
import Derived.ChangeOld
import Derived.Below
import Derived.Lib.SmallJoins
namespace Go.Proofs.Ytahlphbgnhklaaa
open Go.RowKit
set_option linter.unusedVariables false
theorem walk_flows (b r s : Int) (ao : Option Addr) (n c : Nat) (zs : List Int) (b_0 : -9223372036854775808 ≤ b) (b_1 : b ≤ 9223372036854775807) (r_0 : -9223372036854775808 ≤ r) (r_1 : r ≤ 9223372036854775807) (s_0 : -9223372036854775808 ≤ s) (s_1 : s ≤ 9223372036854775807) (w : World) (hz : Row .i64 w ao n c zs) :
    Calls Try.prog 5 #[.int .i64 b, .int .i64 r, .int .i64 s, .slice ao n c] w fun e w' => e = .returned (.bool true) ∧ Below w.heap.size w w' := by
  have NW := fun w => new_any b 0 b_0 w
  by_cases hn : 60 < n
  · exact flows_skip1 b r s ao n c zs _ _ _ NW hn w hz
  · have hn2 : decide ((60 : Int) < n) = false := decide_eq_false (by omega)
    by_cases hE : nwE b 0 = 0
    · have hb : 1 ≤ b ∧ b ≤ 1048576 := by
        rcases nwE_cases b 0 with ⟨v1, k⟩ | ⟨v1, v2, k⟩ | ⟨v1, v2, k⟩
        · omega
        · omega
        · exact wi_iff.1 v1
      rcases Int.lt_or_le r 1 with c' | e1
      · exact flows_skip3 b r s ao n c zs hb.1 hb.2 hn2 c' w hz
      · rcases Int.lt_or_le 1000000000 r with c' | e2
        · exact flows_skip4 b r s ao n c zs hb.1 hb.2 hn2 e1 c' w hz
        · rcases Int.lt_or_le s 1 with c' | e3
          · exact flows_skip5 b r s ao n c zs hb.1 hb.2 hn2 e1 e2 c' w hz
          · rcases Int.lt_or_le 9000 s with c' | e4
            · exact flows_skip6 b r s ao n c zs hb.1 hb.2 hn2 e1 e2 e3 c' w hz
            · rcases Int.lt_or_le b s with c' | e5
              · exact flows_skip7 b r s ao n c zs hb.1 hb.2 hn2 e1 e2 e3 e4 c' w hz
              · rcases Int.lt_or_le 4096 (b / s) with c' | hq
                · exact flows_skip8 b r s ao n c zs hb.1 hb.2 hn2 e1 e2 e3 e4 e5 c' w hz
                · exact flows_main b r s ao n c zs hb.1 hb.2 hn2 e1 e2 e3 e4 e5 hq w hz
    · exact flows_skip2 b r s ao n c zs _ _ _ NW hn2 (by simp [hE]) w hz
end Go.Proofs.Ytahlphbgnhklaaa
namespace Go.Proofs.Ytahlphbgnhklaaa.creditFlows
open Go.ChangeShapes Go.WideShapes Go.ChangeAt Go.RowKit Go.Joins
set_option linter.unusedVariables false

theorem own : ownKnob Try.prog.godebug = none := by kernel_rfl
theorem laidOut : laidOutB Try.prog = true := by kernel_rfl
theorem word_of {x : Int} (h : (Lit.int .u64 x).wf = true) : 0 ≤ x ∧ x ≤ 18446744073709551615 := by
  simp [Lit.wf, IntKind.min, IntKind.max, IntKind.signed, IntKind.bits] at h
  exact ⟨by omega, by omega⟩
theorem int_of {x : Int} (h : (Lit.int .i64 x).wf = true) : -9223372036854775808 ≤ x ∧ x ≤ 9223372036854775807 := by
  simp [Lit.wf, IntKind.min, IntKind.max, IntKind.signed, IntKind.bits] at h
  exact ⟨by omega, by omega⟩

set_option maxRecDepth 100000 in
theorem lifted (os : Os) (started : os.Started) (H : Type) (enc : TypeId × Value → H) :
    ReturnsInHanded {} Try.checked os 5 .any (Rows.creditFlowsSpec.pre6 enc Try.prog Try.f5 Rows.creditFlowsRow.domain false) (Rows.creditFlowsSpec.post enc Try.prog Try.f5 false true false false) := by
  refine returnsInHanded_of_change (C := Try.checked) own started (by kernel_rfl) Try.func5
    (ChangeSpec.witness6 (enc := enc) (C := Try.checked) false ⟨#[], #[.int .i64 0, .int .i64 0, .int .i64 0, .slice none 0 0], []⟩ 8 (by kernel_rfl) (by kernel_rfl) (by kernel_rfl) (by kernel_rfl)) ?_
  intro W base args ds gs before hval0 hW hcnd _
  have hval : ∀ (j : Nat) t v, Try.f5.params[j]? = some t → args[j]? = some v → Value.okWide Try.prog W .any base t v := hval0
  have hW' := hW
  obtain ⟨p, q, hA0, hV, rfl, hfz, hnd⟩ := hW
  have hA : DataW.TrodAll enc Try.prog W 0 (fun _ => true) true Try.f5.params.toList args.toList ds p := hA0
  rw [Try.params5] at hA hval
  obtain ⟨v0, vs0, d0, ds0, p0, q0, hargs, rfl, rfl, h0, r0⟩ := trodAll_cons hA
  obtain ⟨v1, vs1, d1, ds1, p1, q1, rfl, rfl, rfl, h1, r1⟩ := trodAll_cons r0
  obtain ⟨v2, vs2, d2, ds2, p2, q2, rfl, rfl, rfl, h2, r2⟩ := trodAll_cons r1
  obtain ⟨v3, vs3, d3, ds3, p3, q3, rfl, rfl, rfl, h3, r3⟩ := trodAll_cons r2
  obtain ⟨rfl, rfl, rfl⟩ := trodAll_nil r3
  obtain rfl : args = #[v0, v1, v2, v3] := by cases args; simp_all
  obtain ⟨rfl, rfl⟩ := trodVars_none hV
  obtain ⟨a0, rfl, rfl, rfl, w0⟩ := open_int Try.underlying3 (hval 0 3 v0 rfl rfl) h0
  obtain ⟨a1, rfl, rfl, rfl, w1⟩ := open_int Try.underlying3 (hval 1 3 v1 rfl rfl) h1
  obtain ⟨a2, rfl, rfl, rfl, w2⟩ := open_int Try.underlying3 (hval 2 3 v2 rfl rfl) h2
  have k3 := h3
  have lt3 : ∀ x ∈ p3, x.block < W.heap.size := by obtain ⟨m, hm⟩ := k3; exact DataW.trod_lt m _ _ _ hm
  obtain ⟨ao_3, n_3, c_3, Z_3, rfl, hz3⟩ := open_rowi (hval 3 34 v3 rfl rfl) h3
  clear hA0 hval0
  refine (walk_flows a0 a1 a2 ao_3 n_3 c_3 Z_3 (int_of w0).1 (int_of w0).2 (int_of w1).1 (int_of w1).2 (int_of w2).1 (int_of w2).2 W hz3).mono fun e W' ⟨he, bel⟩ => ?_
  subst he
  exact ⟨_, rfl, _, _, _, [], _, [], hW', trodAll_mk1 (shut_bool Try.underlying4 _), (trodAll_cons_mk (shut_int Try.underlying3 w0) (trodAll_cons_mk (shut_int Try.underlying3 w1) (trodAll_cons_mk (shut_int Try.underlying3 w2) (trodAll_cons_mk (Below.trod laidOut (by kernel_rfl) (of_decide_eq_true (by kernel_rfl)) k3 bel lt3) trodAll_mk0)))), rfl, bel.frame _, fun h => by cases h⟩

theorem over : Rows.creditFlowsRow.holds Try.pinned (OpenSpec.ofChange Rows.creditFlowsSpec) :=
  OpenClaim.holds_of_wide 5 Try.f5 rfl rfl rfl rfl rfl rfl rfl ⟨rfl, rfl, rfl, rfl, rfl⟩ rfl rfl rfl rfl rfl (by kernel_rfl) Try.func5 (by kernel_rfl)
    (of_decide_eq_true (by kernel_rfl)) (by unfold Func.isWrapper; first | (rw [if_pos (by decide +kernel)]; kernel_rfl) | (rw [if_neg (by decide +kernel)]; exact ⟨rfl, rfl⟩))
    (fun os started H enc _ => lifted os started H enc)
theorem proved : Rows.CreditFlowsSaid := over
#print axioms proved
end Go.Proofs.Ytahlphbgnhklaaa.creditFlows
