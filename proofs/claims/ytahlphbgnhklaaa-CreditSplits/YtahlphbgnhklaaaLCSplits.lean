/-
  CreditSplits: for any burst, credit and numbers to fill in two steps at one rate is to fill in one; what is waited for, times the rate, is not below what is missing. No conditions.
-/
import Derived.Test.YtahlphbgnhklaaaN7
import Derived.Test.YtahlphbgnhklaaaLCS
import Derived.Test.YtahlphbgnhklaaaRows
import Derived.WalkKit
import Derived.ProofKit
import Derived.OpenShut
import Derived.ChangeOld
import Derived.Below
import Derived.Lib.SmallJoins
namespace Go.Proofs.Ytahlphbgnhklaaa
open Go.RowKit
set_option linter.unusedVariables false
attribute [local go_sem] Later.cell Later.frozen

theorem flH_bd {b a h r t : Int} : 0 ≤ flH b a h r t ∧ flH b a h r t ≤ 1048576000000 := by
  unfold flH
  rcases flE_cases b a h r t with ⟨v1, hE⟩ | ⟨v1, v2, hE⟩ | ⟨v1, v2, v3, hE⟩ | ⟨v1, v2, v3, hta, hE⟩ | ⟨v1, v2, v3, hta, hE⟩
  all_goals rw [hE]
  · simp
  · simp
  · simp
  · simp
  · rw [if_pos rfl]
    obtain ⟨⟨b2, b3⟩, ⟨a2, a3⟩, h2, h3⟩ := isv_iff.1 v1
    obtain ⟨r2, r3⟩ := wi_iff.1 v2
    have p := Int.mul_nonneg (show 0 ≤ r by omega) (show 0 ≤ t - a by omega)
    have k := heldv_bd (b := b) (m := r * (t - a) + h) b2 (by omega)
    omega
theorem flE_zero {b a h r t : Int} (hE : flE b a h r t = 0) : isv b a h = true ∧ wi r 1 1000000000 = true ∧ wi t 0 1099511627776 = true ∧ a ≤ t := by
  rcases flE_cases b a h r t with ⟨v1, k⟩ | ⟨v1, v2, k⟩ | ⟨v1, v2, v3, k⟩ | ⟨v1, v2, v3, hta, k⟩ | ⟨v1, v2, v3, hta, k⟩
  all_goals first | (exfalso; omega) | exact ⟨v1, v2, v3, hta⟩
/-- To fill in two steps is to fill in one. -/
theorem fl_split {b a h r m t : Int} (h1 : flE b a h r m = 0) (h2 : flE b (flA b a h r m) (flH b a h r m) r t = 0) :
    flE b a h r t = 0 ∧ flA b a h r t = flA b (flA b a h r m) (flH b a h r m) r t ∧ flH b a h r t = flH b (flA b a h r m) (flH b a h r m) r t := by
  obtain ⟨v1, v2, v3, v4⟩ := flE_zero h1
  obtain ⟨u1, u2, u3, u4⟩ := flE_zero h2
  obtain ⟨⟨b2, b3⟩, ⟨a2, a3⟩, h2', h3⟩ := isv_iff.1 v1
  obtain ⟨r2, r3⟩ := wi_iff.1 v2
  obtain ⟨t2, t3⟩ := wi_iff.1 u3
  have EA : flA b a h r m = m := by unfold flA; rw [if_pos h1]
  have EH : flH b a h r m = heldv b (r * (m - a) + h) := by unfold flH; rw [if_pos h1]
  rw [EA] at u4
  have E3 : flE b a h r t = 0 := flE_ok v1 r2 r3 (by omega) t3
  refine ⟨E3, ?_, ?_⟩
  · unfold flA; rw [if_pos E3, if_pos (by unfold flA at h2; exact h2)]
  · rw [show flH b a h r t = heldv b (r * (t - a) + h) by unfold flH; rw [if_pos E3]]
    rw [EA, EH] at h2 ⊢
    rw [show flH b m (heldv b (r * (m - a) + h)) r t = heldv b (r * (t - m) + heldv b (r * (m - a) + h)) by unfold flH; rw [if_pos h2]]
    have p := Int.mul_nonneg (show 0 ≤ r by omega) (show 0 ≤ t - m by omega)
    have e : r * (t - a) = r * (t - m) + r * (m - a) := by rw [← Int.mul_add]; congr 1; omega
    rw [e]
    generalize r * (t - m) = y at *
    generalize r * (m - a) = z at *
    unfold heldv
    split <;> split <;> (try split) <;> omega
theorem walk_splits (b a h r m t s : Int) (b_0 : -9223372036854775808 ≤ b) (b_1 : b ≤ 9223372036854775807) (a_0 : -9223372036854775808 ≤ a) (a_1 : a ≤ 9223372036854775807) (h_0 : -9223372036854775808 ≤ h) (h_1 : h ≤ 9223372036854775807) (r_0 : -9223372036854775808 ≤ r) (r_1 : r ≤ 9223372036854775807) (m_0 : -9223372036854775808 ≤ m) (m_1 : m ≤ 9223372036854775807) (t_0 : -9223372036854775808 ≤ t) (t_1 : t ≤ 9223372036854775807) (s_0 : -9223372036854775808 ≤ s) (s_1 : s ≤ 9223372036854775807) (w : World) :
    Calls Try.prog 7 #[.int .i64 b, .agg #[.int .i64 a, .int .i64 h], .int .i64 r, .int .i64 m, .int .i64 t, .int .i64 s] w fun e w' => e = .returned (.bool true) ∧ Below w.heap.size w w' := by
  have F1 := fun w => fill_any b a h r m h_0 h_1 w
  have bd := flH_bd (b := b) (a := a) (h := h) (r := r) (t := m)
  have F2 := fun w => fill_any b (flA b a h r m) (flH b a h r m) r t (by omega) (by omega) w
  have F3 := fun w => fill_any b a h r t h_0 h_1 w
  have WT := fun w => wait_any a h r s h_0 h_1 r_1 s_1 w
  obtain ⟨n0, n1⟩ := wtv_bd (h := h) (r := r) (s := s) h_0 s_1
  have HB0 : -9223372036854775808 ≤ flH b a h r m := by omega
  have HB1 : flH b a h r m ≤ 9223372036854775807 := by omega
  by_cases z1 : flE b a h r m = 0
  · rw [z1] at F1
    by_cases z2 : flE b (flA b a h r m) (flH b a h r m) r t = 0
    · rw [z2] at F2
      obtain ⟨z3, z4, z5⟩ := fl_split z1 z2
      rw [z3, z4, z5] at F3
      rcases Int.lt_or_le 0 s with e1 | c
      · rcases Int.lt_or_le 0 r with e2 | c
        · rcases Int.lt_or_le h 0 with c | e3
          · exact walk_splits_c2 b a h r m t s _ _ _ _ _ b_0 b_1 a_0 a_1 h_0 h_1 r_0 r_1 m_0 m_1 t_0 t_1 s_0 s_1 HB0 HB1 F1 F2 F3 n0 n1 WT e1 e2 c w
          · by_cases z : wtv h r s = 4611686018427387904
            · exact walk_splits_c3 b a h r m t s _ _ _ _ _ b_0 b_1 a_0 a_1 h_0 h_1 r_0 r_1 m_0 m_1 t_0 t_1 s_0 s_1 HB0 HB1 F1 F2 F3 n0 n1 WT e1 e2 e3 (by simp [z]) w
            · have G : s * 1000000 ≤ r * wtv h r s + h := (wtv_enough rfl e2 e1 (by omega)).1
              exact walk_splits_c4 b a h r m t s _ _ _ _ _ b_0 b_1 a_0 a_1 h_0 h_1 r_0 r_1 m_0 m_1 t_0 t_1 s_0 s_1 HB0 HB1 F1 F2 F3 n0 n1 WT e1 e2 e3 (by simp [z]) G w
        · exact walk_splits_c1 b a h r m t s _ _ _ _ _ b_0 b_1 a_0 a_1 h_0 h_1 r_0 r_1 m_0 m_1 t_0 t_1 s_0 s_1 HB0 HB1 F1 F2 F3 n0 n1 WT e1 c w
      · exact walk_splits_c0 b a h r m t s _ _ _ _ _ b_0 b_1 a_0 a_1 h_0 h_1 r_0 r_1 m_0 m_1 t_0 t_1 s_0 s_1 HB0 HB1 F1 F2 F3 n0 n1 WT c w
    · have k : (flE b (flA b a h r m) (flH b a h r m) r t == 0) = false := by simp [z2]
      rcases Int.lt_or_le 0 s with e1 | c
      · rcases Int.lt_or_le 0 r with e2 | c
        · rcases Int.lt_or_le h 0 with c | e3
          · exact walk_splits_b2 b a h r m t s _ _ _ _ _ _ _ _ _ b_0 b_1 a_0 a_1 h_0 h_1 r_0 r_1 m_0 m_1 t_0 t_1 s_0 s_1 HB0 HB1 F1 F2 F3 n0 n1 WT k e1 e2 c w
          · by_cases z : wtv h r s = 4611686018427387904
            · exact walk_splits_b3 b a h r m t s _ _ _ _ _ _ _ _ _ b_0 b_1 a_0 a_1 h_0 h_1 r_0 r_1 m_0 m_1 t_0 t_1 s_0 s_1 HB0 HB1 F1 F2 F3 n0 n1 WT k e1 e2 e3 (by simp [z]) w
            · have G : s * 1000000 ≤ r * wtv h r s + h := (wtv_enough rfl e2 e1 (by omega)).1
              exact walk_splits_b4 b a h r m t s _ _ _ _ _ _ _ _ _ b_0 b_1 a_0 a_1 h_0 h_1 r_0 r_1 m_0 m_1 t_0 t_1 s_0 s_1 HB0 HB1 F1 F2 F3 n0 n1 WT k e1 e2 e3 (by simp [z]) G w
        · exact walk_splits_b1 b a h r m t s _ _ _ _ _ _ _ _ _ b_0 b_1 a_0 a_1 h_0 h_1 r_0 r_1 m_0 m_1 t_0 t_1 s_0 s_1 HB0 HB1 F1 F2 F3 n0 n1 WT k e1 c w
      · exact walk_splits_b0 b a h r m t s _ _ _ _ _ _ _ _ _ b_0 b_1 a_0 a_1 h_0 h_1 r_0 r_1 m_0 m_1 t_0 t_1 s_0 s_1 HB0 HB1 F1 F2 F3 n0 n1 WT k c w
  · have k : (flE b a h r m == 0) = false := by simp [z1]
    rcases Int.lt_or_le 0 s with e1 | c
    · rcases Int.lt_or_le 0 r with e2 | c
      · rcases Int.lt_or_le h 0 with c | e3
        · exact walk_splits_a2 b a h r m t s _ _ _ _ _ _ _ _ _ _ b_0 b_1 a_0 a_1 h_0 h_1 r_0 r_1 m_0 m_1 t_0 t_1 s_0 s_1 HB0 HB1 F1 F2 F3 n0 n1 WT k e1 e2 c w
        · by_cases z : wtv h r s = 4611686018427387904
          · exact walk_splits_a3 b a h r m t s _ _ _ _ _ _ _ _ _ _ b_0 b_1 a_0 a_1 h_0 h_1 r_0 r_1 m_0 m_1 t_0 t_1 s_0 s_1 HB0 HB1 F1 F2 F3 n0 n1 WT k e1 e2 e3 (by simp [z]) w
          · have G : s * 1000000 ≤ r * wtv h r s + h := (wtv_enough rfl e2 e1 (by omega)).1
            exact walk_splits_a4 b a h r m t s _ _ _ _ _ _ _ _ _ _ b_0 b_1 a_0 a_1 h_0 h_1 r_0 r_1 m_0 m_1 t_0 t_1 s_0 s_1 HB0 HB1 F1 F2 F3 n0 n1 WT k e1 e2 e3 (by simp [z]) G w
      · exact walk_splits_a1 b a h r m t s _ _ _ _ _ _ _ _ _ _ b_0 b_1 a_0 a_1 h_0 h_1 r_0 r_1 m_0 m_1 t_0 t_1 s_0 s_1 HB0 HB1 F1 F2 F3 n0 n1 WT k e1 c w
    · exact walk_splits_a0 b a h r m t s _ _ _ _ _ _ _ _ _ _ b_0 b_1 a_0 a_1 h_0 h_1 r_0 r_1 m_0 m_1 t_0 t_1 s_0 s_1 HB0 HB1 F1 F2 F3 n0 n1 WT k c w
end Go.Proofs.Ytahlphbgnhklaaa
namespace Go.Proofs.Ytahlphbgnhklaaa.creditSplits
open Go.ChangeShapes Go.WideShapes Go.ChangeAt Go.RowKit Go.Joins
set_option linter.unusedVariables false

theorem own : ownKnob Try.prog.godebug = none := by kernel_rfl
theorem laidOut : laidOutB Try.prog = true := by kernel_rfl
theorem cells23 : Try.prog.cellsOf 23 = 2 := by kernel_rfl
theorem word_of {x : Int} (h : (Lit.int .u64 x).wf = true) : 0 ≤ x ∧ x ≤ 18446744073709551615 := by
  simp [Lit.wf, IntKind.min, IntKind.max, IntKind.signed, IntKind.bits] at h
  exact ⟨by omega, by omega⟩
theorem int_of {x : Int} (h : (Lit.int .i64 x).wf = true) : -9223372036854775808 ≤ x ∧ x ≤ 9223372036854775807 := by
  simp [Lit.wf, IntKind.min, IntKind.max, IntKind.signed, IntKind.bits] at h
  exact ⟨by omega, by omega⟩

set_option maxRecDepth 100000 in
theorem lifted (os : Os) (started : os.Started) (H : Type) (enc : TypeId × Value → H) :
    ReturnsInHanded {} Try.checked os 7 .any (Rows.creditSplitsSpec.pre6 enc Try.prog Try.f7 Rows.creditSplitsRow.domain false) (Rows.creditSplitsSpec.post enc Try.prog Try.f7 false true false false) := by
  refine returnsInHanded_of_change (C := Try.checked) own started (by kernel_rfl) Try.func7
    (ChangeSpec.witness6 (enc := enc) (C := Try.checked) false ⟨#[], #[.int .i64 0, .agg #[.int .i64 0, .int .i64 0], .int .i64 0, .int .i64 0, .int .i64 0, .int .i64 0], []⟩ 8 (by kernel_rfl) (by kernel_rfl) (by kernel_rfl) (by kernel_rfl)) ?_
  intro W base args ds gs before hval0 hW hcnd _
  have hval : ∀ (j : Nat) t v, Try.f7.params[j]? = some t → args[j]? = some v → Value.okWide Try.prog W .any base t v := hval0
  have hW' := hW
  obtain ⟨p, q, hA0, hV, rfl, hfz, hnd⟩ := hW
  have hA : DataW.TrodAll enc Try.prog W 0 (fun _ => true) true Try.f7.params.toList args.toList ds p := hA0
  rw [Try.params7] at hA hval
  obtain ⟨v0, vs0, d0, ds0, p0, q0, hargs, rfl, rfl, h0, r0⟩ := trodAll_cons hA
  obtain ⟨v1, vs1, d1, ds1, p1, q1, rfl, rfl, rfl, h1, r1⟩ := trodAll_cons r0
  obtain ⟨v2, vs2, d2, ds2, p2, q2, rfl, rfl, rfl, h2, r2⟩ := trodAll_cons r1
  obtain ⟨v3, vs3, d3, ds3, p3, q3, rfl, rfl, rfl, h3, r3⟩ := trodAll_cons r2
  obtain ⟨v4, vs4, d4, ds4, p4, q4, rfl, rfl, rfl, h4, r4⟩ := trodAll_cons r3
  obtain ⟨v5, vs5, d5, ds5, p5, q5, rfl, rfl, rfl, h5, r5⟩ := trodAll_cons r4
  obtain ⟨rfl, rfl, rfl⟩ := trodAll_nil r5
  obtain rfl : args = #[v0, v1, v2, v3, v4, v5] := by cases args; simp_all
  obtain ⟨rfl, rfl⟩ := trodVars_none hV
  obtain ⟨a0, rfl, rfl, rfl, w0⟩ := open_int Try.underlying3 (hval 0 3 v0 rfl rfl) h0
  have k1 := h1
  have lt1 : ∀ x ∈ p1, x.block < W.heap.size := by obtain ⟨m, hm⟩ := k1; exact DataW.trod_lt m _ _ _ hm
  obtain ⟨c1a, c1b, y1a, y1b, m1, rfl, rfl, rfl, hy1a, hy1b⟩ := open_agg2 Try.underlying23 (by kernel_rfl) cells23 (hval 1 23 v1 rfl rfl) h1
  obtain ⟨x1a, e1a, rfl, w1a⟩ := DataW.trod_int Try.underlying3 hy1a
  obtain ⟨x1b, e1b, rfl, w1b⟩ := DataW.trod_int Try.underlying3 hy1b
  simp at e1a e1b
  subst e1a e1b
  obtain ⟨a2, rfl, rfl, rfl, w2⟩ := open_int Try.underlying3 (hval 2 3 v2 rfl rfl) h2
  obtain ⟨a3, rfl, rfl, rfl, w3⟩ := open_int Try.underlying3 (hval 3 3 v3 rfl rfl) h3
  obtain ⟨a4, rfl, rfl, rfl, w4⟩ := open_int Try.underlying3 (hval 4 3 v4 rfl rfl) h4
  obtain ⟨a5, rfl, rfl, rfl, w5⟩ := open_int Try.underlying3 (hval 5 3 v5 rfl rfl) h5
  clear hA0 hval0
  refine (walk_splits a0 x1a x1b a2 a3 a4 a5 (int_of w0).1 (int_of w0).2 (int_of w1a).1 (int_of w1a).2 (int_of w1b).1 (int_of w1b).2 (int_of w2).1 (int_of w2).2 (int_of w3).1 (int_of w3).2 (int_of w4).1 (int_of w4).2 (int_of w5).1 (int_of w5).2 W).mono fun e W' ⟨he, bel⟩ => ?_
  subst he
  exact ⟨_, rfl, _, _, _, [], _, [], hW', trodAll_mk1 (shut_bool Try.underlying4 _), (trodAll_cons_mk (shut_int Try.underlying3 w0) (trodAll_cons_mk (Below.trod laidOut (by kernel_rfl) (of_decide_eq_true (by kernel_rfl)) k1 bel lt1) (trodAll_cons_mk (shut_int Try.underlying3 w2) (trodAll_cons_mk (shut_int Try.underlying3 w3) (trodAll_cons_mk (shut_int Try.underlying3 w4) (trodAll_cons_mk (shut_int Try.underlying3 w5) trodAll_mk0)))))), rfl, bel.frame _, fun h => by cases h⟩

theorem over : Rows.creditSplitsRow.holds Try.pinned (OpenSpec.ofChange Rows.creditSplitsSpec) :=
  OpenClaim.holds_of_wide 7 Try.f7 rfl rfl rfl rfl rfl rfl rfl ⟨rfl, rfl, rfl, rfl, rfl⟩ rfl rfl rfl rfl rfl (by kernel_rfl) Try.func7 (by kernel_rfl)
    (of_decide_eq_true (by kernel_rfl)) (by unfold Func.isWrapper; first | (rw [if_pos (by decide +kernel)]; kernel_rfl) | (rw [if_neg (by decide +kernel)]; exact ⟨rfl, rfl⟩))
    (fun os started H enc _ => lifted os started H enc)
theorem proved : Rows.CreditSplitsSaid := over
#print axioms proved
end Go.Proofs.Ytahlphbgnhklaaa.creditSplits
