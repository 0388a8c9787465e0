/-
  The reference of layer 3: how great a number is, and its root, digit by digit. No conditions but the numbers' own ranges.
-/
import Derived.Test.YtjofnopidfohhaaR2
import Derived.Test.YtjofnopidfohhaaKB
import Derived.Deep.DeepCutAuto
namespace Go.Proofs.Ytjofnopidfohhaa
open Go.RowKit
set_option linter.unusedVariables false

def logv (x : Int) : Int := lenv x - 1
theorem lenv_half {x : Int} (h : 0 < x) : lenv x = lenv (x / 2) + 1 := by
  rcases Int.lt_or_le 1 x with h1 | h1
  · obtain ⟨s0, s1, s2⟩ := lenv_spec (show 0 < x / 2 by omega)
    have e1 : p2 (lenv (x / 2)) = 2 * p2 (lenv (x / 2) - 1) := by rw [← p2_succ (by omega)]; congr 1; omega
    have e2 := p2_succ (show 0 ≤ lenv (x / 2) by omega)
    exact lenv_of (by omega) (by omega) (by omega)
  · have : x = 1 := by omega
    subst this; decide
set_option maxHeartbeats 1000000 in
theorem refLog_any (x : Int) (h0 : 0 ≤ x) (h1 : x ≤ 18446744073709551615) (w : World) :
    Calls Try.prog 13 #[.int .u64 x] w fun e w' => e = .returned (.int .i64 (logv x)) ∧ w' = w := by
  go_enter Try.func13, Try.ntmps13
  go_wp2
  go_loopw [0, 3] (fun x' n wr => ∃ v : Int, ∃ k : Nat, x' = .int .u64 v ∧ n = .int .i64 ((k : Int) - 1) ∧ 0 ≤ v ∧ v ≤ 18446744073709551615 ∧ k ≤ 64 ∧ Hid (lenv x = lenv v + k) ∧ wr = w)
    (fun x' _ _ => (intOf x').toNat)
  case atStart => exact ⟨x, 0, rfl, rfl, h0, h1, by omega, by show _ = _; simp, rfl⟩
  case round =>
    obtain ⟨v, k, rfl, rfl, v0, v1, hk, HL, rfl⟩ := hrel
    by_cases hv : 0 < v
    · have HN : Hid (lenv x = lenv (v / 2) + (k + 1 : Nat)) := by show _ = _; rw [HL.out, lenv_half hv]; omega
      have hk1 : k + 1 ≤ 64 := by
        have a := lenv_64 h0 h1
        have b := lenv_64 (a := v / 2) (by omega) (by omega)
        have := HN.out; omega
      go_wp2
      go_roundw
      case rel => exact ⟨v / 2, k + 1, rfl, by go_num, by omega, by omega, hk1, HN, trivial⟩
      case measure => simp [intOf]; omega
    · have E : Hid ((k : Int) - 1 = logv x) := by
        show _ = _
        have : v = 0 := by omega
        have h := HL.out
        rw [this, lenv_0] at h
        unfold logv; omega
      go_wp2
      rw [E.out]
      go_ret
      exact ⟨rfl, rfl⟩
theorem RootAt.either {a k s r S R : Int} (h : RootAt a (k + 1) s r) (hk : 0 ≤ k) (hk1 : k ≤ 63)
    (hx : (4 * s + 1 ≤ 4 * r + pairv a k ∧ S = 2 * s + 1 ∧ R = 4 * r + pairv a k - (4 * s + 1)) ∨ (4 * r + pairv a k < 4 * s + 1 ∧ S = 2 * s ∧ R = 4 * r + pairv a k)) : RootAt a (k - 1 + 1) S R := by
  rw [show k - 1 + 1 = k by omega]
  rcases hx with ⟨x, rfl, rfl⟩ | ⟨x, rfl, rfl⟩
  · exact h.one hk (by omega) x
  · exact h.none hk (by omega) x

set_option maxHeartbeats 2000000 in
set_option maxRecDepth 100000 in
theorem refSqrt_any (a : Int) (ha : W128 a) (w : World) :
    Calls Try.prog 9 #[.agg #[.int .u64 (hiw a), .int .u64 (low a)]] w fun e w' => e = .returned (.int .u64 (sqrtv a)) ∧ Below w.heap.size w w' := by
  go_enter Try.func9, Try.ntmps9
  go_wp2
  go_loopw [3, 4, 5, 6] (fun s' r' o' i' wr => ∃ k s rl : Int, ∃ ov : Bool, s' = .int .u64 s ∧ r' = .int .u64 rl ∧ o' = .bool ov ∧ i' = .int .i64 k ∧ -1 ≤ k ∧ k ≤ 63 ∧ 0 ≤ rl ∧ rl ≤ 18446744073709551615 ∧ 0 ≤ s ∧ s ≤ 18446744073709551615 ∧
      Hid (RootAt a (k + 1) s (rl + if ov then 18446744073709551616 else 0)) ∧ At2 wr w.heap.size (.int .u64 (hiw a)) (.int .u64 (low a)) ∧ Below w.heap.size w wr)
    (fun _ _ _ i' _ => (intOf i' + 1).toNat)
  case atStart =>
    refine ⟨63, 0, 0, false, rfl, rfl, rfl, rfl, by omega, by omega, by omega, by omega, by omega, by omega, RootAt.start ha, ?_, by go_grown⟩
    constructor <;> simp [go_sem]
  case round =>
    obtain ⟨k, s, rl, ov, rfl, rfl, rfl, rfl, hk0, hk1, l0, l1, s0, s1, HA, A0, hbel⟩ := hrel
    obtain ⟨x0, x1, x2, x3, x4⟩ := id A0
    by_cases hk : 0 ≤ k
    · have hs := HA.out.small (by omega) (by omega)
      cases ov
      all_goals
        have hr := HA.out.r1
        simp only [Bool.false_eq_true, if_false, if_true] at hr
        go_wp2_with fail
        refine (two_any a k ha hk (by omega) _).mono ?_
        rintro e w1 ⟨rfl, hw1⟩
        go_wp2_with fail
        all_goals
          have q := pairv_bd a k
          have hb1 := Below.call hbel hbel.size hw1
          have B0 := A0.below hw1 A0.lt
          have oA : bits .or .u64 (IntKind.u64.wrap (rl * 4)) (pairv a k) = rl * 4 % 18446744073709551616 + pairv a k := by rw [IntKind.wrap_u64]; apply or4 <;> omega
          have oB : bits .or .u64 (IntKind.u64.wrap (s * 4)) 1 = s * 4 % 18446744073709551616 + 1 := by rw [IntKind.wrap_u64]; apply or4 <;> omega
          have oC : bits .or .u64 (s * 2) 1 = s * 2 + 1 := by apply or2 <;> omega
          try (have oD : bits .or .u64 (rl * 4) (pairv a k) = rl * 4 + pairv a k := by apply or4 <;> omega)
          clear x0 x1 x2 x3 x4 A0 hbel hw1
          try simp only [oA] at *
          try simp only [oB] at *
          try simp only [oC] at *
          try simp only [oD] at *
          try simp only [IntKind.wrap_u64] at *
          refine ⟨⟨k - 1, _, _, _, rfl, rfl, rfl, rfl, by omega, by omega, by omega, by omega, by omega, by omega, HA.out.either hk hk1 ?_, B0, hb1⟩, by simp [intOf]; omega⟩
          try simp only [decide_eq_true_eq]
          try simp only [Bool.false_eq_true]
          try simp only [if_false]
          try simp only [if_true]
          try split
          all_goals omega
    · have ek : k + 1 = 0 := by omega
      have E : Hid (s = sqrtv a) := by
        have h := HA.out
        rw [ek] at h
        exact h.done ha
      go_wp2
      go_ret
      exact ⟨by rw [E.out]; rfl, hbel⟩

set_option maxHeartbeats 400000 in
theorem refSqrt64_any (x : Int) (h0 : 0 ≤ x) (h1 : x ≤ 18446744073709551615) (w : World) :
    Calls Try.prog 11 #[.int .u64 x] w fun e w' => e = .returned (.int .u64 (sqrtv x)) ∧ Below w.heap.size w w' := by
  have eh : hiw x = 0 := by unfold hiw; omega
  have el : low x = x := by unfold low; omega
  have C := fun w => refSqrt_any x ⟨h0, by omega⟩ w
  rw [eh, el] at C
  go_enter Try.func11, Try.ntmps11
  go_wp2_with fail
  refine (C _).mono ?_
  rintro e w1 ⟨rfl, hw1⟩
  go_wp2
  go_ret
  exact ⟨rfl, by go_grown⟩

/-- The root of a fixed number. -/
def rootv (a : Int) : Int := if a ≤ 0 then 0 else sqrtv (clampv a * 1048576)
theorem root_W {a : Int} (h : ¬ a ≤ 0) : W128 (clampv a * 1048576) := by
  have b := clampv_bd a
  have : 0 ≤ clampv a := by unfold clampv; split; omega; split <;> omega
  exact ⟨by omega, by omega⟩
theorem rootv_bd (a : Int) : 0 ≤ rootv a ∧ rootv a ≤ 2199023255552 := by
  unfold rootv
  split
  · omega
  · rename_i h
    have b := clampv_bd a
    obtain ⟨r0, r1, r2⟩ := sqrtv_spec (root_W h)
    have := sq_lt_of (s := sqrtv (clampv a * 1048576)) (t := 2199023255553) (by omega) (by omega)
    omega
set_option maxHeartbeats 400000 in
theorem refRoot_any (a : Int) (w : World) :
    Calls Try.prog 15 #[.int .i64 a] w fun e w' => e = .returned (.int .i64 (rootv a)) ∧ Below w.heap.size w w' := by
  by_cases h : a ≤ 0
  · have E : Hid (rootv a = 0) := by show _ = _; unfold rootv; rw [if_pos h]
    go_enter Try.func15, Try.ntmps15
    go_wp2
    go_ret
    exact ⟨by rw [E.out]; rfl, by go_grown⟩
  · have b := clampv_bd a
    have b0 : 0 ≤ clampv a := by unfold clampv; split; omega; split <;> omega
    have C := fun w => refSqrt_any (clampv a * 1048576) (root_W h) w
    have RB : 0 ≤ sqrtv (clampv a * 1048576) ∧ sqrtv (clampv a * 1048576) ≤ 2199023255552 := by
      have := rootv_bd a; unfold rootv at this; rwa [if_neg h] at this
    have E : Hid (rootv a = sqrtv (clampv a * 1048576)) := by show _ = _; unfold rootv; rw [if_neg h]
    have eh : hiw (clampv a * 1048576) = clampv a / 17592186044416 := by unfold hiw; omega
    have el : low (clampv a * 1048576) = IntKind.u64.wrap (clampv a * 1048576) := by rw [IntKind.wrap_u64]; rfl
    rw [eh, el] at C
    go_enter Try.func15, Try.ntmps15
    go_wp2_with fail
    refine (refClamp_any a _).mono ?_
    rintro e w1 ⟨rfl, hw1⟩
    subst hw1
    go_wp2_with fail
    refine (C _).mono ?_
    rintro e w2 ⟨rfl, hw2⟩
    go_wp2
    go_ret
    exact ⟨by rw [E.out]; rfl, hw2⟩
set_option maxHeartbeats 400000 in
theorem refMean_any (x y : Int) (hx0 : 0 ≤ x) (hx1 : x ≤ 18446744073709551615) (hy0 : 0 ≤ y) (hy1 : y ≤ 18446744073709551615) (w : World) :
    Calls Try.prog 17 #[.int .u64 x, .int .u64 y] w fun e w' => e = .returned (.int .u64 (sqrtv (x * y))) ∧ Below w.heap.size w w' := by
  go_enter Try.func17, Try.ntmps17
  go_wp2_with fail
  refine (refTimes_any x y hx0 hx1 hy0 hy1 _).mono ?_
  rintro e w1 ⟨rfl, hw1⟩
  subst hw1
  go_wp2_with fail
  refine (refSqrt_any (x * y) (mul_lt hx0 hx1 hy0 hy1) _).mono ?_
  rintro e w1 ⟨rfl, hw1⟩
  go_wp2
  go_ret
  exact ⟨rfl, by go_grown⟩
end Go.Proofs.Ytjofnopidfohhaa
