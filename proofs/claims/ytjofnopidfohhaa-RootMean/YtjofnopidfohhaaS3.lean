/-
  The program's layer 3: how great a number is, its root, bit by bit, of a fixed number, too, and the mean. No conditions but the numbers' own ranges.
-/
import Derived.Test.YtjofnopidfohhaaS3A
import Derived.Test.YtjofnopidfohhaaR3
import Derived.Test.YtjofnopidfohhaaD2
import Derived.Test.YtjofnopidfohhaaD4
import Derived.Deep.DeepCutAuto
import Derived.WalkMore
namespace Go.Proofs.Ytjofnopidfohhaa
open Go.RowKit
set_option linter.unusedVariables false
attribute [local go_sem] Later.cell Later.frozen

theorem log_zero {x n : Int} (h0 : 0 ≤ x) (k0 : 0 ≤ n) (h : x / p2 n = 0) : lenv x ≤ n := by
  rcases Int.lt_or_le 0 x with hx | hx
  · obtain ⟨s0, s1, s2⟩ := lenv_spec hx
    rcases Int.lt_or_le n (lenv x) with hn | hn
    · have le := p2_le k0 (show n ≤ lenv x - 1 by omega)
      have hp := p2_pos n
      have : p2 n * 1 ≤ x := by omega
      have := Int.le_ediv_of_mul_le hp (show 1 * p2 n ≤ x by omega)
      omega
    · exact hn
  · have : x = 0 := by omega
    subst this; rw [lenv_0]; exact k0
theorem log_more {x n : Int} (h0 : 0 ≤ x) (k0 : 0 ≤ n) (h : x / p2 n ≠ 0) : n + 1 ≤ lenv x := by
  have hp := p2_pos n
  rcases Int.lt_or_le n (lenv x) with hn | hn
  · exact hn
  · exfalso
    apply h
    rcases Int.lt_or_le 0 x with hx | hx
    · obtain ⟨s0, s1, s2⟩ := lenv_spec hx
      have le := p2_le (show 0 ≤ lenv x by omega) hn
      exact div_zero_of h0 (by omega)
    · have : x = 0 := by omega
      subst this; simp

set_option maxHeartbeats 1000000 in
theorem log_any (x : Int) (h0 : 0 ≤ x) (h1 : x ≤ 18446744073709551615) (w : World) :
    Calls Try.prog 12 #[.int .u64 x] w fun e w' => e = .returned (.int .i64 (logv x)) ∧ Below w.heap.size w w' := by
  have hl := lenv_64 h0 h1
  go_enter Try.func12, Try.ntmps12
  go_wp2
  go_loopw [3, 4] (fun _ n' wr => ∃ n : Int, n' = .int .i64 n ∧ 0 ≤ n ∧ n ≤ 64 ∧ n ≤ lenv x ∧ wr = w)
    (fun _ n' _ => (64 - intOf n').toNat)
  case atStart => exact ⟨0, rfl, by omega, by omega, by omega, rfl⟩
  case round =>
    obtain ⟨n, rfl, n0, n1, hn, rfl⟩ := hrel
    by_cases hc : n < 64
    · by_cases hz : x / 2 ^ n.toNat = 0
      · have E : Hid (n - 1 = logv x) := by
          show _ = _
          rw [p2_toNat] at hz
          have := log_zero h0 n0 hz
          unfold logv; omega
        go_wp2
        rw [E.out]
        go_ret
        exact ⟨rfl, by go_grown⟩
      · have hm : n + 1 ≤ lenv x := by rw [p2_toNat] at hz; exact log_more h0 n0 hz
        go_wp2
        go_roundw
        case rel => exact ⟨n + 1, by go_num, by omega, by omega, hm, trivial⟩
        case measure => simp [intOf]; omega
    · have E : Hid (63 = logv x) := by show _ = _; unfold logv; omega
      go_wp2
      rw [E.out]
      go_ret
      exact ⟨rfl, by go_grown⟩
theorem BitRoot.start_at {a k : Int} (h : W128 a) (hk : 0 ≤ k) (hlt : a < p2 k * p2 k) : BitRoot a k 0 := by
  obtain ⟨r0, r1, r2⟩ := sqrtv_spec h
  have hp := p2_pos k
  have := sq_lt_of (s := sqrtv a) (t := p2 k) (by omega) (by omega)
  exact ⟨by omega, by simp, by omega, by omega⟩
theorem half_places {a p : Int} (h : W128 a) (hp : p = (lenv a + 1) / 2) : 0 ≤ p ∧ p ≤ 64 ∧ BitRoot a p 0 := by
  obtain ⟨l0, l1⟩ := lenv_bd h
  have p0 : 0 ≤ p := by omega
  refine ⟨p0, by omega, BitRoot.start_at h p0 ?_⟩
  rw [← p2_add p0 p0]
  rcases Int.lt_or_le 0 a with ha | ha
  · obtain ⟨s0, s1, s2⟩ := lenv_spec ha
    have := p2_le (show 0 ≤ lenv a by omega) (show lenv a ≤ p + p by omega)
    omega
  · have := p2_pos (p + p)
    omega
theorem BitRoot.room {a c s : Int} (ha : W128 a) (h : BitRoot a (c + 1) s) (h0 : 0 ≤ c) (h1 : c < 64) : s + p2 c ≤ 18446744073709551615 := by
  obtain ⟨s0, m, lo, hi⟩ := h
  have q := (sqrtv_64 ha).2
  have hp := p2_pos (c + 1)
  have hc := p2_pos c
  have e2 := p2_succ h0
  have e := p2_sub (show 0 ≤ c + 1 by omega) (show c + 1 ≤ 64 by omega)
  rw [p2_64] at e
  have d := Int.mul_ediv_add_emod s (p2 (c + 1))
  have hd : s / p2 (c + 1) < p2 (64 - (c + 1)) := Int.ediv_lt_of_lt_mul hp (by rw [Int.mul_comm, ← e]; omega)
  have mm := Int.mul_le_mul_of_nonneg_left (show s / p2 (c + 1) + 1 ≤ p2 (64 - (c + 1)) by omega) (show 0 ≤ p2 (c + 1) by omega)
  rw [Int.mul_add, Int.mul_one, ← e] at mm
  omega

set_option maxHeartbeats 2000000 in
set_option maxRecDepth 100000 in
theorem sqrt_any (a : Int) (ha : W128 a) (w : World) :
    Calls Try.prog 8 #[.agg #[.int .u64 (hiw a), .int .u64 (low a)]] w fun e w' => e = .returned (.int .u64 (sqrtv a)) ∧ Below w.heap.size w w' := by
  obtain ⟨l0, l1⟩ := lenv_bd ha
  have L := fun w => len_any a ha w
  have hq : (lenv a + 1).tdiv 2 = (lenv a + 1) / 2 := Int.tdiv_eq_ediv_of_nonneg (by omega)
  obtain ⟨p, hp⟩ : ∃ p, p = (lenv a + 1) / 2 := ⟨_, rfl⟩
  obtain ⟨p0, p1, hs⟩ := half_places ha hp
  rw [← hp] at hq
  clear hp
  generalize lenv a = l at *
  go_enter Try.func8, Try.ntmps8
  go_wp2
  go_step3
  go_wp2_with fail
  refine (L _).mono ?_
  rintro e w1 ⟨rfl, hw1⟩
  have A : At2 w1 w.heap.size (.int .u64 (hiw a)) (.int .u64 (low a)) := At2.below (by constructor <;> simp [go_sem]) hw1 (by simp <;> omega)
  have hb : Below w.heap.size w w1 := Below.call (by go_grown) (by simp <;> omega) hw1
  clear hw1
  go_wp2
  go_step3
  go_wp2
  go_loopw [4, 12] (fun s' i' wr => ∃ s j : Int, s' = .int .u64 s ∧ i' = .int .i64 j ∧ 0 ≤ j ∧ j ≤ p ∧ Hid (BitRoot a (p - j) s) ∧ At2 wr w.heap.size (.int .u64 (hiw a)) (.int .u64 (low a)) ∧ Below w.heap.size w wr)
    (fun _ i' _ => (p - intOf i').toNat)
  case atStart => exact ⟨0, 0, rfl, rfl, by omega, by omega, by rw [Int.sub_zero]; exact hs, A, hb⟩
  case round =>
    obtain ⟨s, j, rfl, rfl, j0, j1, HB, A1, hb1⟩ := hrel
    obtain ⟨z0, z1, z2, z3, z4⟩ := id A1
    clear A hb
    by_cases hc : j < p
    · have k0 : 0 ≤ p - 1 - j := by omega
      have BR : Hid (BitRoot a (p - 1 - j + 1) s) := by rw [show p - 1 - j + 1 = p - j by omega]; exact HB.out
      have rm := BR.out.room ha k0 (by omega)
      have s0 := BR.out.s0
      have pp := p2_pos (p - 1 - j)
      have hor : bits .or .u64 s (IntKind.u64.wrap (2 ^ (p - 1 - j).toNat)) = s + p2 (p - 1 - j) := or_u64 s0 (by omega) k0 (by omega) (BR.out.bit k0)
      obtain ⟨t, ht⟩ : ∃ t, s + p2 (p - 1 - j) = t := ⟨_, rfl⟩
      rw [ht] at hor rm
      have t0 : 0 ≤ t := by omega
      have M := fun w => mul_any t t t0 rm t0 rm w
      have hW := mul_lt t0 rm t0 rm
      have C := fun w => cmp_any (t * t) a hW ha w
      rcases Int.lt_trichotomy (t * t) a with hlt | heq | hgt
      · have hcv : cmpv (t * t) a = -1 := by unfold cmpv; rw [if_pos hlt]
        have NB : Hid (BitRoot a (p - (j + 1)) t) := by
          have h := BR.out.one k0 (by rw [ht]; exact sqrt_not_above ha t0 (by omega))
          rw [ht] at h
          rw [show p - (j + 1) = p - 1 - j by omega]; exact h
        rw [hcv] at C
        clear hlt
        go_upto_region 7 with fail
        refine wp_forget (fun W => At2 W w.heap.size (.int .u64 (hiw a)) (.int .u64 (low a)) ∧ Below w.heap.size w W) ⟨A1, hb1⟩ ?_
        rintro W ⟨A, hb⟩
        clear A1 hb1 z0 z1 z2 z3 z4
        obtain ⟨z0, z1, z2, z3, z4⟩ := id A
        have hne : Nonempty (Later W) := Later.ne W
        go_wp2_with fail
        refine wp_region_later (by kernel_rfl) (by kernel_rfl) ?_
        repeat (go_big_quiet_step (first
          | (go_at_call 19; exact Later.call _ (M _))
          | (go_at_call 18; exact Later.call _ (C _))))
        refine wpQuiet_nil ?_
        rintro w5 ⟨⟨_, hw5⟩, rfl⟩
        go_wp2
        go_roundw
        case rel => exact ⟨t, j + 1, rfl, by go_num, by omega, by omega, NB, A.below hw5 A.lt, Below.call hb hb.size hw5⟩
        case measure => simp [intOf]; omega
      · have hcv : cmpv (t * t) a = 0 := by unfold cmpv; rw [if_neg (by omega), if_neg (by omega)]
        have E : Hid (t = sqrtv a) := (sqrtv_of ha t0 (by omega) (by rw [Int.add_mul, Int.mul_add]; omega)).symm
        rw [hcv] at C
        clear heq
        go_upto_region 7 with fail
        refine wp_forget (fun W => At2 W w.heap.size (.int .u64 (hiw a)) (.int .u64 (low a)) ∧ Below w.heap.size w W) ⟨A1, hb1⟩ ?_
        rintro W ⟨A, hb⟩
        clear A1 hb1 z0 z1 z2 z3 z4
        obtain ⟨z0, z1, z2, z3, z4⟩ := id A
        have hne : Nonempty (Later W) := Later.ne W
        go_wp2_with fail
        refine wp_region_later (by kernel_rfl) (by kernel_rfl) ?_
        repeat (go_big_quiet_step (first
          | (go_at_call 19; exact Later.call _ (M _))
          | (go_at_call 18; exact Later.call _ (C _))))
        refine wpQuiet_nil ?_
        rintro w5 ⟨⟨_, hw5⟩, rfl⟩
        go_wp2
        rw [E.out]
        try rw [Exit.noGoto_ret]
        go_ret
        exact ⟨rfl, Below.call hb hb.size hw5⟩
      · have hcv : cmpv (t * t) a = 1 := by unfold cmpv; rw [if_neg (by omega), if_pos hgt]
        have NB : Hid (BitRoot a (p - (j + 1)) s) := by
          have h := BR.out.none k0 (by rw [ht]; exact sqrt_above ha t0 hgt)
          rw [show p - (j + 1) = p - 1 - j by omega]; exact h
        rw [hcv] at C
        clear hgt
        go_upto_region 7 with fail
        refine wp_forget (fun W => At2 W w.heap.size (.int .u64 (hiw a)) (.int .u64 (low a)) ∧ Below w.heap.size w W) ⟨A1, hb1⟩ ?_
        rintro W ⟨A, hb⟩
        clear A1 hb1 z0 z1 z2 z3 z4
        obtain ⟨z0, z1, z2, z3, z4⟩ := id A
        have hne : Nonempty (Later W) := Later.ne W
        go_wp2_with fail
        refine wp_region_later (by kernel_rfl) (by kernel_rfl) ?_
        repeat (go_big_quiet_step (first
          | (go_at_call 19; exact Later.call _ (M _))
          | (go_at_call 18; exact Later.call _ (C _))))
        refine wpQuiet_nil ?_
        rintro w5 ⟨⟨_, hw5⟩, rfl⟩
        go_wp2
        go_roundw
        case rel => exact ⟨s, j + 1, rfl, by go_num, by omega, by omega, NB, A.below hw5 A.lt, Below.call hb hb.size hw5⟩
        case measure => simp [intOf]; omega
    · have E : Hid (s = sqrtv a) := by
        have h := HB.out
        rw [show p - j = 0 by omega] at h
        exact h.done
      go_wp2
      rw [E.out]
      go_ret
      exact ⟨rfl, hb1⟩

set_option maxHeartbeats 400000 in
theorem sqrt64_any (x : Int) (h0 : 0 ≤ x) (h1 : x ≤ 18446744073709551615) (w : World) :
    Calls Try.prog 10 #[.int .u64 x] w fun e w' => e = .returned (.int .u64 (sqrtv x)) ∧ Below w.heap.size w w' := by
  have eh : hiw x = 0 := by unfold hiw; omega
  have el : low x = x := by unfold low; omega
  have C := fun w => sqrt_any x ⟨h0, by omega⟩ w
  rw [eh, el] at C
  go_enter Try.func10, Try.ntmps10
  go_wp2_with fail
  refine (C _).mono ?_
  rintro e w1 ⟨rfl, hw1⟩
  go_wp2
  go_ret
  exact ⟨rfl, by go_grown⟩
set_option maxHeartbeats 400000 in
theorem mean_any (x y : Int) (hx0 : 0 ≤ x) (hx1 : x ≤ 18446744073709551615) (hy0 : 0 ≤ y) (hy1 : y ≤ 18446744073709551615) (w : World) :
    Calls Try.prog 16 #[.int .u64 x, .int .u64 y] w fun e w' => e = .returned (.int .u64 (sqrtv (x * y))) ∧ Below w.heap.size w w' := by
  go_enter Try.func16, Try.ntmps16
  go_wp2_with fail
  refine (mul_any x y hx0 hx1 hy0 hy1 _).mono ?_
  rintro e w1 ⟨rfl, hw1⟩
  go_wp2_with fail
  refine (sqrt_any (x * y) (mul_lt hx0 hx1 hy0 hy1) _).mono ?_
  rintro e w2 ⟨rfl, hw2⟩
  go_wp2
  go_ret
  exact ⟨rfl, Below.call hw1 hw1.size hw2⟩
theorem root_parts (a : Int) : 0 ≤ max (clampv a) 0 ∧ max (clampv a) 0 ≤ 4611686018427387904 ∧ sqrtv (max (clampv a) 0 * 1048576) = rootv a := by
  have b := clampv_bd a
  refine ⟨by omega, by omega, ?_⟩
  unfold rootv
  by_cases h : a ≤ 0
  · rw [if_pos h]
    have : clampv a ≤ 0 := by unfold clampv; split; omega; split <;> omega
    rw [show max (clampv a) 0 * 1048576 = 0 by omega]; decide +kernel
  · rw [if_neg h]
    have : 0 ≤ clampv a := by unfold clampv; split; omega; split <;> omega
    rw [show max (clampv a) 0 = clampv a by omega]
set_option maxHeartbeats 800000 in
theorem root_any (a : Int) (w : World) :
    Calls Try.prog 14 #[.int .i64 a] w fun e w' => e = .returned (.int .i64 (rootv a)) ∧ Below w.heap.size w w' := by
  obtain ⟨m0, m1, E⟩ := root_parts a
  have rb := rootv_bd a
  have C := fun w => clamp_any a w
  have M : ∀ m, m = max (clampv a) 0 → ∀ w, Calls Try.prog 19 #[.int .u64 m, .int .u64 1048576] w fun e w' => e = .returned (.agg #[.int .u64 (hiw (m * 1048576)), .int .u64 (low (m * 1048576))]) ∧ Below w.heap.size w w' := by
    intro m hm w; subst hm
    exact mul_any (max (clampv a) 0) 1048576 m0 (by omega) (by omega) (by omega) w
  have S : ∀ m, m = max (clampv a) 0 → ∀ w, Calls Try.prog 8 #[.agg #[.int .u64 (hiw (m * 1048576)), .int .u64 (low (m * 1048576))]] w fun e w' => e = .returned (.int .u64 (rootv a)) ∧ Below w.heap.size w w' := by
    intro m hm w; subst hm
    rw [← E]
    exact sqrt_any (max (clampv a) 0 * 1048576) ⟨by omega, by omega⟩ w
  clear E
  generalize clampv a = c at *
  generalize rootv a = r at *
  go_enter Try.func14, Try.ntmps14
  go_wp2_with fail
  refine (C _).mono ?_
  rintro e w1 ⟨rfl, hw1⟩
  subst hw1
  go_wp2_with fail
  · refine (M 0 (by omega) _).mono ?_
    rintro e w2 ⟨rfl, hw2⟩
    go_wp2_with fail
    refine (S 0 (by omega) _).mono ?_
    rintro e w3 ⟨rfl, hw3⟩
    go_wp2
    go_ret
    exact ⟨rfl, Below.call hw2 hw2.size hw3⟩
  · refine (M c (by omega) _).mono ?_
    rintro e w2 ⟨rfl, hw2⟩
    go_wp2_with fail
    refine (S c (by omega) _).mono ?_
    rintro e w3 ⟨rfl, hw3⟩
    go_wp2
    go_ret
    exact ⟨rfl, Below.call hw2 hw2.size hw3⟩
end Go.Proofs.Ytjofnopidfohhaa
