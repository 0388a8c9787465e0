/-
  Plain arithmetic beneath square roots: the greatest number whose square is not above a number, pair by pair of its bits. No Go and no program in this text. No conditions.
-/
import Derived.Test.YtahlphbgnhklaaaA2
namespace Go.Proofs.Ytahlphbgnhklaaa
set_option linter.unusedVariables false

/-! ### The root, and that there is no other -/
def isq : Nat → Nat → Nat
  | 0, _ => 0
  | k + 1, a => let s := 2 * isq k (a / 4); if (s + 1) * (s + 1) ≤ a then s + 1 else s
theorem isq_spec (k a : Nat) (h : a < 4 ^ k) : isq k a * isq k a ≤ a ∧ a < (isq k a + 1) * (isq k a + 1) := by
  induction k generalizing a with
  | zero => have : a = 0 := by simpa using h
            subst this; simp [isq]
  | succ k ih =>
    obtain ⟨i0, i1⟩ := ih (a / 4) (by rw [Nat.pow_succ] at h; omega)
    generalize hr : isq k (a / 4) = r at i0 i1
    have e1 : (2 * r) * (2 * r) = 4 * (r * r) := by rw [Nat.mul_mul_mul_comm]
    have e2 : (2 * r + 1 + 1) * (2 * r + 1 + 1) = 4 * ((r + 1) * (r + 1)) := by
      rw [show 2 * r + 1 + 1 = 2 * (r + 1) by omega, Nat.mul_mul_mul_comm]
    simp only [isq, hr]
    split
    · rename_i hs
      exact ⟨hs, by omega⟩
    · rename_i hs
      exact ⟨by omega, by omega⟩
/-- The root of a number of 128 bits. -/
def sqrtv (a : Int) : Int := (isq 64 a.toNat : Int)
theorem sqrtv_spec {a : Int} (h : W128 a) : 0 ≤ sqrtv a ∧ sqrtv a * sqrtv a ≤ a ∧ a < (sqrtv a + 1) * (sqrtv a + 1) := by
  obtain ⟨h0, h1⟩ := h
  have e4 : (4 : Nat) ^ 64 = 340282366920938463463374607431768211456 := by decide +kernel
  obtain ⟨s0, s1⟩ := isq_spec 64 a.toNat (by rw [e4]; omega)
  unfold sqrtv
  generalize isq 64 a.toNat = s at *
  have c0 : ((s * s : Nat) : Int) = (s : Int) * s := Int.natCast_mul s s
  have c1 : (((s + 1) * (s + 1) : Nat) : Int) = ((s : Int) + 1) * (s + 1) := by rw [Int.natCast_mul]; simp
  refine ⟨by omega, ?_, ?_⟩
  · rw [← c0]; omega
  · rw [← c1]; omega
theorem sq_le {s t : Int} (h0 : 0 ≤ s) (h : s ≤ t) : s * s ≤ t * t := Int.mul_le_mul h h h0 (by omega)
theorem sq_lt_of {s t : Int} (h0 : 0 ≤ t) (h : s * s < t * t) : s < t := by
  rcases Int.lt_or_le s t with x | x
  · exact x
  · have := sq_le h0 x; omega
theorem root_one {a s t : Int} (s0 : 0 ≤ s) (t0 : 0 ≤ t) (s1 : s * s ≤ a) (s2 : a < (s + 1) * (s + 1)) (t1 : t * t ≤ a) (t2 : a < (t + 1) * (t + 1)) : s = t := by
  have a1 := sq_lt_of (s := s) (t := t + 1) (by omega) (by omega)
  have a2 := sq_lt_of (s := t) (t := s + 1) (by omega) (by omega)
  omega
theorem sqrtv_of {a s : Int} (h : W128 a) (s0 : 0 ≤ s) (s1 : s * s ≤ a) (s2 : a < (s + 1) * (s + 1)) : sqrtv a = s := by
  obtain ⟨r0, r1, r2⟩ := sqrtv_spec h
  exact root_one r0 s0 r1 r2 s1 s2
theorem sqrtv_64 {a : Int} (h : W128 a) : 0 ≤ sqrtv a ∧ sqrtv a ≤ 18446744073709551615 := by
  obtain ⟨r0, r1, r2⟩ := sqrtv_spec h
  have := sq_lt_of (s := sqrtv a) (t := 18446744073709551616) (by omega) (by have := h.2; omega)
  omega
theorem sqrtv_lt {a b : Int} (h : W128 a) (b0 : 0 ≤ b) (hb : a < b * b) : sqrtv a < b := by
  obtain ⟨r0, r1, r2⟩ := sqrtv_spec h
  exact sq_lt_of b0 (by omega)
theorem sqrtv_mono {a b : Int} (ha : W128 a) (hb : W128 b) (h : a ≤ b) : sqrtv a ≤ sqrtv b := by
  obtain ⟨r0, r1, r2⟩ := sqrtv_spec ha
  obtain ⟨t0, t1, t2⟩ := sqrtv_spec hb
  have := sq_lt_of (s := sqrtv a) (t := sqrtv b + 1) (by omega) (by omega)
  omega

/-! ### Pair by pair -/
def pairv (a i : Int) : Int := a / p2 (2 * i) % 4
theorem pairv_bd (a i : Int) : 0 ≤ pairv a i ∧ pairv a i ≤ 3 := by unfold pairv; omega
theorem pair_step (a : Int) {i : Int} (hi : 0 ≤ i) : a / p2 (2 * i) = 4 * (a / p2 (2 * (i + 1))) + pairv a i := by
  have hp := p2_pos (2 * i)
  have e : p2 (2 * (i + 1)) = p2 (2 * i) * 4 := by
    rw [show 2 * (i + 1) = 2 * i + 1 + 1 by omega, p2_succ (by omega), p2_succ (by omega)]; omega
  rw [e, ← Int.ediv_ediv_of_nonneg (by omega)]
  unfold pairv; omega
theorem pair_hi {a i : Int} (h : W128 a) (h0 : 32 ≤ i) : (hiw a / 2 ^ (2 * (i - 32)).toNat).tmod 4 = pairv a i := by
  have b := hiw_bd h
  have hp := p2_pos (2 * (i - 32))
  rw [p2_toNat]
  rw [Int.tmod_eq_emod_of_nonneg (Int.ediv_nonneg b.1 (by omega))]
  unfold pairv hiw
  have e : p2 (2 * i) = 18446744073709551616 * p2 (2 * (i - 32)) := by rw [← p2_64, ← p2_add (by omega) (by omega)]; congr 1; omega
  rw [e, ← Int.ediv_ediv_of_nonneg (by omega)]
theorem pair_lo {a i : Int} (h0 : 0 ≤ i) (h1 : i < 32) : (low a / 2 ^ (2 * i).toNat).tmod 4 = pairv a i := by
  have b := low_bd a
  have hp := p2_pos (2 * i)
  rw [p2_toNat]
  rw [Int.tmod_eq_emod_of_nonneg (Int.ediv_nonneg b.1 (by omega))]
  unfold pairv low
  have e : (18446744073709551616 : Int) = p2 (2 * i) * p2 (64 - 2 * i) := by rw [← p2_add (by omega) (by omega), ← p2_64]; congr 1; omega
  have e2 : p2 (64 - 2 * i) = 4 * p2 (62 - 2 * i) := by
    rw [show 64 - 2 * i = 62 - 2 * i + 1 + 1 by omega, p2_succ (by omega), p2_succ (by omega)]; omega
  rw [e, emod_mul _ _ _ hp (p2_pos _), Int.add_mul_ediv_left _ _ (by omega), div_zero_of (Int.emod_nonneg _ (by omega)) (Int.emod_lt_of_pos _ hp), Int.zero_add, e2, Int.emod_emod_of_dvd _ ⟨_, rfl⟩]

theorem sq_2 (s : Int) : (2 * s) * (2 * s) = 4 * (s * s) := by rw [Int.mul_assoc, Int.mul_left_comm s 2 s]; omega
/-- What is known of a root and what is left, when all pairs above k were taken. -/
structure RootAt (a k s r : Int) : Prop where
  s0 : 0 ≤ s
  s1 : s < p2 (64 - k)
  r0 : 0 ≤ r
  r1 : r ≤ 2 * s
  eq : a / p2 (2 * k) = s * s + r
theorem RootAt.start {a : Int} (h : W128 a) : RootAt a 64 0 0 := by
  refine ⟨by omega, by decide +kernel, by omega, by omega, ?_⟩
  have e : p2 (2 * 64) = p2 128 := rfl
  rw [e, p2_128]; obtain ⟨h0, h1⟩ := h; omega
theorem RootAt.one {a i s r : Int} (h : RootAt a (i + 1) s r) (hi : 0 ≤ i) (hi1 : i < 64) (hge : 4 * s + 1 ≤ 4 * r + pairv a i) : RootAt a i (2 * s + 1) (4 * r + pairv a i - (4 * s + 1)) := by
  obtain ⟨s0, s1, r0, r1, eq⟩ := h
  have hb := pairv_bd a i
  have e := pair_step a hi
  have e2 : p2 (64 - i) = 2 * p2 (64 - (i + 1)) := by rw [← p2_succ (by omega)]; congr 1; omega
  have e3 : (2 * s + 1) * (2 * s + 1) = 4 * (s * s) + 4 * s + 1 := by
    rw [Int.add_mul, Int.mul_add, sq_2]; omega
  exact ⟨by omega, by omega, by omega, by omega, by rw [e, eq, e3]; omega⟩
theorem RootAt.none {a i s r : Int} (h : RootAt a (i + 1) s r) (hi : 0 ≤ i) (hi1 : i < 64) (hlt : 4 * r + pairv a i < 4 * s + 1) : RootAt a i (2 * s) (4 * r + pairv a i) := by
  obtain ⟨s0, s1, r0, r1, eq⟩ := h
  have hb := pairv_bd a i
  have e := pair_step a hi
  have e2 : p2 (64 - i) = 2 * p2 (64 - (i + 1)) := by rw [← p2_succ (by omega)]; congr 1; omega
  have e3 := sq_2 s
  exact ⟨by omega, by omega, by omega, by omega, by rw [e, eq, e3]; omega⟩
theorem RootAt.small {a k s r : Int} (h : RootAt a k s r) (hk : 0 < k) (hk1 : k ≤ 64) : s ≤ 9223372036854775807 := by
  have := h.s1
  have le := p2_le (show 0 ≤ 64 - k by omega) (show 64 - k ≤ 63 by omega)
  have e63 : p2 63 = 9223372036854775808 := by decide +kernel
  omega
theorem RootAt.done {a s r : Int} (ha : W128 a) (h : RootAt a 0 s r) : s = sqrtv a := by
  obtain ⟨s0, s1, r0, r1, eq⟩ := h
  have e : a / p2 (2 * 0) = a := by rw [show (2 : Int) * 0 = 0 by omega, p2_0, Int.ediv_one]
  rw [e] at eq
  refine (sqrtv_of ha s0 (by omega) ?_).symm
  rw [Int.add_mul, Int.mul_add]; omega
end Go.Proofs.Ytahlphbgnhklaaa
