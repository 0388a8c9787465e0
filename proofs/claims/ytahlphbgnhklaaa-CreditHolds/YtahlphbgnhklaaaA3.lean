/-
  Plain arithmetic beneath the program's shifts: two halves and what goes from one to the other. No program in this text. No conditions.
-/
import Derived.Test.YtahlphbgnhklaaaA2
import Derived.WalkKit
import Derived.Laws.BitsAllLaws
import Derived.Laws.Bits64b
namespace Go.Proofs.Ytahlphbgnhklaaa
set_option linter.unusedVariables false

theorem or_join {X Y i : Int} (x0 : 0 ≤ X) (x1 : X ≤ 18446744073709551615) (hx : X % p2 i = 0) (y0 : 0 ≤ Y) (y1 : Y < p2 i) (y2 : Y ≤ 18446744073709551615) : bits .or .u64 X Y = X + Y := by
  obtain ⟨x, rfl⟩ := Int.eq_ofNat_of_zero_le x0
  obtain ⟨y, rfl⟩ := Int.eq_ofNat_of_zero_le y0
  have e : p2 i = ((2 ^ i.toNat : Nat) : Int) := by unfold p2; simp
  rw [e] at hx y1
  rw [bits_or_u64_nat x y (by omega) (by omega), nat_join i.toNat x y (by omega) (by omega)]
  simp
theorem or_join' {X Y i : Int} (x0 : 0 ≤ X) (x1 : X ≤ 18446744073709551615) (hx : X % p2 i = 0) (y0 : 0 ≤ Y) (y1 : Y < p2 i) (y2 : Y ≤ 18446744073709551615) : bits .or .u64 Y X = X + Y := by
  obtain ⟨x, rfl⟩ := Int.eq_ofNat_of_zero_le x0
  obtain ⟨y, rfl⟩ := Int.eq_ofNat_of_zero_le y0
  have e : p2 i = ((2 ^ i.toNat : Nat) : Int) := by unfold p2; simp
  rw [e] at hx y1
  rw [bits_or_u64_nat y x (by omega) (by omega), Nat.or_comm, nat_join i.toNat x y (by omega) (by omega)]
  simp

/-- A number of 64 bits times a power of two: what goes over, and what stays. -/
theorem times_split {h n : Int} (n0 : 0 ≤ n) (n1 : n ≤ 64) (h0 : 0 ≤ h) :
    h * p2 n = h / p2 (64 - n) * 18446744073709551616 + h % p2 (64 - n) * p2 n ∧ 0 ≤ h % p2 (64 - n) * p2 n ∧ h % p2 (64 - n) * p2 n + p2 n ≤ 18446744073709551616 ∧ 0 ≤ h / p2 (64 - n) := by
  have eM : (18446744073709551616 : Int) = p2 (64 - n) * p2 n := by rw [← p2_add (by omega) n0, ← p2_64]; congr 1; omega
  have hp := p2_pos n
  have hq := p2_pos (64 - n)
  have r0 := Int.emod_nonneg h (show p2 (64 - n) ≠ 0 by omega)
  have r1 := Int.emod_lt_of_pos h hq
  have e := Int.emod_add_mul_ediv h (p2 (64 - n))
  refine ⟨?_, Int.mul_nonneg r0 (by omega), ?_, Int.ediv_nonneg h0 (by omega)⟩
  · have : h * p2 n = (h % p2 (64 - n) + p2 (64 - n) * (h / p2 (64 - n))) * p2 n := by rw [e]
    rw [this, Int.add_mul, Int.mul_comm (p2 (64 - n)), Int.mul_assoc, ← eM]; omega
  · have := Int.mul_le_mul_of_nonneg_right (show h % p2 (64 - n) ≤ p2 (64 - n) - 1 by omega) (show 0 ≤ p2 n by omega)
    rw [Int.sub_mul, Int.one_mul, ← eM] at this; omega
theorem times_mod {h n : Int} (n0 : 0 ≤ n) (n1 : n ≤ 64) (h0 : 0 ≤ h) : IntKind.u64.wrap (h * 2 ^ n.toNat) = h % p2 (64 - n) * p2 n := by
  obtain ⟨e, a, b, c⟩ := times_split n0 n1 h0
  have hp := p2_pos n
  rw [IntKind.wrap_u64, p2_toNat, e]; omega
theorem div_lt {l n : Int} (n0 : 0 ≤ n) (n1 : n ≤ 64) (l0 : 0 ≤ l) (l1 : l ≤ 18446744073709551615) : 0 ≤ l / p2 n ∧ l / p2 n < p2 (64 - n) := by
  have hp := p2_pos n
  have eM : (18446744073709551616 : Int) = p2 (64 - n) * p2 n := by rw [← p2_add (by omega) n0, ← p2_64]; congr 1; omega
  exact ⟨Int.ediv_nonneg l0 (by omega), Int.ediv_lt_of_lt_mul hp (by omega)⟩

theorem left_val {a n : Int} (ha : W128 a) (n0 : 0 ≤ n) (n1 : n < 64) :
    leftv a n = (hiw a % p2 (64 - n) * p2 n + low a / p2 (64 - n)) * 18446744073709551616 + low a % p2 (64 - n) * p2 n := by
  have hb := hiw_bd ha
  have lb := low_bd a
  obtain ⟨e, x0, x1, x2⟩ := times_split n0 (by omega) hb.1
  obtain ⟨e', y0, y1, y2⟩ := times_split n0 (by omega) lb.1
  have d := div_lt (l := low a) (n := 64 - n) (by omega) (by omega) lb.1 lb.2
  rw [show 64 - (64 - n) = n by omega] at d
  have hp := p2_pos n
  unfold leftv
  rw [if_neg (by omega), if_neg (by omega)]
  have ea : a * p2 n = hiw a * p2 n * 18446744073709551616 + low a * p2 n := by
    have := vv_hl a; unfold vv at this
    have h2 : a * p2 n = (hiw a * 18446744073709551616 + low a) * p2 n := by rw [this]
    rw [h2, Int.add_mul, Int.mul_right_comm]
  rw [ea, e, e']
  omega
theorem left_hi {a n : Int} (ha : W128 a) (n0 : 0 ≤ n) (n1 : n < 64) :
    bits .or .u64 (IntKind.u64.wrap (hiw a * 2 ^ n.toNat)) (low a / 2 ^ (64 - n).toNat) = hiw (leftv a n) ∧ IntKind.u64.wrap (low a * 2 ^ n.toNat) = low (leftv a n) := by
  have hb := hiw_bd ha
  have lb := low_bd a
  obtain ⟨e, x0, x1, x2⟩ := times_split n0 (by omega) hb.1
  obtain ⟨e', y0, y1, y2⟩ := times_split n0 (by omega) lb.1
  have d := div_lt (l := low a) (n := 64 - n) (by omega) (by omega) lb.1 lb.2
  rw [show 64 - (64 - n) = n by omega] at d
  have hp := p2_pos n
  rw [times_mod n0 (by omega) hb.1, times_mod n0 (by omega) lb.1, p2_toNat, left_val ha n0 n1]
  rw [or_join (i := n) x0 (by omega) (Int.mul_emod_left _ _) d.1 d.2 (by omega)]
  unfold hiw low at *
  omega
theorem left_far {a n : Int} (ha : W128 a) (n0 : 64 ≤ n) : IntKind.u64.wrap (low a * 2 ^ min (n - 64).toNat 64) = hiw (leftv a n) ∧ 0 = low (leftv a n) := by
  have lb := low_bd a
  have hp := p2_pos (n - 64)
  unfold leftv
  rw [if_neg (by omega)]
  split
  · rw [Nat.min_eq_right (by omega)]
    rw [IntKind.wrap_u64]; unfold hiw low; omega
  · rw [Nat.min_eq_left (by omega), p2_toNat, IntKind.wrap_u64]
    have eP : p2 n = p2 (n - 64) * 18446744073709551616 := by rw [← p2_64, ← p2_add (by omega) (by omega)]; congr 1; omega
    have ea : a * p2 n = low a * p2 (n - 64) * 18446744073709551616 + hiw a * p2 (n - 64) * 340282366920938463463374607431768211456 := by
      have := vv_hl a; unfold vv at this
      have h2 : a * p2 n = (hiw a * 18446744073709551616 + low a) * p2 n := by rw [this]
      rw [h2, eP, Int.add_mul, ← Int.mul_assoc, ← Int.mul_assoc, Int.mul_right_comm (hiw a)]; omega
    rw [ea]
    generalize low a * p2 (n - 64) = u
    generalize hiw a * p2 (n - 64) = v
    unfold hiw low
    omega
theorem right_val {a n : Int} (ha : W128 a) (n0 : 0 ≤ n) (n1 : n < 64) :
    rightv a n = hiw a / p2 n * 18446744073709551616 + (hiw a % p2 n * p2 (64 - n) + low a / p2 n) := by
  have hb := hiw_bd ha
  have lb := low_bd a
  have hp := p2_pos n
  obtain ⟨e, x0, x1, x2⟩ := times_split (h := hiw a) (n := 64 - n) (by omega) (by omega) hb.1
  rw [show 64 - (64 - n) = n by omega] at e x0 x1 x2
  have eM : (18446744073709551616 : Int) = p2 n * p2 (64 - n) := by rw [← p2_add n0 (by omega), ← p2_64]; congr 1; omega
  unfold rightv
  rw [if_neg (by omega), if_neg (by omega)]
  have ea : a = low a + p2 n * (hiw a * p2 (64 - n)) := by
    have := vv_hl a; unfold vv at this
    rw [Int.mul_left_comm, ← eM]; omega
  have h2 : a / p2 n = (low a + p2 n * (hiw a * p2 (64 - n))) / p2 n := by rw [← ea]
  rw [h2, Int.add_mul_ediv_left _ _ (by omega), e]
  omega
theorem right_lo {a n : Int} (ha : W128 a) (n0 : 0 ≤ n) (n1 : n < 64) :
    bits .or .u64 (low a / 2 ^ n.toNat) (IntKind.u64.wrap (hiw a * 2 ^ (64 - n).toNat)) = low (rightv a n) ∧ hiw a / 2 ^ n.toNat = hiw (rightv a n) := by
  have hb := hiw_bd ha
  have lb := low_bd a
  have hp := p2_pos n
  obtain ⟨e, x0, x1, x2⟩ := times_split (h := hiw a) (n := 64 - n) (by omega) (by omega) hb.1
  rw [show 64 - (64 - n) = n by omega] at e x0 x1 x2
  have d := div_lt (l := low a) (n := n) (by omega) (by omega) lb.1 lb.2
  have hq := p2_pos (64 - n)
  have tm := times_mod (h := hiw a) (n := 64 - n) (by omega) (by omega) hb.1
  rw [show 64 - (64 - n) = n by omega] at tm
  rw [tm, p2_toNat, right_val ha n0 n1]
  rw [or_join' (i := 64 - n) x0 (by omega) (Int.mul_emod_left _ _) d.1 d.2 (by omega)]
  have q := Int.ediv_nonneg hb.1 (show 0 ≤ p2 n by omega)
  generalize hiw a / p2 n = u at *
  generalize hiw a % p2 n * p2 (64 - n) = v at *
  generalize low a / p2 n = t at *
  unfold hiw low
  omega
theorem right_far {a n : Int} (ha : W128 a) (n0 : 64 ≤ n) : hiw a / 2 ^ min (n - 64).toNat 64 = low (rightv a n) ∧ 0 = hiw (rightv a n) := by
  have hb := hiw_bd ha
  unfold rightv
  rw [if_neg (by omega)]
  split
  · rw [Nat.min_eq_right (by omega)]
    unfold hiw low at *; omega
  · rw [Nat.min_eq_left (by omega), p2_toNat]
    have hp := p2_pos (n - 64)
    have eP : p2 n = 18446744073709551616 * p2 (n - 64) := by rw [← p2_64, ← p2_add (by omega) (by omega)]; congr 1; omega
    have ea : a / p2 n = hiw a / p2 (n - 64) := by rw [eP, ← Int.ediv_ediv_of_nonneg (by omega)]; rfl
    rw [ea]
    have q0 := Int.ediv_nonneg hb.1 (show 0 ≤ p2 (n - 64) by omega)
    have q1 := Int.ediv_le_self (p2 (n - 64)) hb.1
    generalize hiw a / p2 (n - 64) = u at *
    generalize hiw a = v at *
    unfold hiw low; omega
end Go.Proofs.Ytahlphbgnhklaaa
