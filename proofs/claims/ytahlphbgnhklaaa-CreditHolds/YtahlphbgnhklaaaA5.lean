/-
  Plain arithmetic beneath layer 1's laws: sums taken away again, products divided, shifts there and back. No program in this text. No conditions.
-/
import Derived.Test.YtahlphbgnhklaaaA2
namespace Go.Proofs.Ytahlphbgnhklaaa
set_option linter.unusedVariables false

theorem add_sub {a b : Int} (ha : W128 a) (hb : W128 b) : subv (addv a b) b = a ∧ subc (addv a b) b = addc a b := by
  obtain ⟨_, _⟩ := ha; obtain ⟨_, _⟩ := hb
  unfold subv subc addv addc
  refine ⟨by omega, ?_⟩
  split <;> omega
theorem add_comm (a b : Int) : addv b a = addv a b ∧ addc b a = addc a b := by unfold addv addc; rw [Int.add_comm]; exact ⟨rfl, rfl⟩
theorem add_assoc (a b c : Int) : addv a (addv b c) = addv (addv a b) c := by unfold addv; omega
theorem add_over {a b : Int} (ha : W128 a) (hb : W128 b) : ((addc a b == 1) = true ∧ cmpv (addv a b) a < 0) ∨ ((addc a b == 1) = false ∧ ¬ cmpv (addv a b) a < 0) := by
  obtain ⟨_, _⟩ := ha; obtain ⟨_, _⟩ := hb
  unfold addc addv cmpv
  by_cases h : a + b < 340282366920938463463374607431768211456
  · right
    refine ⟨by simp; omega, ?_⟩
    rw [if_neg (by omega)]; split <;> omega
  · left
    refine ⟨by simp; omega, ?_⟩
    rw [if_pos (by omega)]; omega
theorem prod_add {x y m : Int} (hx : 0 ≤ x) (hx1 : x ≤ 18446744073709551615) (hy : 0 < y) (hy1 : y ≤ 18446744073709551615) (hm : 0 ≤ m) (hm1 : m < y) :
    addv (x * y) m = x * y + m ∧ addc (x * y) m = 0 ∧ W128 (x * y + m) ∧ (x * y + m) / y = x ∧ (x * y + m) % y = m := by
  have p0 := Int.mul_nonneg hx (show 0 ≤ y by omega)
  have p1 := Int.mul_le_mul hx1 hy1 (by omega) (by omega)
  have d := dm_of (n := x * y + m) (d := y) (q := x) (r := m) (by rw [Int.mul_comm x y]; omega) hm hm1
  unfold addv addc W128
  refine ⟨by omega, by omega, by omega, d.1, d.2⟩
theorem hiw_word {x : Int} (h0 : 0 ≤ x) (h1 : x ≤ 18446744073709551615) : hiw x = 0 ∧ low x = x := by unfold hiw low; omega
theorem right_len {a : Int} (ha : W128 a) : rightv a (lenv a) = 0 := by
  have l := lenv_bd ha
  obtain ⟨h0, h1⟩ := ha
  unfold rightv
  rw [if_neg (by omega)]
  split
  · rfl
  · rcases Int.lt_or_le 0 a with x | x
    · exact Int.ediv_eq_zero_of_lt h0 (lenv_spec x).2.2
    · have : a = 0 := by omega
      rw [this]; exact Int.zero_ediv _
theorem right_len1 {a : Int} (ha : W128 a) (hl : 0 < lenv a) : rightv a (lenv a - 1) = 1 := by
  have l := lenv_bd ha
  obtain ⟨h0, h1⟩ := ha
  have x : 0 < a := by
    rcases Int.lt_or_le 0 a with x | x
    · exact x
    · have : a = 0 := by omega
      rw [this, lenv_0] at hl; omega
  obtain ⟨s0, s1, s2⟩ := lenv_spec x
  have hp := p2_pos (lenv a - 1)
  have e := p2_succ (i := lenv a - 1) (by omega)
  rw [show lenv a - 1 + 1 = lenv a by omega] at e
  unfold rightv
  rw [if_neg (by omega), if_neg (by omega)]
  exact (dm_of (n := a) (d := p2 (lenv a - 1)) (q := 1) (r := a - p2 (lenv a - 1)) (by omega) (by omega) (by omega)).1
theorem left_one {a : Int} : leftv a 1 = addv a a := by
  unfold leftv addv
  have e : p2 1 = 2 := by decide +kernel
  rw [if_neg (by omega), if_neg (by omega), e]; omega
theorem kept_val {a n : Int} (ha : W128 a) (h0 : 0 ≤ n) (h1 : n ≤ 127) : rightv (leftv a n) n = a % p2 (128 - n) := by
  have hp := p2_pos n
  have hq := p2_pos (128 - n)
  have eM : (340282366920938463463374607431768211456 : Int) = p2 (128 - n) * p2 n := by rw [← p2_add (by omega) h0, ← p2_128]; congr 1; omega
  unfold rightv leftv
  rw [if_neg (by omega), if_neg (by omega), if_neg (by omega), if_neg (by omega), eM]
  have e : a * p2 n % (p2 (128 - n) * p2 n) = a % p2 (128 - n) * p2 n := by
    rw [Int.mul_comm a, Int.mul_comm (p2 (128 - n)), Int.mul_emod_mul_of_pos _ _ hp, Int.mul_comm]
  rw [e, Int.mul_ediv_cancel _ (by omega)]
theorem kept_le {a n : Int} (ha : W128 a) (h0 : 0 ≤ n) (h1 : n ≤ 127) : cmpv (rightv (leftv a n) n) a ≤ 0 := by
  rw [kept_val ha h0 h1]
  have hq := p2_pos (128 - n)
  have e := Int.emod_add_mul_ediv a (p2 (128 - n))
  have d := Int.mul_nonneg (show 0 ≤ p2 (128 - n) by omega) (Int.ediv_nonneg ha.1 (show 0 ≤ p2 (128 - n) by omega))
  unfold cmpv; split
  · omega
  · rw [if_neg (by omega)]; omega
theorem kept_iff {a n : Int} (ha : W128 a) (h0 : 0 ≤ n) (h1 : n ≤ 127) :
    (rightv (leftv a n) n = a ∧ lenv a ≤ 128 - n) ∨ (rightv (leftv a n) n ≠ a ∧ ¬ lenv a ≤ 128 - n) := by
  rw [kept_val ha h0 h1]
  have hq := p2_pos (128 - n)
  have l := lenv_bd ha
  obtain ⟨a0, a1⟩ := ha
  by_cases h : lenv a ≤ 128 - n
  · left
    refine ⟨?_, h⟩
    rcases Int.lt_or_le 0 a with x | x
    · have := p2_le l.1 h
      exact Int.emod_eq_of_lt a0 (by have := (lenv_spec x).2.2; omega)
    · have : a = 0 := by omega
      rw [this]; exact Int.zero_emod _
  · right
    refine ⟨?_, h⟩
    have x : 0 < a := by
      rcases Int.lt_or_le 0 a with x | x
      · exact x
      · have : a = 0 := by omega
        rw [this, lenv_0] at h; omega
    have s := (lenv_spec x).2.1
    have := p2_le (show 0 ≤ 128 - n by omega) (show 128 - n ≤ lenv a - 1 by omega)
    have := Int.emod_lt_of_pos a hq
    omega
end Go.Proofs.Ytahlphbgnhklaaa
