/-
  Plain arithmetic beneath shifts, products, quotients and lengths of numbers of 128 bits, bit by bit. No Go and no program in this text. No conditions.
-/
import Derived.Test.YtahlphbgnhklaaaA
namespace Go.Proofs.Ytahlphbgnhklaaa
set_option linter.unusedVariables false

/-! ### Shifts -/
def leftv (a n : Int) : Int := if n < 0 then a else if 127 < n then 0 else a * p2 n % 340282366920938463463374607431768211456
def rightv (a n : Int) : Int := if n < 0 then a else if 127 < n then 0 else a / p2 n
theorem leftv_W {a : Int} (h : W128 a) (n : Int) : W128 (leftv a n) := by
  unfold leftv; split
  · exact h
  · split <;> unfold W128 <;> omega
theorem rightv_W {a : Int} (h : W128 a) (n : Int) : W128 (rightv a n) := by
  unfold rightv; split
  · exact h
  · split
    · unfold W128; omega
    · have hp := p2_pos n
      obtain ⟨h0, h1⟩ := h
      exact ⟨Int.ediv_nonneg h0 (by omega), Int.lt_of_le_of_lt (Int.ediv_le_self _ h0) h1⟩
theorem mod_lt (a k : Int) : 0 ≤ a % p2 k ∧ a % p2 k < p2 k := ⟨Int.emod_nonneg _ (by have := p2_pos k; omega), Int.emod_lt_of_pos _ (p2_pos k)⟩
theorem mod_bit (a : Int) {k : Int} (hk : 0 ≤ k) : a % p2 (k + 1) = a % p2 k + p2 k * bitv a k := by
  rw [p2_succ hk, mod_step a _ (p2_pos k)]; rfl
theorem M_128 : (340282366920938463463374607431768211456 : Int) = p2 128 := p2_128.symm

structure LeftAt (a n k o : Int) : Prop where
  eq : o = a % p2 k * p2 n % p2 128
theorem LeftAt.zero (a n : Int) : LeftAt a n 0 0 := ⟨by rw [p2_0, Int.emod_one, Int.zero_mul]; rfl⟩
theorem LeftAt.small {a n k o : Int} (h : LeftAt a n k o) (hk : 0 ≤ k) (hn : 0 ≤ n) (hs : k + n ≤ 128) : o = a % p2 k * p2 n ∧ 0 ≤ o ∧ o < p2 (k + n) := by
  obtain ⟨m0, m1⟩ := mod_lt a k
  have pn := p2_pos n
  have x0 := Int.mul_nonneg m0 (show 0 ≤ p2 n by omega)
  have x1 : a % p2 k * p2 n < p2 (k + n) := by rw [p2_add hk hn]; exact Int.mul_lt_mul_of_pos_right m1 pn
  have le := p2_le (show 0 ≤ k + n by omega) hs
  have e : o = a % p2 k * p2 n := by rw [h.eq]; exact Int.emod_eq_of_lt x0 (by omega)
  exact ⟨e, by omega, by omega⟩
theorem LeftAt.set {a n k o : Int} (h : LeftAt a n k o) (hk : 0 ≤ k) (hn : 0 ≤ n) (hs : k + n < 128) (hb : bitv a k = 1) : LeftAt a n (k + 1) (o + p2 (k + n)) := by
  obtain ⟨e, o0, o1⟩ := h.small hk hn (by omega)
  have le := p2_le (show 0 ≤ k + n + 1 by omega) (show k + n + 1 ≤ 128 by omega)
  rw [p2_succ (by omega)] at le
  have pn := p2_pos (k + n)
  refine ⟨?_⟩
  rw [mod_bit a hk, hb, Int.mul_one, Int.add_mul, ← e, ← p2_add hk hn]
  exact (Int.emod_eq_of_lt (by omega) (by omega)).symm
theorem LeftAt.keep {a n k o : Int} (h : LeftAt a n k o) (hk : 0 ≤ k) (hn : 0 ≤ n) (hb : ¬ (k + n < 128 ∧ bitv a k = 1)) : LeftAt a n (k + 1) o := by
  refine ⟨?_⟩
  rw [mod_bit a hk, h.eq]
  rcases bitv_or a k with hz | hz
  · rw [hz, Int.mul_zero, Int.add_zero]
  · rw [hz, Int.mul_one, Int.add_mul, ← p2_add hk hn]
    have e : p2 (k + n) = p2 128 * p2 (k + n - 128) := p2_sub (by omega) (by omega)
    rw [e, Int.add_mul_emod_self_left]
theorem LeftAt.done {a n o : Int} (ha : W128 a) (h0 : 0 ≤ n) (h1 : n < 128) (h : LeftAt a n 128 o) : o = leftv a n := by
  rw [h.eq, ha.mod]; unfold leftv
  rw [if_neg (by omega), if_neg (by omega), M_128]
theorem LeftAt.W {a n k o : Int} (h : LeftAt a n k o) : W128 o := by
  rw [h.eq]; unfold W128; rw [p2_128]; omega

structure RightAt (a n k o : Int) : Prop where
  eq : o = a % p2 k / p2 n
theorem RightAt.zero (a n : Int) : RightAt a n 0 0 := ⟨by rw [p2_0, Int.emod_one, Int.zero_ediv]⟩
theorem RightAt.low {a n k o : Int} (h : RightAt a n k o) (hk : 0 ≤ k) (hn : 0 ≤ n) (hs : n ≤ k) : 0 ≤ o ∧ o < p2 (k - n) := by
  obtain ⟨m0, m1⟩ := mod_lt a k
  have pn := p2_pos n
  rw [h.eq]
  refine ⟨Int.ediv_nonneg m0 (by omega), Int.ediv_lt_of_lt_mul pn ?_⟩
  rw [Int.mul_comm, ← p2_sub hn hs]; exact m1
theorem RightAt.set {a n k o : Int} (h : RightAt a n k o) (hk : 0 ≤ k) (hn : 0 ≤ n) (hs : n ≤ k) (hb : bitv a k = 1) : RightAt a n (k + 1) (o + p2 (k - n)) := by
  refine ⟨?_⟩
  have pn := p2_pos n
  rw [mod_bit a hk, hb, Int.mul_one, h.eq, p2_sub hn hs, Int.add_mul_ediv_left _ _ (by omega)]
theorem RightAt.keep {a n k o : Int} (h : RightAt a n k o) (hk : 0 ≤ k) (hn : 0 ≤ n) (hb : ¬ (n ≤ k ∧ bitv a k = 1)) : RightAt a n (k + 1) o := by
  refine ⟨?_⟩
  rcases bitv_or a k with hz | hz
  · rw [mod_bit a hk, h.eq, hz, Int.mul_zero, Int.add_zero]
  · obtain ⟨m0, m1⟩ := mod_lt a k
    obtain ⟨l0, l1⟩ := mod_lt a (k + 1)
    have lt : k < n := by omega
    have le := p2_le (show 0 ≤ k + 1 by omega) (show k + 1 ≤ n by omega)
    have le' := p2_le hk (show k ≤ n by omega)
    rw [h.eq, Int.ediv_eq_zero_of_lt m0 (by omega), Int.ediv_eq_zero_of_lt l0 (by omega)]
theorem RightAt.done {a n o : Int} (ha : W128 a) (h0 : 0 ≤ n) (h1 : n < 128) (h : RightAt a n 128 o) : o = rightv a n := by
  rw [h.eq, ha.mod]; unfold rightv
  rw [if_neg (by omega), if_neg (by omega)]
theorem RightAt.W {a n k o : Int} (h : RightAt a n k o) (ha : W128 a) (hk : 0 ≤ k) (hk1 : k ≤ 128) (hn : 0 ≤ n) : W128 o := by
  obtain ⟨m0, m1⟩ := mod_lt a k
  have le := p2_le hk hk1
  rw [p2_128] at le
  have pn := p2_pos n
  rw [h.eq]
  exact ⟨Int.ediv_nonneg m0 (by omega), Int.lt_of_le_of_lt (Int.ediv_le_self _ m0) (by omega)⟩

/-! ### Products -/
theorem mul_lt {x y : Int} (hx : 0 ≤ x) (hx1 : x ≤ 18446744073709551615) (hy : 0 ≤ y) (hy1 : y ≤ 18446744073709551615) : W128 (x * y) := by
  have a := Int.mul_nonneg hx hy
  have b := Int.mul_le_mul hx1 hy1 hy (by omega)
  exact ⟨a, by omega⟩
structure MulAt (x y k o : Int) : Prop where
  eq : o = x * (y % p2 k)
theorem MulAt.zero (x y : Int) : MulAt x y 0 0 := ⟨by rw [p2_0, Int.emod_one, Int.mul_zero]⟩
theorem MulAt.W {x y k o : Int} (h : MulAt x y k o) (hx : 0 ≤ x) (hx1 : x ≤ 18446744073709551615) (hk : 0 ≤ k) (hk1 : k ≤ 64) : W128 o := by
  obtain ⟨m0, m1⟩ := mod_lt y k
  have le := p2_le hk hk1
  rw [p2_64] at le
  rw [h.eq]; exact mul_lt hx hx1 m0 (by omega)
theorem MulAt.set {x y k o : Int} (h : MulAt x y k o) (hx : 0 ≤ x) (hx1 : x ≤ 18446744073709551615) (hk : 0 ≤ k) (hk1 : k < 64) (hb : bitv y k = 1) : MulAt x y (k + 1) (addv o (leftv x k)) := by
  have le := p2_le hk (show k ≤ 63 by omega)
  have e63 : p2 63 = 9223372036854775808 := by decide +kernel
  have hp := p2_pos k
  have w1 := mul_lt hx hx1 (show 0 ≤ p2 k by omega) (show p2 k ≤ 18446744073709551615 by omega)
  have el : leftv x k = x * p2 k := by
    unfold leftv; rw [if_neg (by omega), if_neg (by omega)]
    exact Int.emod_eq_of_lt w1.1 w1.2
  have e2 : x * (y % p2 (k + 1)) = o + x * p2 k := by rw [mod_bit y hk, hb, Int.mul_one, Int.mul_add, ← h.eq]
  have w2 : W128 (x * (y % p2 (k + 1))) := MulAt.W ⟨rfl⟩ hx hx1 (show 0 ≤ k + 1 by omega) (by omega)
  refine ⟨?_⟩
  rw [el, e2]; rw [e2] at w2
  unfold addv; exact Int.emod_eq_of_lt w2.1 w2.2
theorem MulAt.keep {x y k o : Int} (h : MulAt x y k o) (hk : 0 ≤ k) (hb : ¬ bitv y k = 1) : MulAt x y (k + 1) o := by
  refine ⟨?_⟩
  have : bitv y k = 0 := by have := bitv_01 y k; omega
  rw [mod_bit y hk, this, Int.mul_zero, Int.add_zero, h.eq]
theorem MulAt.done {x y o : Int} (hy : 0 ≤ y) (hy1 : y ≤ 18446744073709551615) (h : MulAt x y 64 o) : o = x * y := by
  rw [h.eq, p2_64, Int.emod_eq_of_lt hy (by omega)]
theorem bit_small {y i : Int} (h0 : 0 ≤ y) : (y / 2 ^ i.toNat).tmod 2 = bitv y i := by
  have hp := p2_pos i
  rw [p2_toNat, Int.tmod_eq_emod_of_nonneg (Int.ediv_nonneg h0 (by omega))]; rfl

/-! ### Quotients -/
structure DivAt (a d k o r : Int) : Prop where
  q : o = a / p2 k / d * p2 k
  m : r = a / p2 k % d
theorem DivAt.start {a d : Int} (ha : W128 a) (hd : 0 < d) : DivAt a d 128 0 0 := by
  have e : a / p2 128 = 0 := by rw [p2_128]; obtain ⟨_, _⟩ := ha; omega
  exact ⟨by rw [e, Int.zero_ediv, Int.zero_mul], by rw [e, Int.zero_emod]⟩
theorem DivAt.r_lt {a d k o r : Int} (h : DivAt a d k o r) (hd : 0 < d) : 0 ≤ r ∧ r < d := by
  rw [h.m]; exact ⟨Int.emod_nonneg _ (by omega), Int.emod_lt_of_pos _ hd⟩
theorem DivAt.W {a d k o r : Int} (h : DivAt a d k o r) (ha : W128 a) (hd : 0 < d) : W128 o := by
  have hp := p2_pos k
  obtain ⟨h0, h1⟩ := ha
  have q0 := Int.ediv_nonneg h0 (show 0 ≤ p2 k by omega)
  have q1 := Int.ediv_le_self d q0
  have a1 := Int.ediv_mul_le a (show p2 k ≠ 0 by omega)
  have b1 := Int.mul_le_mul_of_nonneg_right q1 (show 0 ≤ p2 k by omega)
  have b0 := Int.mul_nonneg (Int.ediv_nonneg q0 (show 0 ≤ d by omega)) (show 0 ≤ p2 k by omega)
  rw [h.q]; exact ⟨b0, by omega⟩
theorem DivAt.bit {a d k o r : Int} (h : DivAt a d (k + 1) o r) (hk : 0 ≤ k) : bitv o k = 0 := by
  have hp := p2_pos k
  rw [h.q, p2_succ hk]
  unfold bitv
  rw [← Int.mul_assoc, Int.mul_ediv_cancel _ (show p2 k ≠ 0 by omega)]
  omega
theorem DivAt.sub {a d k o r x : Int} (h : DivAt a d (k + 1) o r) (hk : 0 ≤ k) (hd : 0 < d) (hx : x = 2 * r + bitv a k) (hge : d ≤ x) : DivAt a d k (o + p2 k) (x - d) := by
  have r0 := h.r_lt hd
  have hb := bitv_01 a k
  have e0 := div_step a (p2 k) (p2_pos k)
  rw [← p2_succ hk] at e0
  change a / p2 k = 2 * (a / p2 (k + 1)) + bitv a k at e0
  have e1 := Int.emod_add_mul_ediv (a / p2 (k + 1)) d
  rw [← h.m] at e1
  have e2 : a / p2 k = (x - d) + d * (2 * (a / p2 (k + 1) / d) + 1) := by
    have e3 : d * (2 * (a / p2 (k + 1) / d) + 1) = 2 * (d * (a / p2 (k + 1) / d)) + d := by rw [Int.mul_add, Int.mul_one, Int.mul_left_comm]
    rw [e3]; omega
  have := dm_of e2 (by omega) (by omega)
  refine ⟨?_, this.2.symm⟩
  rw [this.1, h.q, p2_succ hk, Int.add_mul, Int.one_mul, Int.mul_comm 2 (p2 k), ← Int.mul_assoc, Int.mul_comm 2, Int.mul_right_comm]
theorem DivAt.keep {a d k o r x : Int} (h : DivAt a d (k + 1) o r) (hk : 0 ≤ k) (hd : 0 < d) (hx : x = 2 * r + bitv a k) (hlt : x < d) : DivAt a d k o x := by
  have r0 := h.r_lt hd
  have hb := bitv_01 a k
  have e0 := div_step a (p2 k) (p2_pos k)
  rw [← p2_succ hk] at e0
  change a / p2 k = 2 * (a / p2 (k + 1)) + bitv a k at e0
  have e1 := Int.emod_add_mul_ediv (a / p2 (k + 1)) d
  rw [← h.m] at e1
  have e2 : a / p2 k = x + d * (2 * (a / p2 (k + 1) / d)) := by
    have e3 : d * (2 * (a / p2 (k + 1) / d)) = 2 * (d * (a / p2 (k + 1) / d)) := by rw [Int.mul_left_comm]
    rw [e3]; omega
  have := dm_of e2 (by omega) (by omega)
  refine ⟨?_, this.2.symm⟩
  rw [this.1, h.q, p2_succ hk, Int.mul_comm 2 (p2 k), ← Int.mul_assoc, Int.mul_comm 2, Int.mul_right_comm]
theorem DivAt.done {a d o r : Int} (h : DivAt a d 0 o r) : o = a / d ∧ r = a % d := by
  obtain ⟨q, m⟩ := h
  rw [p2_0, Int.ediv_one] at *
  omega

/-! ### Lengths -/
def lenv (a : Int) : Int := if a ≤ 0 then 0 else (Nat.log2 a.toNat : Int) + 1
theorem lenv_of {a k : Int} (hk : 0 ≤ k) (h0 : p2 k ≤ a) (h1 : a < p2 (k + 1)) : lenv a = k + 1 := by
  have hp := p2_pos k
  unfold lenv
  rw [if_neg (by omega)]
  have : Nat.log2 a.toNat = k.toNat := by
    rw [Nat.log2_eq_iff (by omega)]
    unfold p2 at h0 h1
    rw [show (k + 1).toNat = k.toNat + 1 by omega] at h1
    have e : ((2 ^ k.toNat : Nat) : Int) = (2 : Int) ^ k.toNat := by simp
    have e' : ((2 ^ (k.toNat + 1) : Nat) : Int) = (2 : Int) ^ (k.toNat + 1) := by simp
    omega
  rw [this]; omega
theorem lenv_0 : lenv 0 = 0 := rfl
theorem lenv_spec {a : Int} (h : 0 < a) : 1 ≤ lenv a ∧ p2 (lenv a - 1) ≤ a ∧ a < p2 (lenv a) := by
  have h1 : 2 ^ Nat.log2 a.toNat ≤ a.toNat := Nat.log2_self_le (by omega)
  have h2 : a.toNat < 2 ^ (Nat.log2 a.toNat + 1) := Nat.lt_log2_self
  unfold lenv
  rw [if_neg (by omega)]
  unfold p2
  rw [show ((Nat.log2 a.toNat : Int) + 1 - 1).toNat = Nat.log2 a.toNat by omega, show ((Nat.log2 a.toNat : Int) + 1).toNat = Nat.log2 a.toNat + 1 by omega]
  have e : ((2 ^ Nat.log2 a.toNat : Nat) : Int) = (2 : Int) ^ Nat.log2 a.toNat := by simp
  have e' : ((2 ^ (Nat.log2 a.toNat + 1) : Nat) : Int) = (2 : Int) ^ (Nat.log2 a.toNat + 1) := by simp
  omega
theorem p2_mono_lt {i j : Int} (h : 0 ≤ i) (hj : 0 ≤ j) (k : p2 i < p2 j) : i < j := by
  rcases Int.lt_or_le i j with x | x
  · exact x
  · have := p2_le hj x; omega
theorem lenv_bd {a : Int} (h : W128 a) : 0 ≤ lenv a ∧ lenv a ≤ 128 := by
  obtain ⟨h0, h1⟩ := h
  rcases Int.lt_or_le 0 a with x | x
  · obtain ⟨s0, s1, s2⟩ := lenv_spec x
    have : lenv a - 1 < 128 := p2_mono_lt (by omega) (by omega) (by rw [p2_128]; omega)
    omega
  · have : a = 0 := by omega
    rw [this, lenv_0]; omega
theorem lenv_64 {a : Int} (h0 : 0 ≤ a) (h1 : a ≤ 18446744073709551615) : 0 ≤ lenv a ∧ lenv a ≤ 64 := by
  rcases Int.lt_or_le 0 a with x | x
  · obtain ⟨s0, s1, s2⟩ := lenv_spec x
    have : lenv a - 1 < 64 := p2_mono_lt (by omega) (by omega) (by rw [p2_64]; omega)
    omega
  · have : a = 0 := by omega
    rw [this, lenv_0]; omega
theorem lenv_up {a : Int} (h : W128 a) (hh : hiw a ≠ 0) : lenv a = 64 + lenv (hiw a) := by
  have b := hiw_bd h
  obtain ⟨s0, s1, s2⟩ := lenv_spec (show 0 < hiw a by omega)
  have lb := low_bd a
  have e := vv_hl a
  unfold vv at e
  have e1 : p2 (63 + lenv (hiw a)) = 18446744073709551616 * p2 (lenv (hiw a) - 1) := by rw [← p2_64, ← p2_add (by omega) (by omega)]; congr 1; omega
  have e2 : p2 (63 + lenv (hiw a) + 1) = 18446744073709551616 * p2 (lenv (hiw a)) := by rw [← p2_64, ← p2_add (by omega) (by omega)]; congr 1; omega
  rw [lenv_of (k := 63 + lenv (hiw a)) (by omega) (by omega) (by omega)]; omega
theorem lenv_down {a : Int} (h : W128 a) (hh : hiw a = 0) : lenv a = lenv (low a) := by
  have e := vv_hl a
  unfold vv at e
  rw [hh] at e
  congr 1; omega
theorem len_found {a k : Int} (h0 : 0 ≤ a) (hk : 0 ≤ k) (h1 : a < p2 (k + 1)) (hb : bitv a k = 1) : lenv a = k + 1 := by
  refine lenv_of hk ?_ h1
  have hp := p2_pos k
  rcases Int.lt_or_le a (p2 k) with x | x
  · have := bit_below h0 x; omega
  · exact x
theorem len_next {a k : Int} (h0 : 0 ≤ a) (hk : 0 ≤ k) (h1 : a < p2 (k + 1)) (hb : ¬ bitv a k = 1) : a < p2 k := by
  have hp := p2_pos k
  rcases Int.lt_or_le a (p2 k) with x | x
  · exact x
  · rw [bitv_top h0 hk h1] at hb
    rw [p2_succ hk] at h1
    have := (dm_of (n := a) (d := p2 k) (q := 1) (r := a - p2 k) (by omega) (by omega) (by omega)).1
    omega
end Go.Proofs.Ytahlphbgnhklaaa
