/-
  Plain arithmetic beneath the statements on numbers of 128 bits: halves, bits, powers of two, sums, products and quotients. No Go and no program in this text. No conditions.
-/
namespace Go.Proofs.Ytahlphbgnhklaaa
set_option linter.unusedVariables false

def hiw (v : Int) : Int := v / 18446744073709551616
def low (v : Int) : Int := v % 18446744073709551616
/-- The number that two halves make. -/
def vv (h l : Int) : Int := h * 18446744073709551616 + l
def W128 (a : Int) : Prop := 0 ≤ a ∧ a < 340282366920938463463374607431768211456
def p2 (i : Int) : Int := 2 ^ i.toNat
def bitv (v i : Int) : Int := v / p2 i % 2

theorem hiw_bd {a : Int} (h : W128 a) : 0 ≤ hiw a ∧ hiw a ≤ 18446744073709551615 := by
  obtain ⟨h0, h1⟩ := h; unfold hiw; omega
theorem low_bd (a : Int) : 0 ≤ low a ∧ low a ≤ 18446744073709551615 := by unfold low; omega
theorem vv_hl (a : Int) : vv (hiw a) (low a) = a := by unfold vv hiw low; omega
theorem hiw_vv {h l : Int} (h0 : 0 ≤ l) (h1 : l ≤ 18446744073709551615) : hiw (vv h l) = h := by unfold hiw vv; omega
theorem low_vv {h l : Int} (h0 : 0 ≤ l) (h1 : l ≤ 18446744073709551615) : low (vv h l) = l := by unfold low vv; omega
theorem vv_W {h l : Int} (a : 0 ≤ h) (b : h ≤ 18446744073709551615) (c : 0 ≤ l) (d : l ≤ 18446744073709551615) : W128 (vv h l) := by unfold W128 vv; omega
theorem wide_of (h l : Int) (a : 0 ≤ h) (b : h ≤ 18446744073709551615) (c : 0 ≤ l) (d : l ≤ 18446744073709551615) : ∃ v, W128 v ∧ h = hiw v ∧ l = low v :=
  ⟨vv h l, vv_W a b c d, (hiw_vv c d).symm, (low_vv c d).symm⟩
theorem hl_inj {a b : Int} (h : hiw a = hiw b) (l : low a = low b) : a = b := by rw [← vv_hl a, ← vv_hl b, h, l]

theorem p2_pos (i : Int) : 0 < p2 i := by unfold p2; exact Int.pow_pos (by omega)
theorem p2_0 : p2 0 = 1 := rfl
theorem p2_succ {i : Int} (h : 0 ≤ i) : p2 (i + 1) = 2 * p2 i := by
  unfold p2
  have : (i + 1).toNat = i.toNat + 1 := by omega
  rw [this, Int.pow_succ]; omega
theorem p2_add {i j : Int} (h : 0 ≤ i) (k : 0 ≤ j) : p2 (i + j) = p2 i * p2 j := by
  unfold p2
  have : (i + j).toNat = i.toNat + j.toNat := by omega
  rw [this, Int.pow_add]
theorem p2_64 : p2 64 = 18446744073709551616 := by decide +kernel
theorem p2_128 : p2 128 = 340282366920938463463374607431768211456 := by decide +kernel
theorem p2_le {i j : Int} (h : 0 ≤ i) (k : i ≤ j) : p2 i ≤ p2 j := by
  obtain ⟨d, rfl⟩ : ∃ d, j = i + d := ⟨j - i, by omega⟩
  rw [p2_add h (by omega)]
  have a := p2_pos i; have b := p2_pos d
  have := Int.mul_le_mul_of_nonneg_left (show (1 : Int) ≤ p2 d by omega) (show 0 ≤ p2 i by omega)
  omega
theorem p2_sub {i j : Int} (h : 0 ≤ i) (k : i ≤ j) : p2 j = p2 i * p2 (j - i) := by
  rw [← p2_add h (by omega)]; congr 1; omega
theorem p2_toNat {i : Int} : (2 : Int) ^ i.toNat = p2 i := rfl

theorem bitv_01 (v i : Int) : 0 ≤ bitv v i ∧ bitv v i ≤ 1 := by unfold bitv; omega
theorem bitv_or (v i : Int) : bitv v i = 0 ∨ bitv v i = 1 := by have := bitv_01 v i; omega

theorem dm_of {n d q r : Int} (h : n = r + d * q) (h0 : 0 ≤ r) (h1 : r < d) : n / d = q ∧ n % d = r := by
  have := (Int.ediv_emod_unique (a := n) (b := d) (r := r) (q := q) (by omega)).2 ⟨by omega, h0, h1⟩
  exact this
theorem emod_mul (a b c : Int) (hb : 0 < b) (hc : 0 < c) : a % (b * c) = a % b + b * (a / b % c) := by
  have e1 := Int.emod_add_mul_ediv a b
  have e2 := Int.emod_add_mul_ediv (a / b) c
  have r0 := Int.emod_nonneg a (show b ≠ 0 by omega)
  have r1 := Int.emod_lt_of_pos a hb
  have s0 := Int.emod_nonneg (a / b) (show c ≠ 0 by omega)
  have s1 := Int.emod_lt_of_pos (a / b) hc
  have m1 := Int.mul_le_mul_of_nonneg_left (show a / b % c ≤ c - 1 by omega) (show 0 ≤ b by omega)
  have m0 := Int.mul_nonneg (show 0 ≤ b by omega) s0
  rw [Int.mul_sub, Int.mul_one] at m1
  refine (dm_of (q := a / b / c) ?_ (by omega) (by omega)).2
  have e3 : b * (a / b) = b * (a / b % c) + b * c * (a / b / c) := by
    have : b * (a / b) = b * (a / b % c + c * (a / b / c)) := by rw [e2]
    rw [this, Int.mul_add, Int.mul_assoc]
  omega
/-- One bit more of a number. -/
theorem mod_step (a P : Int) (hP : 0 < P) : a % (2 * P) = a % P + P * (a / P % 2) := by
  have e : a % (2 * P) = a % (P * 2) := by rw [Int.mul_comm]
  rw [e, emod_mul _ _ _ hP (by omega)]
theorem div_step (a P : Int) (hP : 0 < P) : a / P = 2 * (a / (2 * P)) + a / P % 2 := by
  have e : a / (2 * P) = a / P / 2 := by rw [Int.mul_comm, Int.ediv_ediv_of_nonneg (by omega)]
  rw [e]; omega
theorem mod_self_of {n d : Int} (h0 : 0 ≤ n) (h1 : n < d) : n % d = n := Int.emod_eq_of_lt h0 h1
theorem div_zero_of {n d : Int} (h0 : 0 ≤ n) (h1 : n < d) : n / d = 0 := Int.ediv_eq_zero_of_lt h0 h1
theorem bit_below {o i : Int} (h0 : 0 ≤ o) (h1 : o < p2 i) : bitv o i = 0 := by
  unfold bitv; rw [div_zero_of h0 h1]; rfl
theorem bitv_top {a i : Int} (h0 : 0 ≤ a) (hi : 0 ≤ i) (h1 : a < p2 (i + 1)) : bitv a i = a / p2 i := by
  unfold bitv
  have hp := p2_pos i
  rw [p2_succ hi] at h1
  have : a / p2 i < 2 := Int.ediv_lt_of_lt_mul hp (by omega)
  have : 0 ≤ a / p2 i := Int.ediv_nonneg h0 (by omega)
  omega

/-- Both halves of a bit. -/
theorem bit_hi {a i : Int} (h : W128 a) (h0 : 64 ≤ i) : (hiw a / 2 ^ (i - 64).toNat).tmod 2 = bitv a i := by
  have b := hiw_bd h
  have hp := p2_pos (i - 64)
  rw [p2_toNat]
  rw [Int.tmod_eq_emod_of_nonneg (Int.ediv_nonneg b.1 (by omega))]
  unfold bitv hiw
  have e : p2 i = 18446744073709551616 * p2 (i - 64) := by rw [← p2_64, ← p2_add (by omega) (by omega)]; congr 1; omega
  rw [e, ← Int.ediv_ediv_of_nonneg (by omega)]
theorem bit_lo {a i : Int} (h : W128 a) (h0 : 0 ≤ i) (h1 : i < 64) : (low a / 2 ^ i.toNat).tmod 2 = bitv a i := by
  have b := low_bd a
  have hp := p2_pos i
  rw [p2_toNat]
  rw [Int.tmod_eq_emod_of_nonneg (Int.ediv_nonneg b.1 (by omega))]
  unfold bitv low
  have e : (18446744073709551616 : Int) = p2 i * p2 (64 - i) := by rw [← p2_add (by omega) (by omega), ← p2_64]; congr 1; omega
  have e2 : p2 (64 - i) = 2 * p2 (63 - i) := by rw [← p2_succ (by omega)]; congr 1; omega
  rw [e, emod_mul _ _ _ hp (p2_pos _), Int.add_mul_ediv_left _ _ (by omega), div_zero_of (Int.emod_nonneg _ (by omega)) (Int.emod_lt_of_pos _ hp), Int.zero_add, e2, Int.emod_emod_of_dvd _ ⟨_, rfl⟩]

/-- A sum, bit by bit. -/
def addv (a b : Int) : Int := (a + b) % 340282366920938463463374607431768211456
def addc (a b : Int) : Int := (a + b) / 340282366920938463463374607431768211456
structure AddAt (a b k o c : Int) : Prop where
  o0 : 0 ≤ o
  o1 : o < p2 k
  c01 : c = 0 ∨ c = 1
  eq : a % p2 k + b % p2 k = o + c * p2 k
theorem AddAt.zero (a b : Int) : AddAt a b 0 0 0 := ⟨by omega, by decide, .inl rfl, by simp [p2_0, Int.emod_one]⟩
theorem AddAt.step {a b k o c : Int} (hk : 0 ≤ k) (h : AddAt a b k o c) :
    ((bitv a k + bitv b k + c) % 2 = 1 → AddAt a b (k + 1) (o + p2 k) ((bitv a k + bitv b k + c) / 2)) ∧
    (¬ (bitv a k + bitv b k + c) % 2 = 1 → AddAt a b (k + 1) o ((bitv a k + bitv b k + c) / 2)) := by
  obtain ⟨o0, o1, c01, eq⟩ := h
  have hp := p2_pos k
  have ea := mod_step a (p2 k) hp
  have eb := mod_step b (p2 k) hp
  have xa := bitv_or a k
  have xb := bitv_or b k
  rw [← p2_succ hk] at ea eb
  change a % p2 (k + 1) = a % p2 k + p2 k * bitv a k at ea
  change b % p2 (k + 1) = b % p2 k + p2 k * bitv b k at eb
  have es := p2_succ hk
  refine ⟨fun hn => ?_, fun hn => ?_⟩ <;> rcases xa with xa | xa <;> rcases xb with xb | xb <;> rcases c01 with rfl | rfl <;> rw [xa] at ea hn ⊢ <;> rw [xb] at eb hn ⊢ <;>
    first
    | (exfalso; omega)
    | exact ⟨by omega, by omega, by omega, by rw [ea, eb, es]; omega⟩
theorem W128.mod {a : Int} (h : W128 a) : a % p2 128 = a := by rw [p2_128]; obtain ⟨h0, h1⟩ := h; omega
theorem AddAt.done {a b o c : Int} (ha : W128 a) (hb : W128 b) (h : AddAt a b 128 o c) : o = addv a b ∧ c = addc a b := by
  obtain ⟨o0, o1, c01, eq⟩ := h
  rw [ha.mod, hb.mod] at eq
  rw [p2_128] at *
  unfold addv addc
  omega
theorem addv_W (a b : Int) : W128 (addv a b) := by unfold W128 addv; omega
theorem addc_01 {a b : Int} (ha : W128 a) (hb : W128 b) : 0 ≤ addc a b ∧ addc a b ≤ 1 := by obtain ⟨_, _⟩ := ha; obtain ⟨_, _⟩ := hb; unfold addc; omega

/-- A difference, bit by bit. -/
def subv (a b : Int) : Int := (a - b) % 340282366920938463463374607431768211456
def subc (a b : Int) : Int := if a < b then 1 else 0
structure SubAt (a b k o c : Int) : Prop where
  o0 : 0 ≤ o
  o1 : o < p2 k
  c01 : c = 0 ∨ c = 1
  eq : a % p2 k - b % p2 k = o - c * p2 k
theorem SubAt.zero (a b : Int) : SubAt a b 0 0 0 := ⟨by omega, by decide, .inl rfl, by simp [p2_0, Int.emod_one]⟩
theorem SubAt.step {a b k o c : Int} (hk : 0 ≤ k) (h : SubAt a b k o c) :
    ((2 + bitv a k - bitv b k - c) % 2 = 1 → SubAt a b (k + 1) (o + p2 k) (if 2 + bitv a k - bitv b k - c < 2 then 1 else 0)) ∧
    (¬ (2 + bitv a k - bitv b k - c) % 2 = 1 → SubAt a b (k + 1) o (if 2 + bitv a k - bitv b k - c < 2 then 1 else 0)) := by
  obtain ⟨o0, o1, c01, eq⟩ := h
  have hp := p2_pos k
  have ea := mod_step a (p2 k) hp
  have eb := mod_step b (p2 k) hp
  have xa := bitv_or a k
  have xb := bitv_or b k
  rw [← p2_succ hk] at ea eb
  change a % p2 (k + 1) = a % p2 k + p2 k * bitv a k at ea
  change b % p2 (k + 1) = b % p2 k + p2 k * bitv b k at eb
  have es := p2_succ hk
  refine ⟨fun hn => ?_, fun hn => ?_⟩ <;> rcases xa with xa | xa <;> rcases xb with xb | xb <;> rcases c01 with rfl | rfl <;> rw [xa] at ea hn ⊢ <;> rw [xb] at eb hn ⊢ <;>
    first
    | (exfalso; omega)
    | exact ⟨by omega, by omega, by simp, by rw [ea, eb, es]; simp; omega⟩
theorem SubAt.done {a b o c : Int} (ha : W128 a) (hb : W128 b) (h : SubAt a b 128 o c) : o = subv a b ∧ c = subc a b := by
  obtain ⟨o0, o1, c01, eq⟩ := h
  rw [ha.mod, hb.mod] at eq
  rw [p2_128] at *
  unfold subv subc
  obtain ⟨_, _⟩ := ha; obtain ⟨_, _⟩ := hb
  split <;> omega
theorem subv_W (a b : Int) : W128 (subv a b) := by unfold W128 subv; omega
theorem subc_01 (a b : Int) : 0 ≤ subc a b ∧ subc a b ≤ 1 := by unfold subc; split <;> omega

/-- Which is greater, from the highest bit on. -/
def cmpv (a b : Int) : Int := if a < b then -1 else if b < a then 1 else 0
theorem cmp_less {a b i : Int} (hi : 0 ≤ i) (h : a / p2 (i + 1) = b / p2 (i + 1)) (hlt : bitv a i < bitv b i) : cmpv a b = -1 := by
  have hp := p2_pos i
  have ea := div_step a (p2 i) hp
  have eb := div_step b (p2 i) hp
  rw [← p2_succ hi, h] at ea
  rw [← p2_succ hi] at eb
  have l : a / p2 i < b / p2 i := by unfold bitv at hlt; omega
  have : a < b := by
    rcases Int.lt_or_le a b with h | h
    · exact h
    · have := Int.ediv_le_ediv hp h; omega
  unfold cmpv; rw [if_pos this]
theorem cmp_more {a b i : Int} (hi : 0 ≤ i) (h : a / p2 (i + 1) = b / p2 (i + 1)) (hlt : bitv b i < bitv a i) : cmpv a b = 1 := by
  have hp := p2_pos i
  have ea := div_step a (p2 i) hp
  have eb := div_step b (p2 i) hp
  rw [← p2_succ hi, h] at ea
  rw [← p2_succ hi] at eb
  have l : b / p2 i < a / p2 i := by unfold bitv at hlt; omega
  have : b < a := by
    rcases Int.lt_or_le b a with h | h
    · exact h
    · have := Int.ediv_le_ediv hp h; omega
  unfold cmpv; rw [if_neg (by omega), if_pos this]
theorem cmp_same {a b i : Int} (hi : 0 ≤ i) (h : a / p2 (i + 1) = b / p2 (i + 1)) (h1 : ¬ bitv a i < bitv b i) (h2 : ¬ bitv b i < bitv a i) : a / p2 i = b / p2 i := by
  have hp := p2_pos i
  have ea := div_step a (p2 i) hp
  have eb := div_step b (p2 i) hp
  rw [← p2_succ hi, h] at ea
  rw [← p2_succ hi] at eb
  unfold bitv at h1 h2; omega
theorem cmp_start {a b : Int} (ha : W128 a) (hb : W128 b) : a / p2 128 = b / p2 128 := by
  rw [p2_128]; obtain ⟨_, _⟩ := ha; obtain ⟨_, _⟩ := hb; omega
theorem cmp_end {a b : Int} (h : a / p2 0 = b / p2 0) : cmpv a b = 0 := by
  rw [p2_0, Int.ediv_one, Int.ediv_one] at h
  subst h; simp [cmpv]
theorem cmpv_bd (a b : Int) : -1 ≤ cmpv a b ∧ cmpv a b ≤ 1 := by 
  unfold cmpv; split
  · omega
  · split <;> omega

end Go.Proofs.Ytahlphbgnhklaaa
