/-
  Plain arithmetic of draws: a turn of 32 bits, a generator's draw, states and places behind draws, rows of draws. No program in this text. No conditions.
-/
import Derived.Test.YtcaledobieopjaaT
import Derived.Test.YtcaledobieopjaaA3
namespace Go.Proofs.Ytcaledobieopjaa
set_option linter.unusedVariables false

/-- x, its 32 bits turned to the right by r. -/
def rotv (x : Int) (r : Nat) : Int := x / 2 ^ r + x % 2 ^ r * 2 ^ (32 - r)
theorem rot_zero (x : Int) : rotv x 0 = x := by unfold rotv; simp
theorem rot_nat (x r : Nat) : rotv x r = ((x / 2 ^ r + x % 2 ^ r * 2 ^ (32 - r) : Nat) : Int) := by
  unfold rotv; simp
theorem rot_bd {x : Int} {r : Nat} (x0 : 0 ≤ x) (x1 : x ≤ 4294967295) (hr : r ≤ 32) : 0 ≤ rotv x r ∧ rotv x r ≤ 4294967295 := by
  obtain ⟨x, rfl⟩ := Int.eq_ofNat_of_zero_le x0
  rw [rot_nat]
  have e : 2 ^ r * 2 ^ (32 - r) = 4294967296 := by rw [← Nat.pow_add, show r + (32 - r) = 32 by omega]
  have h1 : x / 2 ^ r < 2 ^ (32 - r) := by
    rw [Nat.div_lt_iff_lt_mul (Nat.two_pow_pos r), Nat.mul_comm, e]; omega
  have h2 : x % 2 ^ r + 1 ≤ 2 ^ r := Nat.mod_lt _ (Nat.two_pow_pos r)
  have h3 := Nat.mul_le_mul_right (2 ^ (32 - r)) h2
  rw [e, Nat.add_mul, Nat.one_mul] at h3
  generalize x % 2 ^ r * 2 ^ (32 - r) = u at *
  generalize x / 2 ^ r = q at *
  generalize 2 ^ (32 - r) = v at *
  omega
theorem rot_succ {x : Int} {r : Nat} (x0 : 0 ≤ x) (hr : r < 32) : rotv x r / 2 + rotv x r % 2 * 2147483648 = rotv x (r + 1) := by
  obtain ⟨x, rfl⟩ := Int.eq_ofNat_of_zero_le x0
  rw [rot_nat, rot_nat]
  have p : 2 ^ (32 - r) = 2 * 2 ^ (31 - r) := by rw [show 32 - r = (31 - r) + 1 by omega, Nat.pow_succ, Nat.mul_comm]
  have e : 2 ^ r * 2 ^ (31 - r) = 2147483648 := by rw [← Nat.pow_add, show r + (31 - r) = 31 by omega]
  have d : x / 2 ^ (r + 1) = x / 2 ^ r / 2 := by rw [Nat.pow_succ, Nat.div_div_eq_div_mul]
  have m : x % 2 ^ (r + 1) = x % 2 ^ r + 2 ^ r * (x / 2 ^ r % 2) := by rw [Nat.pow_succ, Nat.mod_mul]
  rw [d, m, show 32 - (r + 1) = 31 - r by omega, p, Nat.add_mul, Nat.mul_right_comm, e, ← Nat.mul_assoc, Nat.mul_right_comm]
  generalize x % 2 ^ r * 2 ^ (31 - r) = u
  generalize x / 2 ^ r = q
  omega
theorem and31 (r : Int) (r0 : 0 ≤ r) (r1 : r ≤ 31) : bits .and .u64 (IntKind.u64.wrap (-r)) 31 = (32 - r) % 32 := by
  have e : IntKind.u64.wrap (-r) = (((18446744073709551616 - r) % 18446744073709551616).toNat : Int) := by rw [IntKind.wrap_u64]; omega
  rw [e, show (31 : Int) = ((31 : Nat) : Int) from rfl, bits_and_u64_nat _ _ (by omega) (by omega)]
  have : ((18446744073709551616 - r) % 18446744073709551616).toNat &&& 31 = ((18446744073709551616 - r) % 18446744073709551616).toNat % 2 ^ 5 := Nat.and_two_pow_sub_one_eq_mod _ 5
  rw [this]
  omega
theorem or32_zero (x : Int) (x0 : 0 ≤ x) (x1 : x ≤ 4294967295) : bits .or .u32 x 0 = x := by
  obtain ⟨x, rfl⟩ := Int.eq_ofNat_of_zero_le x0
  have := u32_or_nat x 0 (by omega) (by omega)
  simpa using this
theorem turn_val {x r t : Int} (x0 : 0 ≤ x) (x1 : x ≤ 4294967295) (r0 : 0 ≤ r) (r1 : r ≤ 31) (ht : t = (32 - r) % 32) :
    bits .or .u32 (x * 2 ^ t.toNat % 4294967296) (x / 2 ^ (32 - t).toNat) = rotv x r.toNat := by
  obtain ⟨x, rfl⟩ := Int.eq_ofNat_of_zero_le x0
  obtain ⟨r, rfl⟩ := Int.eq_ofNat_of_zero_le r0
  by_cases h : r = 0
  · subst h
    obtain rfl : t = 0 := by omega
    have e : ((x : Int) * 2 ^ (0 : Int).toNat % 4294967296) = x := by simp; omega
    have e2 : ((x : Int) / 2 ^ ((32 : Int) - 0).toNat) = 0 := by
      show (x : Int) / 2 ^ 32 = 0
      omega
    rw [e, e2, or32_zero _ (by omega) (by omega)]
    exact (rot_zero _).symm
  · have et : t.toNat = 32 - r := by omega
    have eu : (32 - t).toNat = r := by omega
    have e : 2 ^ r * 2 ^ (32 - r) = 4294967296 := by rw [← Nat.pow_add, show r + (32 - r) = 32 by omega]
    have a1 : ((x : Int) * 2 ^ t.toNat % 4294967296) = ((x % 2 ^ r * 2 ^ (32 - r) : Nat) : Int) := by
      rw [et, ← Nat.mul_mod_mul_right, e]; simp
    have a2 : ((x : Int) / 2 ^ (32 - t).toNat) = ((x / 2 ^ r : Nat) : Int) := by rw [eu]; simp
    have h1 : x / 2 ^ r < 2 ^ (32 - r) := by
      rw [Nat.div_lt_iff_lt_mul (Nat.two_pow_pos r), Nat.mul_comm, e]; omega
    have h2 : x % 2 ^ r + 1 ≤ 2 ^ r := Nat.mod_lt _ (Nat.two_pow_pos r)
    have h3 := Nat.mul_le_mul_right (2 ^ (32 - r)) h2
    have h4 := Nat.two_pow_pos (32 - r)
    have h5 : 2 ^ (32 - r) ≤ 4294967296 := Nat.pow_le_pow_right (n := 2) (by omega) (show 32 - r ≤ 32 by omega)
    rw [e, Nat.add_mul] at h3
    rw [a1, a2, u32_or_nat _ _ (by omega) (by omega), Int.toNat_natCast, rot_nat, Nat.add_comm (x / 2 ^ r), Nat.mul_comm (x % 2 ^ r), Nat.two_pow_add_eq_or_of_lt h1]

/-- What a generator turns, and its draw. -/
def pcgx (s : Int) : Int := bits .xor .u64 (s / 262144) s / 134217728 % 4294967296
def pcgv (s : Int) : Int := rotv (pcgx s) (s / 576460752303423488).toNat
theorem pcgx_bd (s : Int) : 0 ≤ pcgx s ∧ pcgx s ≤ 4294967295 := by unfold pcgx; omega
theorem pcgv_bd {s : Int} (h0 : 0 ≤ s) (h1 : s ≤ 18446744073709551615) : 0 ≤ pcgv s ∧ pcgv s ≤ 4294967295 := rot_bd (pcgx_bd s).1 (pcgx_bd s).2 (by omega)

/-- A source's draw; its state, and its place, behind it. -/
def drawv (k s p : Int) (zs : List Int) : Int := if k = 1 then pcgv s else if k = 2 ∧ 0 ≤ p ∧ p < zs.length then zs.getD p.toNat 0 % 4294967296 else 0
def statev (k s i : Int) : Int := if k = 1 then (6364136223846793005 * s + i) % 18446744073709551616 else s
def atv (k p : Int) (zs : List Int) : Int := if k = 2 ∧ 0 ≤ p ∧ p < zs.length then p + 1 else p
theorem drawv_bd {k s p : Int} (zs : List Int) (h0 : 0 ≤ s) (h1 : s ≤ 18446744073709551615) : 0 ≤ drawv k s p zs ∧ drawv k s p zs ≤ 4294967295 := by
  unfold drawv; split
  · exact pcgv_bd h0 h1
  · split <;> omega
theorem statev_bd {k s i : Int} (h0 : 0 ≤ s) (h1 : s ≤ 18446744073709551615) : 0 ≤ statev k s i ∧ statev k s i ≤ 18446744073709551615 := by
  unfold statev; split <;> omega
theorem atv_bd {k p : Int} {zs : List Int} (h0 : -9223372036854775808 ≤ p) (h1 : p ≤ 9223372036854775807) (hz : (zs.length : Int) ≤ 9223372036854775807) : -9223372036854775808 ≤ atv k p zs ∧ atv k p zs ≤ 9223372036854775807 := by
  unfold atv; split <;> omega
theorem drawv_pcg (s p : Int) (zs : List Int) : drawv 1 s p zs = pcgv s := by unfold drawv; simp
theorem statev_pcg (s i : Int) : statev 1 s i = (6364136223846793005 * s + i) % 18446744073709551616 := by unfold statev; simp
theorem atv_pcg (p : Int) (zs : List Int) : atv 1 p zs = p := by unfold atv; simp
theorem drawv_tape {s p : Int} {zs : List Int} (h0 : 0 ≤ p) (h1 : p < zs.length) : drawv 2 s p zs = zs.getD p.toNat 0 % 4294967296 := by unfold drawv; simp [h0, h1]
theorem statev_tape (s i : Int) : statev 2 s i = s := by unfold statev; simp
theorem atv_tape {p : Int} {zs : List Int} (h0 : 0 ≤ p) (h1 : p < zs.length) : atv 2 p zs = p + 1 := by unfold atv; simp [h0, h1]
theorem drawv_out {s p : Int} {zs : List Int} (h : p < 0 ∨ zs.length ≤ p) : drawv 2 s p zs = 0 := by unfold drawv; rw [if_neg (by omega), if_neg (by omega)]
theorem atv_out {p : Int} {zs : List Int} (h : p < 0 ∨ zs.length ≤ p) : atv 2 p zs = p := by unfold atv; rw [if_neg (by omega)]
theorem drawv_dry {k s p : Int} {zs : List Int} (h1 : k ≠ 1) (h2 : k ≠ 2) : drawv k s p zs = 0 := by unfold drawv; simp [h1, h2]
theorem statev_dry {k s i : Int} (h1 : k ≠ 1) : statev k s i = s := by unfold statev; simp [h1]
theorem atv_dry {k p : Int} {zs : List Int} (h2 : k ≠ 2) : atv k p zs = p := by unfold atv; simp [h2]

/-- States, places and draws behind j draws. -/
def sN (k s i : Int) : Nat → Int | 0 => s | j + 1 => statev k (sN k s i j) i
def pN (k p : Int) (zs : List Int) : Nat → Int | 0 => p | j + 1 => atv k (pN k p zs j) zs
def dN (k s i p : Int) (zs : List Int) (j : Nat) : List Int := (List.range j).map fun t => drawv k (sN k s i t) (pN k p zs t) zs
theorem sN_zero (k s i : Int) : sN k s i 0 = s := rfl
theorem pN_zero (k p : Int) (zs : List Int) : pN k p zs 0 = p := rfl
theorem dN_zero (k s i p : Int) (zs : List Int) : dN k s i p zs 0 = [] := rfl
theorem sN_succ (k s i : Int) (j : Nat) : sN k s i (j + 1) = statev k (sN k s i j) i := rfl
theorem pN_succ (k p : Int) (zs : List Int) (j : Nat) : pN k p zs (j + 1) = atv k (pN k p zs j) zs := rfl
theorem dN_succ (k s i p : Int) (zs : List Int) (j : Nat) : dN k s i p zs (j + 1) = dN k s i p zs j ++ [drawv k (sN k s i j) (pN k p zs j) zs] := by
  unfold dN; rw [List.range_succ, List.map_append]; rfl
theorem dN_length (k s i p : Int) (zs : List Int) (j : Nat) : (dN k s i p zs j).length = j := by unfold dN; simp
theorem sN_bd {k s i : Int} (h0 : 0 ≤ s) (h1 : s ≤ 18446744073709551615) (j : Nat) : 0 ≤ sN k s i j ∧ sN k s i j ≤ 18446744073709551615 := by
  induction j with
  | zero => exact ⟨h0, h1⟩
  | succ j ih => exact statev_bd ih.1 ih.2
theorem pN_bd {k p : Int} {zs : List Int} (h0 : -9223372036854775808 ≤ p) (h1 : p ≤ 9223372036854775807) (hz : (zs.length : Int) ≤ 9223372036854775807) (j : Nat) : -9223372036854775808 ≤ pN k p zs j ∧ pN k p zs j ≤ 9223372036854775807 := by
  induction j with
  | zero => exact ⟨h0, h1⟩
  | succ j ih => exact atv_bd ih.1 ih.2 hz
theorem dN_wf {k s i p : Int} {zs : List Int} (h0 : 0 ≤ s) (h1 : s ≤ 18446744073709551615) (j : Nat) : ∀ x ∈ dN k s i p zs j, (Lit.int .i64 x).wf = true := by
  intro x hx
  obtain ⟨t, _, rfl⟩ := List.mem_map.1 hx
  have b := sN_bd (k := k) (i := i) h0 h1 t
  have := drawv_bd (k := k) (p := pN k p zs t) zs b.1 b.2
  exact WalkArith.wf_i64 (by omega)
theorem sN_add (k s i : Int) (n m : Nat) : sN k (sN k s i n) i m = sN k s i (n + m) := by
  induction m with
  | zero => rfl
  | succ m ih => rw [sN_succ, ih, ← Nat.add_assoc, sN_succ]
theorem pN_add (k p : Int) (zs : List Int) (n m : Nat) : pN k (pN k p zs n) zs m = pN k p zs (n + m) := by
  induction m with
  | zero => rfl
  | succ m ih => rw [pN_succ, ih, ← Nat.add_assoc, pN_succ]
theorem dN_add (k s i p : Int) (zs : List Int) (n m : Nat) : dN k s i p zs n ++ dN k (sN k s i n) i (pN k p zs n) zs m = dN k s i p zs (n + m) := by
  induction m with
  | zero => simp [dN_zero]
  | succ m ih => rw [dN_succ, ← List.append_assoc, ih, ← Nat.add_assoc, dN_succ, sN_add, pN_add]
/-- A tape's places and draws. -/
theorem pN_tape {zs : List Int} (j : Nat) : pN 2 0 zs j = if j ≤ zs.length then (j : Int) else zs.length := by
  induction j with
  | zero => simp [pN_zero]
  | succ j ih =>
    rw [pN_succ, ih]
    by_cases h : j < zs.length
    · rw [if_pos (by omega), if_pos (by omega), atv_tape (by omega) (by omega)]; omega
    · by_cases h' : j ≤ zs.length
      · rw [if_pos h', if_neg (by omega), atv_out (Or.inr (by omega))]; omega
      · rw [if_neg h', if_neg (by omega), atv_out (Or.inr (by omega))]
theorem dN_tape {s i : Int} {zs : List Int} {m j : Nat} (hj : j < m) : (dN 2 s i 0 zs m).getD j 0 = if j < zs.length then zs.getD j 0 % 4294967296 else 0 := by
  unfold dN
  rw [List.getD, List.getElem?_map, List.getElem?_range hj]
  simp only [Option.map_some, Option.getD_some]
  rw [pN_tape]
  by_cases h : j < zs.length
  · rw [if_pos (by omega), if_pos h, drawv_tape (by omega) (by omega)]; simp
  · rw [if_neg h]
    by_cases h' : j ≤ zs.length
    · rw [if_pos h', drawv_out (Or.inr (by omega))]
    · rw [if_neg h', drawv_out (Or.inr (by omega))]
end Go.Proofs.Ytcaledobieopjaa
