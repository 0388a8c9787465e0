/-
  Bits set in a number where they were 0, as sums. No program in this text. No conditions but the numbers' own ranges.
-/
import Derived.Test.YtahlphbgnhklaaaA
import Derived.WalkKit
import Derived.RegionTactic
import Derived.ChangeAlike
import Derived.Laws.BitsAllLaws
import Derived.Laws.Bits64b
namespace Go.Proofs.Ytahlphbgnhklaaa
open Go.RowKit
set_option linter.unusedVariables false

theorem or_bit (x i : Nat) (h : x / 2 ^ i % 2 = 0) : x ||| 2 ^ i = x + 2 ^ i := by
  have e : x / 2 ^ i * 2 ^ i + x % 2 ^ i = x := Nat.div_add_mod' x (2 ^ i)
  have hp : 0 < 2 ^ i := Nat.two_pow_pos i
  have j1 : x / 2 ^ i * 2 ^ i ||| x % 2 ^ i = x := (nat_join i _ _ (Nat.mul_mod_left _ _) (Nat.mod_lt _ hp)).trans e
  have hs : 2 ^ (i + 1) = 2 ^ i * 2 := Nat.pow_succ 2 i
  have m1 : x / 2 ^ i * 2 ^ i % 2 ^ (i + 1) = 0 := by
    obtain ⟨k, hk⟩ : ∃ k, x / 2 ^ i = 2 * k := ⟨x / 2 ^ i / 2, by omega⟩
    rw [hk, hs, Nat.mul_comm 2 k, Nat.mul_assoc, Nat.mul_comm 2]; exact Nat.mul_mod_left _ _
  have j2 : x / 2 ^ i * 2 ^ i ||| 2 ^ i = x / 2 ^ i * 2 ^ i + 2 ^ i := nat_join (i + 1) _ _ m1 (by omega)
  have m2 : (x / 2 ^ i * 2 ^ i + 2 ^ i) % 2 ^ i = 0 := by
    rw [Nat.add_mod_right]; exact Nat.mul_mod_left _ _
  have j3 : (x / 2 ^ i * 2 ^ i + 2 ^ i) ||| x % 2 ^ i = x / 2 ^ i * 2 ^ i + 2 ^ i + x % 2 ^ i := nat_join i _ _ m2 (Nat.mod_lt _ hp)
  calc x ||| 2 ^ i = (x / 2 ^ i * 2 ^ i ||| x % 2 ^ i) ||| 2 ^ i := by rw [j1]
    _ = (x / 2 ^ i * 2 ^ i ||| 2 ^ i) ||| x % 2 ^ i := by rw [Nat.or_assoc, Nat.or_comm (x % 2 ^ i), ← Nat.or_assoc]
    _ = x / 2 ^ i * 2 ^ i + 2 ^ i + x % 2 ^ i := by rw [j2, j3]
    _ = x + 2 ^ i := by omega

theorem p2_nat {i : Int} : p2 i = ((2 ^ i.toNat : Nat) : Int) := by unfold p2; simp
theorem p2_lt {i : Int} (h0 : 0 ≤ i) (h1 : i < 64) : p2 i ≤ 9223372036854775808 := by
  have := p2_le h0 (show i ≤ 63 by omega)
  have e : p2 63 = 9223372036854775808 := by decide +kernel
  omega
theorem or_u64 {x i : Int} (h0 : 0 ≤ x) (h1 : x ≤ 18446744073709551615) (k0 : 0 ≤ i) (k1 : i < 64) (hb : x / p2 i % 2 = 0) :
    bits .or .u64 x (IntKind.u64.wrap (2 ^ i.toNat)) = x + p2 i := by
  have lt := p2_lt k0 k1
  have pos := p2_pos i
  have ew : IntKind.u64.wrap (2 ^ i.toNat) = p2 i := by
    rw [IntKind.wrap_u64]; show p2 i % _ = _; omega
  rw [ew]
  obtain ⟨x, rfl⟩ := Int.eq_ofNat_of_zero_le h0
  rw [p2_nat] at *
  rw [bits_or_u64_nat x _ (by omega) (by omega), or_bit x _ (by omega)]
  simp

theorem or4 {x t : Int} (x0 : 0 ≤ x) (x1 : x ≤ 18446744073709551615) (xm : x % 4 = 0) (t0 : 0 ≤ t) (t1 : t ≤ 3) : bits .or .u64 x t = x + t := by
  obtain ⟨x, rfl⟩ := Int.eq_ofNat_of_zero_le x0
  obtain ⟨t, rfl⟩ := Int.eq_ofNat_of_zero_le t0
  rw [bits_or_u64_nat x t (by omega) (by omega), nat_join 2 x t (by omega) (by omega)]
  omega
theorem or2 {x : Int} (x0 : 0 ≤ x) (x1 : x ≤ 18446744073709551615) (xm : x % 2 = 0) : bits .or .u64 x 1 = x + 1 := by
  obtain ⟨x, rfl⟩ := Int.eq_ofNat_of_zero_le x0
  have := bits_or_u64_nat x 1 (by omega) (by omega)
  rw [nat_join 1 x 1 (by omega) (by omega)] at this
  exact this
theorem or_low {x b : Int} (x0 : 0 ≤ x) (x1 : x ≤ 18446744073709551615) (xm : x % 2 = 0) (b0 : 0 ≤ b) (b1 : b ≤ 1) : bits .or .u64 x b = x + b := by
  obtain ⟨x, rfl⟩ := Int.eq_ofNat_of_zero_le x0
  obtain ⟨b, rfl⟩ := Int.eq_ofNat_of_zero_le b0
  rw [bits_or_u64_nat x b (by omega) (by omega), nat_join 1 x b (by omega) (by omega)]
  omega
end Go.Proofs.Ytahlphbgnhklaaa
