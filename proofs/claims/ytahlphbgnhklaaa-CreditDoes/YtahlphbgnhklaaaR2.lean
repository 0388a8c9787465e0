/-
  The reference's small functions of layer 2: the nearer end, how far a number is from 0, and a product by quarters. No conditions but the numbers' own ranges.
-/
import Derived.Test.YtahlphbgnhklaaaProg
import Derived.Test.YtahlphbgnhklaaaR1
import Derived.Test.YtahlphbgnhklaaaK
import Derived.Lib.Mul64
import Derived.Laws.Bits64b
namespace Go.Proofs.Ytahlphbgnhklaaa
open Go.RowKit
set_option linter.unusedVariables false

/-- The fixed number that an int means. -/
def clampv (a : Int) : Int := if a < -4611686018427387904 then -4611686018427387904 else if 4611686018427387904 < a then 4611686018427387904 else a
theorem clampv_bd (a : Int) : -4611686018427387904 ≤ clampv a ∧ clampv a ≤ 4611686018427387904 := by
  unfold clampv; split
  · omega
  · split <;> omega

theorem quarter_mul (a b c d : Nat) : (4294967296 * a + b) * (4294967296 * c + d) = 18446744073709551616 * (a * c) + 4294967296 * (a * d) + 4294967296 * (b * c) + b * d := by
  rw [Nat.add_mul, Nat.mul_add, Nat.mul_add, Nat.mul_mul_mul_comm 4294967296 a 4294967296 c, Nat.mul_assoc 4294967296 a d, Nat.mul_left_comm b 4294967296 c]; omega
theorem quarter_lo (x y : Nat) : (x % 4294967296 * (y / 4294967296) + (x / 4294967296 * (y % 4294967296) + x % 4294967296 * (y % 4294967296) / 4294967296) % 4294967296) * 4294967296 % 18446744073709551616 + x % 4294967296 * (y % 4294967296) % 4294967296 = x * y % 18446744073709551616 := by
  have e := quarter_mul (x / 4294967296) (x % 4294967296) (y / 4294967296) (y % 4294967296)
  rw [Nat.div_add_mod, Nat.div_add_mod] at e
  rw [e]
  generalize x / 4294967296 * (y / 4294967296) = ac
  generalize x / 4294967296 * (y % 4294967296) = ad
  generalize x % 4294967296 * (y / 4294967296) = bc
  generalize x % 4294967296 * (y % 4294967296) = bd
  omega
theorem qmask (a : Nat) (ha : a < 18446744073709551616) : bits .and .u64 (a : Int) 4294967295 = ((a % 4294967296 : Nat) : Int) := by
  have h := bits_and_u64_nat a 4294967295 ha (by omega)
  have e : a &&& 4294967295 = a % 4294967296 := Nat.and_two_pow_sub_one_eq_mod a 32
  rw [e] at h
  exact h
theorem qjoin (a b : Nat) (hb : b < 4294967296) : bits .or .u64 ((a * 4294967296 % 18446744073709551616 : Nat) : Int) (b : Int) = ((a * 4294967296 % 18446744073709551616 + b : Nat) : Int) := by
  rw [bits_or_u64_nat _ b (by omega) (by omega), nat_join 32 _ _ (by omega) hb]
set_option maxHeartbeats 1000000 in
theorem refTimes_nat (x y : Nat) (hx : x < 18446744073709551616) (hy : y < 18446744073709551616) (w : World) :
    Calls Try.prog 32 #[.int .u64 x, .int .u64 y] w fun e w' => e = .returned (.tuple #[.int .u64 ((x * y / 18446744073709551616 : Nat) : Int), .int .u64 ((x * y % 18446744073709551616 : Nat) : Int)]) ∧ w' = w := by
  obtain ⟨bd, bt, bw, hhi⟩ := Lib.mul64_hi x y hx hy
  have ba := Lib.half_mul_le (a := x / 4294967296) (b := y / 4294967296) (by omega) (by omega)
  have bb := Lib.half_mul_le (a := x / 4294967296) (b := y % 4294967296) (by omega) (by omega)
  have bc := Lib.half_mul_le (a := x % 4294967296) (b := y / 4294967296) (by omega) (by omega)
  have ba' : x / 4294967296 * (y / 4294967296) < 18446744073709551616 := by omega
  have bb' : x / 4294967296 * (y % 4294967296) < 18446744073709551616 := by omega
  have bc' : x % 4294967296 * (y / 4294967296) < 18446744073709551616 := by omega
  have bh1 : x / 4294967296 * (y / 4294967296) + (x / 4294967296 * (y % 4294967296) + x % 4294967296 * (y % 4294967296) / 4294967296) / 4294967296 < 18446744073709551616 := by omega
  have bh : x / 4294967296 * (y / 4294967296) + (x / 4294967296 * (y % 4294967296) + x % 4294967296 * (y % 4294967296) / 4294967296) / 4294967296 + ((x / 4294967296 * (y % 4294967296) + x % 4294967296 * (y % 4294967296) / 4294967296) % 4294967296 + x % 4294967296 * (y / 4294967296)) / 4294967296 < 18446744073709551616 := by omega
  have ec := Nat.add_comm (x % 4294967296 * (y / 4294967296)) ((x / 4294967296 * (y % 4294967296) + x % 4294967296 * (y % 4294967296) / 4294967296) % 4294967296)
  have el := quarter_lo x y
  have m32 : ((4294967296 : Nat) : Int) = 4294967296 := rfl
  have bl : x % 4294967296 * (y % 4294967296) % 4294967296 < 4294967296 := Nat.mod_lt _ (by omega)
  rw [ec] at el
  go_enter Try.func32, Try.ntmps32
  go_wp2
  have divN : ∀ a : Nat, (a : Int) / 4294967296 = ((a / 4294967296 : Nat) : Int) := fun a => by omega
  have mulN : ∀ a b : Nat, (a : Int) * (b : Int) = ((a * b : Nat) : Int) := fun a b => (Int.natCast_mul a b).symm
  have addN : ∀ a b : Nat, (a : Int) + (b : Int) = ((a + b : Nat) : Int) := fun a b => (Int.natCast_add a b).symm
  have wrapN : ∀ a : Nat, a < 18446744073709551616 → IntKind.u64.wrap (a : Int) = (a : Int) := fun a ha => by rw [IntKind.wrap_u64]; omega
  have shlN : ∀ a : Nat, IntKind.u64.wrap ((a : Int) * 4294967296) = ((a * 4294967296 % 18446744073709551616 : Nat) : Int) := fun a => by rw [IntKind.wrap_u64]; omega
  simp only [qmask x hx, qmask y hy, divN, mulN, addN, wrapN _ bd, wrapN _ bb', wrapN _ bt, qmask _ bt, wrapN _ bc', ec, wrapN _ bw, wrapN _ ba', wrapN _ bh1, wrapN _ bh, qmask _ bd, shlN, qjoin _ _ bl, el]
  rw [hhi]
  go_ret2
  exact ⟨rfl, rfl⟩
theorem refTimes_any (x y : Int) (hx0 : 0 ≤ x) (hx1 : x ≤ 18446744073709551615) (hy0 : 0 ≤ y) (hy1 : y ≤ 18446744073709551615) (w : World) :
    Calls Try.prog 32 #[.int .u64 x, .int .u64 y] w fun e w' => e = .returned (.tuple #[.int .u64 (hiw (x * y)), .int .u64 (low (x * y))]) ∧ w' = w := by
  obtain ⟨x, rfl⟩ := Int.eq_ofNat_of_zero_le hx0
  obtain ⟨y, rfl⟩ := Int.eq_ofNat_of_zero_le hy0
  have := refTimes_nat x y (by omega) (by omega) w
  have e0 : (x : Int) * y = ((x * y : Nat) : Int) := (Int.natCast_mul x y).symm
  have e1 : ((x * y / 18446744073709551616 : Nat) : Int) = hiw ((x : Int) * y) := by unfold hiw; rw [e0]; omega
  have e2 : ((x * y % 18446744073709551616 : Nat) : Int) = low ((x : Int) * y) := by unfold low; rw [e0]; omega
  rwa [e1, e2] at this
end Go.Proofs.Ytahlphbgnhklaaa
