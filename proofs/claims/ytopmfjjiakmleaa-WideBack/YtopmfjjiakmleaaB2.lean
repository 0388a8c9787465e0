/-
  The reference's set: a number with a bit more, where that bit was 0. No conditions but the numbers' own ranges.
-/
import Derived.Test.YtopmfjjiakmleaaB
import Derived.RegionTactic
import Derived.ChangeAlike
import Derived.Laws.BitsAllLaws
import Derived.Laws.Bits64b
namespace Go.Proofs.Ytopmfjjiakmleaa
open Go.RowKit
set_option linter.unusedVariables false

theorem or_bit (x i : Nat) (h : x / 2 ^ i % 2 = 0) : x ||| 2 ^ i = x + 2 ^ i := by
  have e : x / 2 ^ i * 2 ^ i + x % 2 ^ i = x := Nat.div_add_mod' x (2 ^ i)
  have hp : 0 < 2 ^ i := Nat.two_pow_pos i
  have j1 : x / 2 ^ i * 2 ^ i ||| x % 2 ^ i = x := (nat_join i _ _ (Nat.mul_mod_left _ _) (Nat.mod_lt _ hp)).trans e
  have hs : 2 ^ (i + 1) = 2 ^ i * 2 := Nat.pow_succ 2 i
  have m1 : x / 2 ^ i * 2 ^ i % 2 ^ (i + 1) = 0 := by
    obtain ⟨k, hk⟩ : ∃ k, x / 2 ^ i = 2 * k := ⟨x / 2 ^ i / 2, by omega⟩
    rw [hk, hs, Nat.mul_comm 2 k, Nat.mul_assoc, Nat.mul_comm 2]; exact Nat.mul_mod_left _ _
  have j2 : x / 2 ^ i * 2 ^ i ||| 2 ^ i = x / 2 ^ i * 2 ^ i + 2 ^ i := nat_join (i + 1) _ _ m1 (by omega)
  have m2 : (x / 2 ^ i * 2 ^ i + 2 ^ i) % 2 ^ i = 0 := by
    rw [Nat.add_mod_right]; exact Nat.mul_mod_left _ _
  have j3 : (x / 2 ^ i * 2 ^ i + 2 ^ i) ||| x % 2 ^ i = x / 2 ^ i * 2 ^ i + 2 ^ i + x % 2 ^ i := nat_join i _ _ m2 (Nat.mod_lt _ hp)
  calc x ||| 2 ^ i = (x / 2 ^ i * 2 ^ i ||| x % 2 ^ i) ||| 2 ^ i := by rw [j1]
    _ = (x / 2 ^ i * 2 ^ i ||| 2 ^ i) ||| x % 2 ^ i := by rw [Nat.or_assoc, Nat.or_comm (x % 2 ^ i), ← Nat.or_assoc]
    _ = x / 2 ^ i * 2 ^ i + 2 ^ i + x % 2 ^ i := by rw [j2, j3]
    _ = x + 2 ^ i := by omega

theorem p2_nat {i : Int} : p2 i = ((2 ^ i.toNat : Nat) : Int) := by unfold p2; simp
theorem p2_lt {i : Int} (h0 : 0 ≤ i) (h1 : i < 64) : p2 i ≤ 9223372036854775808 := by
  have := p2_le h0 (show i ≤ 63 by omega)
  have e : p2 63 = 9223372036854775808 := by decide +kernel
  omega
theorem or_u64 {x i : Int} (h0 : 0 ≤ x) (h1 : x ≤ 18446744073709551615) (k0 : 0 ≤ i) (k1 : i < 64) (hb : x / p2 i % 2 = 0) :
    bits .or .u64 x (IntKind.u64.wrap (2 ^ i.toNat)) = x + p2 i := by
  have lt := p2_lt k0 k1
  have pos := p2_pos i
  have ew : IntKind.u64.wrap (2 ^ i.toNat) = p2 i := by
    rw [IntKind.wrap_u64]; show p2 i % _ = _; omega
  rw [ew]
  obtain ⟨x, rfl⟩ := Int.eq_ofNat_of_zero_le h0
  rw [p2_nat] at *
  rw [bits_or_u64_nat x _ (by omega) (by omega), or_bit x _ (by omega)]
  simp

theorem set_hi {a i : Int} (ha : W128 a) (h0 : 64 ≤ i) (h1 : i < 128) (hz : bitv a i = 0) :
    bits .or .u64 (hiw a) (IntKind.u64.wrap (2 ^ (i - 64).toNat)) = hiw (a + p2 i) ∧ low (a + p2 i) = low a := by
  have b := hiw_bd ha
  have e : p2 i = 18446744073709551616 * p2 (i - 64) := by rw [← p2_64, ← p2_add (by omega) (by omega)]; congr 1; omega
  have hb : hiw a / p2 (i - 64) % 2 = 0 := by
    rw [← hz, ← bit_hi ha h0]
    show _ = (hiw a / p2 (i - 64)).tmod 2
    have := p2_pos (i - 64)
    rw [Int.tmod_eq_emod_of_nonneg (Int.ediv_nonneg b.1 (by omega))]
  rw [or_u64 b.1 b.2 (by omega) (by omega) hb]
  unfold hiw low
  rw [e]
  generalize p2 (i - 64) = q
  omega
theorem set_lo {a i : Int} (ha : W128 a) (h0 : 0 ≤ i) (h1 : i < 64) (hz : bitv a i = 0) :
    bits .or .u64 (low a) (IntKind.u64.wrap (2 ^ i.toNat)) = low (a + p2 i) ∧ hiw (a + p2 i) = hiw a := by
  have b := low_bd a
  have hp := p2_pos i
  have hb : low a / p2 i % 2 = 0 := by
    rw [← hz, ← bit_lo ha h0 h1]
    show _ = (low a / p2 i).tmod 2
    rw [Int.tmod_eq_emod_of_nonneg (Int.ediv_nonneg b.1 (by omega))]
  rw [or_u64 b.1 b.2 (by omega) (by omega) hb]
  -- no carry into the upper half: the bit was 0
  have hl : low a + p2 i < 18446744073709551616 := by
    have e : (18446744073709551616 : Int) = p2 i * (2 * p2 (63 - i)) := by rw [← p2_succ (by omega), ← p2_add (by omega) (by omega), ← p2_64]; congr 1; omega
    have m := Int.emod_lt_of_pos (low a) hp
    have d := Int.emod_add_mul_ediv (low a) (p2 i)
    have q : low a / p2 i < 2 * p2 (63 - i) := by
      refine Int.ediv_lt_of_lt_mul hp ?_
      rw [Int.mul_comm, ← e]; omega
    have q2 : low a / p2 i + 1 ≤ 2 * p2 (63 - i) - 1 := by omega
    have := Int.mul_le_mul_of_nonneg_left q2 (show 0 ≤ p2 i by omega)
    rw [Int.mul_add, Int.mul_one, Int.mul_sub, Int.mul_one, ← e] at this
    omega
  unfold hiw low at *
  omega

theorem set_any (a i : Int) (ha : W128 a) (h0 : 0 ≤ i) (h1 : i < 128) (hz : bitv a i = 0) (w : World) :
    Calls Try.prog 30 #[.agg #[.int .u64 (hiw a), .int .u64 (low a)], .int .i64 i] w fun e w' => e = .returned (.agg #[.int .u64 (hiw (a + p2 i)), .int .u64 (low (a + p2 i))]) ∧ Below w.heap.size w w' := by
  have hb := hiw_bd ha
  have lb := low_bd a
  have HZ : Hid (bitv a i = 0) := hz
  clear hz
  by_cases h : 64 ≤ i
  · go_enter Try.func30, Try.ntmps30
    go_wp2
    go_region
    all_goals
      go_wp2
      obtain ⟨e1, e2⟩ := set_hi ha h h1 HZ.out
      rw [e1, e2]
      go_returns
      exact ⟨rfl, by go_grown⟩
  · go_enter Try.func30, Try.ntmps30
    go_wp2
    go_region
    all_goals
      go_wp2
      obtain ⟨e1, e2⟩ := set_lo ha h0 (by omega) HZ.out
      rw [e1, e2]
      go_returns
      exact ⟨rfl, by go_grown⟩

end Go.Proofs.Ytopmfjjiakmleaa
