/-
  The reference's set: a number with a bit more, where that bit was 0. No conditions but the numbers' own ranges.
-/
import Derived.Test.YtahlphbgnhklaaaRB
import Derived.Test.YtahlphbgnhklaaaKB
import Derived.RegionTactic
import Derived.ChangeAlike
import Derived.Laws.BitsAllLaws
import Derived.Laws.Bits64b
namespace Go.Proofs.Ytahlphbgnhklaaa
open Go.RowKit
set_option linter.unusedVariables false

theorem set_hi {a i : Int} (ha : W128 a) (h0 : 64 ≤ i) (h1 : i < 128) (hz : bitv a i = 0) :
    bits .or .u64 (hiw a) (IntKind.u64.wrap (2 ^ (i - 64).toNat)) = hiw (a + p2 i) ∧ low (a + p2 i) = low a := by
  have b := hiw_bd ha
  have e : p2 i = 18446744073709551616 * p2 (i - 64) := by rw [← p2_64, ← p2_add (by omega) (by omega)]; congr 1; omega
  have hb : hiw a / p2 (i - 64) % 2 = 0 := by
    rw [← hz, ← bit_hi ha h0]
    show _ = (hiw a / p2 (i - 64)).tmod 2
    have := p2_pos (i - 64)
    rw [Int.tmod_eq_emod_of_nonneg (Int.ediv_nonneg b.1 (by omega))]
  rw [or_u64 b.1 b.2 (by omega) (by omega) hb]
  unfold hiw low
  rw [e]
  generalize p2 (i - 64) = q
  omega
theorem set_lo {a i : Int} (ha : W128 a) (h0 : 0 ≤ i) (h1 : i < 64) (hz : bitv a i = 0) :
    bits .or .u64 (low a) (IntKind.u64.wrap (2 ^ i.toNat)) = low (a + p2 i) ∧ hiw (a + p2 i) = hiw a := by
  have b := low_bd a
  have hp := p2_pos i
  have hb : low a / p2 i % 2 = 0 := by
    rw [← hz, ← bit_lo ha h0 h1]
    show _ = (low a / p2 i).tmod 2
    rw [Int.tmod_eq_emod_of_nonneg (Int.ediv_nonneg b.1 (by omega))]
  rw [or_u64 b.1 b.2 (by omega) (by omega) hb]
  -- no carry into the upper half: the bit was 0
  have hl : low a + p2 i < 18446744073709551616 := by
    have e : (18446744073709551616 : Int) = p2 i * (2 * p2 (63 - i)) := by rw [← p2_succ (by omega), ← p2_add (by omega) (by omega), ← p2_64]; congr 1; omega
    have m := Int.emod_lt_of_pos (low a) hp
    have d := Int.emod_add_mul_ediv (low a) (p2 i)
    have q : low a / p2 i < 2 * p2 (63 - i) := by
      refine Int.ediv_lt_of_lt_mul hp ?_
      rw [Int.mul_comm, ← e]; omega
    have q2 : low a / p2 i + 1 ≤ 2 * p2 (63 - i) - 1 := by omega
    have := Int.mul_le_mul_of_nonneg_left q2 (show 0 ≤ p2 i by omega)
    rw [Int.mul_add, Int.mul_one, Int.mul_sub, Int.mul_one, ← e] at this
    omega
  unfold hiw low at *
  omega

theorem set_any (a i : Int) (ha : W128 a) (h0 : 0 ≤ i) (h1 : i < 128) (hz : bitv a i = 0) (w : World) :
    Calls Try.prog 45 #[.agg #[.int .u64 (hiw a), .int .u64 (low a)], .int .i64 i] w fun e w' => e = .returned (.agg #[.int .u64 (hiw (a + p2 i)), .int .u64 (low (a + p2 i))]) ∧ Below w.heap.size w w' := by
  have hb := hiw_bd ha
  have lb := low_bd a
  have HZ : Hid (bitv a i = 0) := hz
  clear hz
  by_cases h : 64 ≤ i
  · go_enter Try.func45, Try.ntmps45
    go_wp2
    go_region
    all_goals
      go_wp2
      obtain ⟨e1, e2⟩ := set_hi ha h h1 HZ.out
      rw [e1, e2]
      go_returns
      exact ⟨rfl, by go_grown⟩
  · go_enter Try.func45, Try.ntmps45
    go_wp2
    go_region
    all_goals
      go_wp2
      obtain ⟨e1, e2⟩ := set_lo ha h0 (by omega) HZ.out
      rw [e1, e2]
      go_returns
      exact ⟨rfl, by go_grown⟩

end Go.Proofs.Ytahlphbgnhklaaa
