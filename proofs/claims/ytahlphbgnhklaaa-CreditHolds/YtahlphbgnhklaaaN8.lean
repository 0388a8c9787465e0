/-
  What Fill, Take and Wait tell of what is right: the answers where nothing is refused, and what is there behind the wait. No conditions but the numbers' own ranges.
-/
import Derived.Test.YtahlphbgnhklaaaN7
namespace Go.Proofs.Ytahlphbgnhklaaa
open Go.RowKit
set_option linter.unusedVariables false

theorem flE_ok {b a h r t : Int} (hi : isv b a h = true) (r0 : 1 ≤ r) (r1 : r ≤ 1000000000) (t0 : a ≤ t) (t1 : t ≤ 1099511627776) : flE b a h r t = 0 := by
  obtain ⟨_, ⟨_, _⟩, _⟩ := isv_iff.1 hi
  unfold flE; rw [if_pos hi, if_pos (wi_iff.2 ⟨r0, r1⟩), if_pos ⟨wi_iff.2 ⟨by omega, t1⟩, t0⟩]
theorem fill_ok (b a h r t x : Int) (hi : isv b a h = true) (r0 : 1 ≤ r) (r1 : r ≤ 1000000000) (t0 : a ≤ t) (t1 : t ≤ 1099511627776) (hx : heldv b (r * (t - a) + h) = x) (w : World) :
    Calls Try.prog 10 #[.int .i64 b, .agg #[.int .i64 a, .int .i64 h], .int .i64 r, .int .i64 t] w fun e w' => e = .returned (.tuple #[.agg #[.int .i64 t, .int .i64 x], .int .i64 0]) ∧ Below w.heap.size w w' := by
  have E := flE_ok hi r0 r1 t0 t1
  obtain ⟨⟨b0, b1⟩, ⟨a0, a1⟩, h0, h1⟩ := isv_iff.1 hi
  have F := fill_any b a h r t (by omega) (by omega) w
  rw [show flA b a h r t = t by unfold flA; rw [if_pos E], show flH b a h r t = x by unfold flH; rw [if_pos E, hx], E] at F
  exact F
theorem fill_right {b a h r t x : Int} (hi : isv b a h = true) (r0 : 1 ≤ r) (t0 : a ≤ t) (t1 : t ≤ 1099511627776) (hx : heldv b (r * (t - a) + h) = x) : isv b t x = true := by
  obtain ⟨⟨b0, b1⟩, ⟨a0, a1⟩, h0, h1⟩ := isv_iff.1 hi
  have p := Int.mul_nonneg (show 0 ≤ r by omega) (show 0 ≤ t - a by omega)
  have k := heldv_bd (b := b) (m := r * (t - a) + h) b0 (by omega)
  exact isv_iff.2 ⟨⟨b0, b1⟩, ⟨by omega, t1⟩, by omega, by omega⟩
theorem take_ok (b a h s x : Int) (hi : isv b a h = true) (s0 : 1 ≤ s) (s1 : s ≤ 9000) (hs : s * 1000000 ≤ h) (hx : h - s * 1000000 = x) (w : World) :
    Calls Try.prog 12 #[.int .i64 b, .agg #[.int .i64 a, .int .i64 h], .int .i64 s] w fun e w' => e = .returned (.tuple #[.agg #[.int .i64 a, .int .i64 x], .int .i64 0]) ∧ Below w.heap.size w w' := by
  obtain ⟨⟨b0, b1⟩, ⟨a0, a1⟩, h0, h1⟩ := isv_iff.1 hi
  have E : tkE b a h s = 0 := by unfold tkE; rw [if_pos hi, if_pos (wi_iff.2 ⟨s0, s1⟩), if_neg (by omega)]
  have F := take_any b a h s (by omega) (by omega) w
  rw [show tkA b a h s = a by unfold tkA; rw [if_pos E], show tkH b a h s = x by unfold tkH; rw [if_pos E, hx], E] at F
  exact F
theorem take_early (b a h s : Int) (hi : isv b a h = true) (s0 : 1 ≤ s) (s1 : s ≤ 9000) (hs : h < s * 1000000) (w : World) :
    Calls Try.prog 12 #[.int .i64 b, .agg #[.int .i64 a, .int .i64 h], .int .i64 s] w fun e w' => e = .returned (.tuple #[.agg #[.int .i64 0, .int .i64 0], .int .i64 13]) ∧ Below w.heap.size w w' := by
  obtain ⟨⟨b0, b1⟩, ⟨a0, a1⟩, h0, h1⟩ := isv_iff.1 hi
  have E : tkE b a h s = 13 := by unfold tkE; rw [if_pos hi, if_pos (wi_iff.2 ⟨s0, s1⟩), if_pos hs]
  have F := take_any b a h s (by omega) (by omega) w
  rw [show tkA b a h s = 0 by unfold tkA; rw [E]; rfl, show tkH b a h s = 0 by unfold tkH; rw [E]; rfl, E] at F
  exact F
theorem wtv_bd {h r s : Int} (h0 : -9223372036854775808 ≤ h) (s1 : s ≤ 9223372036854775807) : 0 ≤ wtv h r s ∧ wtv h r s ≤ 4611686018427387904 := by
  have m := msv_bd (s := s) h0 s1
  unfold wtv
  split
  · omega
  · split
    · omega
    · have : 0 ≤ (msv h s + (r - 1)) / r := Int.ediv_nonneg (by omega) (by omega)
      split <;> omega
/-- Behind the wait there is enough, and a microsecond ahead of that not. -/
theorem wtv_enough {h r s n : Int} (hn : wtv h r s = n) (hr : 0 < r) (hs : 0 < s) (hl : n < 4611686018427387904) : s * 1000000 ≤ r * n + h ∧ (n ≠ 0 → r * (n - 1) + h < s * 1000000) := by
  unfold wtv at hn
  by_cases hz : msv h s = 0
  · rw [if_pos hz] at hn
    subst hn
    refine ⟨?_, fun k => absurd rfl k⟩
    rw [Int.mul_zero]
    unfold msv at hz; rw [if_neg (by omega)] at hz
    split at hz <;> omega
  · rw [if_neg hz, if_neg (by omega)] at hn
    have hm : msv h s = s * 1000000 - h := by
      unfold msv at hz ⊢; rw [if_neg (by omega)] at hz ⊢
      split at hz
      · omega
      · rename_i g; rw [if_neg g]
    rw [hm] at hn
    split at hn
    · omega
    · have e := Int.emod_add_mul_ediv (s * 1000000 - h + (r - 1)) r
      have m0 := Int.emod_nonneg (s * 1000000 - h + (r - 1)) (show r ≠ 0 by omega)
      have m1 := Int.emod_lt_of_pos (s * 1000000 - h + (r - 1)) hr
      rw [hn] at e
      refine ⟨by omega, fun _ => ?_⟩
      rw [Int.mul_sub, Int.mul_one]
      omega
theorem wtv_none {h r s n : Int} (hn : wtv h r s = n) (hr : 0 < r) (hs : 0 < s) (hm : s * 1000000 ≤ h) : n = 0 := by
  unfold wtv at hn
  rw [if_pos (by unfold msv; rw [if_neg (by omega), if_pos hm])] at hn
  exact hn.symm
end Go.Proofs.Ytahlphbgnhklaaa
