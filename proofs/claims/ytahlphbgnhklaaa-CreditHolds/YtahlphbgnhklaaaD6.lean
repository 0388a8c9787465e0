/-
  bits.Div64 and the program's quotient are those of the numbers. Condition of Div64: the upper half is below the divisor.
-/
import Derived.Test.YtahlphbgnhklaaaD5
namespace Go.Proofs.Ytahlphbgnhklaaa
open Go.RowKit
set_option linter.unusedVariables false

theorem mask32 {x : Int} (h0 : 0 ≤ x) (h1 : x ≤ 18446744073709551615) : bits .and .u64 x 4294967295 = x % 4294967296 := by
  obtain ⟨x, rfl⟩ := Int.eq_ofNat_of_zero_le h0
  rw [maskN x (by omega)]; omega
theorem rest_wrap {U D q Y R : Int} (h : R = U * 4294967296 + D - q * Y) (r0 : 0 ≤ R) (r1 : R ≤ 18446744073709551615) :
    IntKind.u64.wrap (IntKind.u64.wrap (IntKind.u64.wrap (U * 4294967296) + D) - IntKind.u64.wrap (q * Y)) = R := by
  simp only [IntKind.wrap_u64]
  generalize q * Y = m at *
  omega

theorem div64_any (h l y : Int) (h0 : 0 ≤ h) (hb : h < y) (l0 : 0 ≤ l) (l1 : l ≤ 18446744073709551615) (y1 : y ≤ 18446744073709551615) (w : World) :
    Calls Try.prog 43 #[.int .u64 h, .int .u64 l, .int .u64 y] w fun e w' => e = .returned (.tuple #[.int .u64 (vv h l / y), .int .u64 (vv h l % y)]) ∧ Below w.heap.size w w' := by
  by_cases hz : h = 0
  · subst hz
    have e : vv 0 l = l := by unfold vv; omega
    rw [e]
    exact div64_zero l y l0 l1 (by omega) y1 w
  · obtain ⟨lv0, lv1⟩ := lenv_64 (show 0 ≤ y by omega) y1
    have s2 : 1 ≤ lenv y := (lenv_spec (show 0 < y by omega)).1
    obtain ⟨na, nb⟩ := norm_y (show 0 < y by omega) y1
    obtain ⟨s, hs⟩ : ∃ s, s = 64 - lenv y := ⟨_, rfl⟩
    rw [← hs] at na nb
    have hp := p2_pos s
    have W := vv_W h0 (show h ≤ 18446744073709551615 by omega) l0 l1
    obtain ⟨ab, a0⟩ := norm_a (s := s) (by omega) h0 l0 l1 hb nb
    obtain ⟨Yn, hYn⟩ : ∃ Yn, Yn = y * p2 s := ⟨_, rfl⟩
    obtain ⟨a, hA⟩ : ∃ a, a = vv h l * p2 s := ⟨_, rfl⟩
    rw [← hYn] at na nb ab
    rw [← hA] at ab a0
    have el : leftv (vv h l) s = a := by
      unfold leftv; rw [if_neg (by omega), if_neg (by omega), ← hA]; omega
    obtain ⟨E4, E5⟩ := left_hi W (show 0 ≤ s by omega) (show s < 64 by omega)
    rw [el, hiw_vv l0 l1, low_vv l0 l1] at E4
    rw [el, low_vv l0 l1] at E5
    have hiwa : 0 ≤ hiw a ∧ hiw a < Yn := by unfold hiw; omega
    obtain ⟨lo0, lo1⟩ := low_bd a
    have va : hiw a * 18446744073709551616 + low a = a := vv_hl a
    have hS1 : DStep (Yn / 4294967296) (Yn % 4294967296) (hiw a) (low a / 4294967296) :=
      ⟨by omega, by omega, by omega, by omega, by omega, by omega, by omega, by omega⟩
    have eY : Yn / 4294967296 * 4294967296 + Yn % 4294967296 = Yn := by omega
    obtain ⟨q1, hq1⟩ : ∃ q1, q1 = digit (Yn / 4294967296) (Yn % 4294967296) (hiw a) (low a / 4294967296) := ⟨_, rfl⟩
    have rm1 := hS1.rem
    rw [← hq1, eY] at rm1
    obtain ⟨R1, hR1⟩ : ∃ R1, R1 = hiw a * 4294967296 + low a / 4294967296 - q1 * Yn := ⟨_, rfl⟩
    rw [← hR1] at rm1
    have hS2 : DStep (Yn / 4294967296) (Yn % 4294967296) R1 (low a % 4294967296) :=
      ⟨by omega, by omega, by omega, by omega, by omega, by omega, by omega, by omega⟩
    obtain ⟨q0, hq0⟩ : ∃ q0, q0 = digit (Yn / 4294967296) (Yn % 4294967296) R1 (low a % 4294967296) := ⟨_, rfl⟩
    have rm2 := hS2.rem
    rw [← hq0, eY] at rm2
    obtain ⟨R2, hR2⟩ : ∃ R2, R2 = R1 * 4294967296 + low a % 4294967296 - q0 * Yn := ⟨_, rfl⟩
    rw [← hR2] at rm2
    have fin := div64_pos h l y s Yn (Yn / 4294967296) (Yn % 4294967296) (hiw a) (low a) (low a / 4294967296) (low a % 4294967296) (hiw a / (Yn / 4294967296)) q1 R1 (R1 / (Yn / 4294967296)) q0 R2
      (by omega) hb l0 l1 y1 (by omega) (by omega) hs.symm (by rw [IntKind.wrap_u64, p2_toNat, ← hYn]; omega) rfl (mask32 (by omega) nb) E4 E5 rfl (mask32 lo0 lo1) rfl
      (rest_wrap hR1 rm1.1 (by omega)) rfl (rest_wrap hR2 rm2.1 (by omega)) hq1 hq0 rm2.1 (by omega) (by omega) nb hS1 hS2 (by omega) (by omega) lo0 lo1 w
    refine fin.mono fun e w' ⟨he, hw⟩ => ?_
    have two := div_two hS1 (by rw [← hq1, eY, ← hR1]; exact hS2)
    rw [← hq1, eY, ← hR1, ← hq0, ← hR2] at two
    have eL : low a / 4294967296 * 4294967296 + low a % 4294967296 = low a := by omega
    rw [eL, va, hA, hYn] at two
    obtain ⟨sc1, sc2⟩ := div_scale (a := vv h l) (y := y) hp (by omega)
    rw [sc1] at two
    rw [sc2] at two
    rw [he, hw, ← two.1, ← two.2, p2_toNat, Int.mul_ediv_cancel _ (show p2 s ≠ 0 by omega)]
    exact ⟨rfl, Below.refl _ _⟩
end Go.Proofs.Ytahlphbgnhklaaa
