/-
  Plain arithmetic beneath bits.Div64: a quotient by digits of 32 bits. No program in this text. No conditions.
-/
import Derived.Test.YtahlphbgnhklaaaA3
namespace Go.Proofs.Ytahlphbgnhklaaa
set_option linter.unusedVariables false

/-- One digit: u and the next digit d, divided by y1, y0; the guess q leaves r. -/
structure DStep (y1 y0 u d : Int) : Prop where
  y1a : 2147483648 ≤ y1
  y1b : y1 < 4294967296
  y0a : 0 ≤ y0
  y0b : y0 < 4294967296
  ua : 0 ≤ u
  ub : u < y1 * 4294967296 + y0
  da : 0 ≤ d
  db : d < 4294967296
def digit (y1 y0 u d : Int) : Int := (u * 4294967296 + d) / (y1 * 4294967296 + y0)
structure DInv (y1 y0 u d q r : Int) : Prop where
  eq : q * y1 + r = u
  r0 : 0 ≤ r
  ge : digit y1 y0 u d ≤ q
theorem DStep.digit_lt {y1 y0 u d : Int} (s : DStep y1 y0 u d) : 0 ≤ digit y1 y0 u d ∧ digit y1 y0 u d < 4294967296 := by
  obtain ⟨a, b, c, e, f, g, h, i⟩ := s
  unfold digit
  exact ⟨Int.ediv_nonneg (by omega) (by omega), Int.ediv_lt_of_lt_mul (by omega) (by omega)⟩
theorem DStep.rem {y1 y0 u d : Int} (s : DStep y1 y0 u d) : 0 ≤ u * 4294967296 + d - digit y1 y0 u d * (y1 * 4294967296 + y0) ∧ u * 4294967296 + d - digit y1 y0 u d * (y1 * 4294967296 + y0) < y1 * 4294967296 + y0 := by
  obtain ⟨a, b, c, e, f, g, h, i⟩ := s
  have x := Int.emod_add_mul_ediv (u * 4294967296 + d) (y1 * 4294967296 + y0)
  have m0 := Int.emod_nonneg (u * 4294967296 + d) (show y1 * 4294967296 + y0 ≠ 0 by omega)
  have m1 := Int.emod_lt_of_pos (u * 4294967296 + d) (show 0 < y1 * 4294967296 + y0 by omega)
  unfold digit
  rw [Int.mul_comm ((u * 4294967296 + d) / (y1 * 4294967296 + y0))]
  omega
theorem DStep.start {y1 y0 u d : Int} (s : DStep y1 y0 u d) : DInv y1 y0 u d (u / y1) (u - u / y1 * y1) ∧ 0 ≤ u / y1 ∧ u / y1 ≤ 4294967297 ∧ u - u / y1 * y1 < 4294967296 ∧ 0 ≤ u / y1 * y1 ∧ u / y1 * y1 ≤ u := by
  have dl := s.digit_lt
  have rm := s.rem
  obtain ⟨a, b, c, e, f, g, h, i⟩ := s
  have x := Int.emod_add_mul_ediv u y1
  have m0 := Int.emod_nonneg u (show y1 ≠ 0 by omega)
  have m1 := Int.emod_lt_of_pos u (show 0 < y1 by omega)
  rw [Int.mul_comm y1] at x
  have q0 : 0 ≤ u / y1 := Int.ediv_nonneg f (by omega)
  have qb : u / y1 < 4294967298 := Int.ediv_lt_of_lt_mul (by omega) (by omega)
  have p0 := Int.mul_nonneg q0 (show 0 ≤ y1 by omega)
  refine ⟨⟨by omega, by omega, ?_⟩, q0, by omega, by omega, p0, by omega⟩
  refine Int.le_ediv_of_mul_le (by omega) ?_
  have e1 : digit y1 y0 u d * (y1 * 4294967296 + y0) = digit y1 y0 u d * y1 * 4294967296 + digit y1 y0 u d * y0 := by rw [Int.mul_add, ← Int.mul_assoc]
  have e2 := Int.mul_nonneg dl.1 c
  rw [e1] at rm
  omega
theorem DInv.mulY {y1 y0 u d q r : Int} (h : DInv y1 y0 u d q r) : q * (y1 * 4294967296 + y0) = (u - r) * 4294967296 + q * y0 := by
  have := h.eq
  have e : q * y1 = u - r := by omega
  rw [Int.mul_add, ← Int.mul_assoc, e]
theorem DInv.dec {y1 y0 u d q r : Int} (s : DStep y1 y0 u d) (h : DInv y1 y0 u d q r) (t : 4294967296 ≤ q ∨ 4294967296 * r + d < q * y0) : DInv y1 y0 u d (q - 1) (r + y1) := by
  have dl := s.digit_lt
  have my := h.mulY
  obtain ⟨a, b, c, e, f, g, h0, i⟩ := s
  have eq := h.eq
  have r0 := h.r0
  refine ⟨by rw [Int.sub_mul, Int.one_mul]; omega, by omega, ?_⟩
  rcases t with t | t
  · omega
  · have : digit y1 y0 u d < q := by
      unfold digit
      refine Int.ediv_lt_of_lt_mul (by omega) ?_
      rw [my]; omega
    omega
theorem DInv.stop {y1 y0 u d q r : Int} (s : DStep y1 y0 u d) (h : DInv y1 y0 u d q r) (t : ¬ 4294967296 * r + d < q * y0) : q = digit y1 y0 u d := by
  have my := h.mulY
  have ge := h.ge
  obtain ⟨a, b, c, e, f, g, h0, i⟩ := s
  have : q ≤ digit y1 y0 u d := by
    unfold digit
    refine Int.le_ediv_of_mul_le (by omega) ?_
    rw [my]; omega
  omega
theorem DInv.brk {y1 y0 u d q r : Int} (s : DStep y1 y0 u d) (h : DInv y1 y0 u d q r) (q1 : q ≤ 4294967296) (rb : 4294967296 ≤ r) : q = digit y1 y0 u d := by
  have dl := s.digit_lt
  refine h.stop s ?_
  have ge := h.ge
  obtain ⟨a, b, c, e, f, g, h0, i⟩ := s
  have := Int.mul_le_mul q1 (show y0 ≤ 4294967296 by omega) c (by omega)
  omega
/-- What the loop multiplies: no wrap. -/
theorem DInv.prod {y1 y0 u d q r : Int} (s : DStep y1 y0 u d) (h : DInv y1 y0 u d q r) (q1 : q < 4294967296) : 0 ≤ q * y0 ∧ q * y0 ≤ 18446744073709551615 := by
  have dl := s.digit_lt
  have ge := h.ge
  obtain ⟨a, b, c, e, f, g, h0, i⟩ := s
  have := Int.mul_nonneg (show 0 ≤ q by omega) c
  have := Int.mul_le_mul (show q ≤ 4294967295 by omega) (show y0 ≤ 4294967295 by omega) c (by omega)
  omega

/-- The normalised divisor and dividend. -/
theorem norm_y {y : Int} (h0 : 0 < y) (h1 : y ≤ 18446744073709551615) : 9223372036854775808 ≤ y * p2 (64 - lenv y) ∧ y * p2 (64 - lenv y) ≤ 18446744073709551615 := by
  obtain ⟨s0, s1, s2⟩ := lenv_spec h0
  obtain ⟨l0, l1⟩ := lenv_64 (show 0 ≤ y by omega) h1
  have hp := p2_pos (64 - lenv y)
  have e1 : (9223372036854775808 : Int) = p2 (lenv y - 1) * p2 (64 - lenv y) := by
    rw [← p2_add (by omega) (by omega), show lenv y - 1 + (64 - lenv y) = 63 by omega]; decide +kernel
  have e2 : (18446744073709551616 : Int) = p2 (lenv y) * p2 (64 - lenv y) := by
    rw [← p2_add (by omega) (by omega), show lenv y + (64 - lenv y) = 64 by omega]; decide +kernel
  have a := Int.mul_le_mul_of_nonneg_right s1 (show 0 ≤ p2 (64 - lenv y) by omega)
  have b := Int.mul_lt_mul_of_pos_right s2 hp
  omega
theorem norm_a {h l y s : Int} (s0 : 0 ≤ s) (h0 : 0 ≤ h) (l0 : 0 ≤ l) (l1 : l ≤ 18446744073709551615) (hy : h < y) (ny : y * p2 s ≤ 18446744073709551615) :
    vv h l * p2 s < y * p2 s * 18446744073709551616 ∧ 0 ≤ vv h l * p2 s := by
  have hp := p2_pos s
  have a : vv h l < y * 18446744073709551616 := by unfold vv; omega
  have b := Int.mul_lt_mul_of_pos_right a hp
  rw [Int.mul_right_comm] at b
  exact ⟨b, Int.mul_nonneg (by unfold vv; omega) (by omega)⟩
/-- The whole: two digits. -/
theorem div_two {y1 y0 u d1 d0 : Int} (s1 : DStep y1 y0 u d1)
    (s2 : DStep y1 y0 (u * 4294967296 + d1 - digit y1 y0 u d1 * (y1 * 4294967296 + y0)) d0) :
    (u * 18446744073709551616 + (d1 * 4294967296 + d0)) / (y1 * 4294967296 + y0) = digit y1 y0 u d1 * 4294967296 + digit y1 y0 (u * 4294967296 + d1 - digit y1 y0 u d1 * (y1 * 4294967296 + y0)) d0 ∧
    (u * 18446744073709551616 + (d1 * 4294967296 + d0)) % (y1 * 4294967296 + y0) =
      (u * 4294967296 + d1 - digit y1 y0 u d1 * (y1 * 4294967296 + y0)) * 4294967296 + d0 - digit y1 y0 (u * 4294967296 + d1 - digit y1 y0 u d1 * (y1 * 4294967296 + y0)) d0 * (y1 * 4294967296 + y0) := by
  have r2 := s2.rem
  generalize hq1 : digit y1 y0 u d1 = q1 at *
  generalize hY : y1 * 4294967296 + y0 = Y at *
  generalize hq0 : digit y1 y0 (u * 4294967296 + d1 - q1 * Y) d0 = q0 at *
  refine dm_of ?_ r2.1 r2.2
  have e : Y * (q1 * 4294967296 + q0) = q1 * Y * 4294967296 + q0 * Y := by rw [Int.mul_add, Int.mul_comm Y (q1 * 4294967296), Int.mul_right_comm, Int.mul_comm Y q0]
  rw [e]
  omega
theorem div_scale {a y P : Int} (hP : 0 < P) (hy : 0 < y) : (a * P) / (y * P) = a / y ∧ (a * P) % (y * P) = a % y * P := by
  exact ⟨Int.mul_ediv_mul_of_pos_left _ _ hP, by rw [Int.mul_comm a P, Int.mul_comm y P, Int.mul_emod_mul_of_pos _ _ hP, Int.mul_comm]⟩
end Go.Proofs.Ytahlphbgnhklaaa
