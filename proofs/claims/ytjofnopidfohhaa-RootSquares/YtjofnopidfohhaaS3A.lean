/-
  Plain arithmetic of a root that is sought bit by bit, from the highest one. No conditions but the numbers' own ranges.
-/
import Derived.Test.YtjofnopidfohhaaR1
namespace Go.Proofs.Ytjofnopidfohhaa
set_option linter.unusedVariables false

/-- What is known of a root when its bits from k on were sought. -/
structure BitRoot (a k s : Int) : Prop where
  s0 : 0 ≤ s
  m : s % p2 k = 0
  lo : s ≤ sqrtv a
  hi : sqrtv a < s + p2 k
theorem BitRoot.start {a : Int} (h : W128 a) : BitRoot a 64 0 := by
  have := sqrtv_64 h
  exact ⟨by omega, by simp, by omega, by rw [p2_64]; omega⟩
theorem sqrt_above {a t : Int} (h : W128 a) (t0 : 0 ≤ t) (hc : a < t * t) : sqrtv a < t := sqrtv_lt h t0 hc
theorem sqrt_not_above {a t : Int} (h : W128 a) (t0 : 0 ≤ t) (hc : t * t ≤ a) : t ≤ sqrtv a := by
  obtain ⟨r0, r1, r2⟩ := sqrtv_spec h
  have := sq_lt_of (s := t) (t := sqrtv a + 1) (by omega) (by omega)
  omega
theorem bit_half {s P : Int} (hp : 0 < P) (m : s % (2 * P) = 0) : s / P % 2 = 0 := by
  have e := mod_step s P hp
  have n := Int.emod_nonneg s (show P ≠ 0 by omega)
  rcases Int.emod_two_eq (s / P) with b | b
  · exact b
  · rw [b] at e; omega
theorem mod_half {s P : Int} (hp : 0 < P) (m : s % (2 * P) = 0) : s % P = 0 := by
  have e := mod_step s P hp
  rw [bit_half hp m] at e; omega
theorem BitRoot.none {a k s : Int} (h : BitRoot a (k + 1) s) (hk : 0 ≤ k) (hc : sqrtv a < s + p2 k) : BitRoot a k s := by
  obtain ⟨s0, m, lo, hi⟩ := h
  have hp := p2_pos k
  rw [p2_succ hk] at *
  exact ⟨s0, mod_half hp m, lo, hc⟩
theorem BitRoot.one {a k s : Int} (h : BitRoot a (k + 1) s) (hk : 0 ≤ k) (hc : s + p2 k ≤ sqrtv a) : BitRoot a k (s + p2 k) := by
  obtain ⟨s0, m, lo, hi⟩ := h
  have hp := p2_pos k
  rw [p2_succ hk] at *
  refine ⟨by omega, ?_, hc, by omega⟩
  rw [Int.add_emod_right]
  exact mod_half hp m
theorem BitRoot.bit {a k s : Int} (h : BitRoot a (k + 1) s) (hk : 0 ≤ k) : s / p2 k % 2 = 0 := by
  obtain ⟨s0, m, lo, hi⟩ := h
  have hp := p2_pos k
  rw [p2_succ hk] at m
  exact bit_half hp m
theorem BitRoot.done {a s : Int} (h : BitRoot a 0 s) : s = sqrtv a := by
  have := h.lo; have := h.hi; rw [p2_0] at *; omega

end Go.Proofs.Ytjofnopidfohhaa
