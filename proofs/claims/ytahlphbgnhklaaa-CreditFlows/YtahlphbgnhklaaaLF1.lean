/-
  Plain arithmetic of who sends as often as may be: what was given, taken and is left, step by step. No program in this text. No conditions.
-/
import Derived.Test.YtahlphbgnhklaaaN1
namespace Go.Proofs.Ytahlphbgnhklaaa
set_option linter.unusedVariables false
/-- Behind i steps: what was given and taken, the time, and what there is. -/
structure FI (b s : Int) (i : Nat) (G K A H : Int) : Prop where
  g0 : 0 ≤ G
  g1 : G ≤ i * 1048576000000
  k0 : 0 ≤ K
  a0 : 0 ≤ A
  a1 : A ≤ i * 1000000
  h0 : 0 ≤ H
  h1 : H ≤ b * 1000000
  way : (G = 0 ∧ K = 0 ∧ H = b * 1000000) ∨ (H < s * 1000000 ∧ s * 1000000 ≤ K + H - G ∧ K + H - G ≤ b * 1000000)
theorem FI.start (b s : Int) (hb : 0 ≤ b) : FI b s 0 0 0 0 (b * 1000000) := ⟨by omega, by omega, by omega, by omega, by omega, by omega, by omega, .inl ⟨rfl, rfl, rfl⟩⟩
theorem FI.end {b s : Int} {i : Nat} {G K A H : Int} (h : FI b s i G K A H) (hs : 0 ≤ s) : G - s * 1000000 ≤ K ∧ K ≤ G + b * 1000000 := by
  obtain ⟨g0, g1, k0, a0, a1, h0, h1, way⟩ := h
  omega
theorem FI.bds {b s : Int} {i : Nat} {G K A H : Int} (h : FI b s i G K A H) (b1 : b ≤ 1048576) (hi : i ≤ 60) : (0 ≤ G ∧ G ≤ 62914560000000) ∧ (0 ≤ K ∧ K ≤ 63963136000000) ∧ (0 ≤ A ∧ A ≤ 60000000) ∧ 0 ≤ H ∧ H ≤ b * 1000000 := by
  obtain ⟨g0, g1, k0, a0, a1, h0, h1, way⟩ := h
  omega
/-- Filled: x is what came. -/
theorem FI.fill {b s : Int} {i : Nat} {G K A H x H1 : Int} (h : FI b s i G K A H) (x0 : 0 ≤ x) (x1 : x ≤ (b - s) * 1000000) (hs : 0 ≤ s) (hx : heldv b (x + H) = H1) :
    0 ≤ H1 ∧ H1 ≤ b * 1000000 ∧ s * 1000000 ≤ K + H1 - (G + x) ∧ K + H1 - (G + x) ≤ b * 1000000 := by
  obtain ⟨g0, g1, k0, a0, a1, h0, h1, way⟩ := h
  unfold heldv at hx
  split at hx <;> omega
theorem FI.next {b s : Int} {i : Nat} {G K A H x p H1 K2 H2 J : Int} (h : FI b s i G K A H) (x0 : 0 ≤ x) (x1 : x ≤ (b - s) * 1000000) (b1 : b ≤ 1048576) (hs : 0 ≤ s) (hx : heldv b (x + H) = H1) (p0 : 0 ≤ p) (p1 : p ≤ 1000000)
    (J0 : 0 ≤ J) (hK : K2 = K + J) (hH : H2 = H1 - J) (h20 : 0 ≤ H2) (h2 : H2 < s * 1000000) : FI b s (i + 1) (G + x) K2 (A + p) H2 := by
  obtain ⟨f0, f1, f2, f3⟩ := h.fill x0 x1 hs hx
  obtain ⟨g0, g1, k0, a0, a1, h0, h1, way⟩ := h
  exact ⟨by omega, by omega, by omega, by omega, by omega, by omega, by omega, .inr ⟨h2, by omega, by omega⟩⟩
/-- So often it may be taken at most. -/
theorem times_le {b s : Int} {j : Nat} (s0 : 1 ≤ s) (hq : b / s ≤ 4096) (h : (j : Int) * (s * 1000000) ≤ b * 1000000) : (j : Int) ≤ 4096 := by
  have e : (j : Int) * (s * 1000000) = (j * s) * 1000000 := by rw [Int.mul_assoc]
  rw [e] at h
  have : (j : Int) ≤ b / s := (Int.le_ediv_iff_mul_le (by omega)).2 (by omega)
  omega
theorem times_succ {s : Int} {j : Nat} {J : Int} (h : J = (j : Int) * (s * 1000000)) : J + s * 1000000 = ((j + 1 : Nat) : Int) * (s * 1000000) := by
  rw [h]; push_cast; rw [Int.add_mul, Int.one_mul]
end Go.Proofs.Ytahlphbgnhklaaa
