/-
  Plain arithmetic of a row: what waits is the most that came, from any packet on that was taken, less what the rate took since then. No Go and no program in this text. No conditions.
-/
import Derived.Test.YtiikdbadbocjcaaMO
namespace Go.Proofs.Ytiikdbadbocjcaa
set_option linter.unusedVariables false
theorem qa_mono {m r : Int} {Z : Nat → Ld} {i n : Nat} (h : i ≤ n) : qa m r Z i ≤ qa m r Z n := by
  induction n with
  | zero => have : i = 0 := by omega
            subst this; exact Int.le_refl _
  | succ n ih =>
    by_cases e : i = n + 1
    · subst e; exact Int.le_refl _
    · have := ih (by omega)
      by_cases k : fe m r Z n = 0
      · obtain ⟨_, _, _, h1, _, _, _, _, h2, _⟩ := q_took k
        omega
      · rw [(q_no k).1]; exact this
/-- What is known when all but i of a row of n are summed, from the end on. -/
structure RI (m r : Int) (Z : Nat → Ld) (n : Nat) (t : Int) (i : Nat) (sum most : Int) : Prop where
  s0 : 0 ≤ sum
  s1 : sum ≤ ((n : Int) - i) * 9000000000
  m0 : 0 ≤ most
  m1 : most ≤ sum
  main : qa m r Z n ≤ t → (lft (qw m r Z n) r (t - qa m r Z n) = most ∧ qw m r Z i + sum - r * (t - qa m r Z i) ≤ most) ∨ (lft (qw m r Z n) r (t - qa m r Z n) = qw m r Z i + sum - r * (t - qa m r Z i) ∧ most ≤ qw m r Z i + sum - r * (t - qa m r Z i))
  low : qa m r Z n ≤ t → sum - r * t ≤ most
theorem RI.start {m r : Int} {Z : Nat → Ld} {n : Nat} {t : Int} (r0 : 1 ≤ r) (t0 : 0 ≤ t) : RI m r Z n t n 0 0 := by
  refine ⟨Int.le_refl _, by rw [Int.sub_self]; omega, Int.le_refl _, Int.le_refl _, fun _ => ?_, fun _ => ?_⟩
  · rw [lft_eq (by omega), Int.add_zero]
    split
    · left; exact ⟨rfl, by omega⟩
    · right; exact ⟨rfl, by omega⟩
  · have := Int.mul_nonneg (show 0 ≤ r by omega) t0
    omega
theorem RI.lost {m r : Int} {Z : Nat → Ld} {n : Nat} {t : Int} {i : Nat} {sum most : Int} (h : RI m r Z n t (i + 1) sum most) (e : fe m r Z i ≠ 0) : RI m r Z n t i sum most := by
  obtain ⟨e1, e2⟩ := q_no e
  refine ⟨h.s0, ?_, h.m0, h.m1, fun k => ?_, h.low⟩
  · have := h.s1; omega
  · have := h.main k; rw [e1, e2] at this; exact this
theorem RI.late {m r : Int} {Z : Nat → Ld} {n : Nat} {t : Int} {i : Nat} {sum most : Int} (h : RI m r Z n t (i + 1) sum most) (hi : i < n) (e : fe m r Z i = 0) (ht : t < (Z i).a) : RI m r Z n t i (sum + (Z i).s * 1000000) most := by
  obtain ⟨_, _, _, h1, _, _, ⟨h5, h6⟩, _, h2, _⟩ := q_took e
  have hq := qa_mono (m := m) (r := r) (Z := Z) (show i + 1 ≤ n by omega)
  have := h.s0; have := h.s1; have := h.m0; have := h.m1
  exact ⟨by omega, by omega, h.m0, by omega, fun k => by omega, fun k => by omega⟩
theorem RI.took {m r : Int} {Z : Nat → Ld} {n : Nat} {t : Int} {i : Nat} {sum most M x : Int} (h : RI m r Z n t (i + 1) sum most) (hi : i < n) (e : fe m r Z i = 0) (ht : (Z i).a ≤ t) (hx : r * (t - (Z i).a) = x)
    (hM : (M = most ∧ sum + (Z i).s * 1000000 - x ≤ most) ∨ (M = sum + (Z i).s * 1000000 - x ∧ most ≤ sum + (Z i).s * 1000000 - x)) : RI m r Z n t i (sum + (Z i).s * 1000000) M := by
  obtain ⟨_, ⟨r0, _⟩, ⟨a0, _⟩, h1, h3, h4, ⟨h5, h6⟩, _, h2, h7, _⟩ := q_took e
  have := h.s0; have := h.s1; have := h.m0; have := h.m1
  have x0 : 0 ≤ x := by rw [← hx]; exact Int.mul_nonneg (by omega) (by omega)
  refine ⟨by omega, by omega, by omega, by omega, fun k => ?_, fun k => ?_⟩
  · have g := h.main k
    rw [h2, h7, hx, lft_eq (w := qw m r Z i) (s := (Z i).a - qa m r Z i) (by omega)] at g
    have d : r * (t - qa m r Z i) = x + r * ((Z i).a - qa m r Z i) := by rw [← hx, ← Int.mul_add]; congr 1; omega
    rw [d]
    generalize lft (qw m r Z n) r (t - qa m r Z n) = X at *
    generalize r * ((Z i).a - qa m r Z i) = y at *
    generalize qw m r Z i = q at *
    split at g <;> omega
  · have g := h.low k
    have d : r * t = x + r * (Z i).a := by rw [← hx, ← Int.mul_add]; congr 1; omega
    have y0 : 0 ≤ r * (Z i).a := Int.mul_nonneg (by omega) a0
    omega
theorem RI.end {m r : Int} {Z : Nat → Ld} {n : Nat} {t : Int} {sum most : Int} (h : RI m r Z n t 0 sum most) (k : qa m r Z n ≤ t) : lft (qw m r Z n) r (t - qa m r Z n) = most := by
  have g := h.main k
  have g2 := h.low k
  rw [qa_0, qw_0, Int.sub_zero] at g
  omega
end Go.Proofs.Ytiikdbadbocjcaa
