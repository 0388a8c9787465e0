/-
  Plain arithmetic of a row: when the last one is through, and how the next one stands to it; what waits, as the most that came. No Go and no program in this text. No conditions.
-/
import Derived.Test.YtiikdbadbocjcaaM1
namespace Go.Proofs.Ytiikdbadbocjcaa
set_option linter.unusedVariables false
/-- When all of the queue behind so many is through. -/
def ls (m r : Int) (Z : Nat → Ld) (i : Nat) : Int := qa m r Z i + (qw m r Z i + r - 1) / r
theorem ls_0 {m r : Int} {Z : Nat → Ld} (r0 : 1 ≤ r) : ls m r Z 0 = 0 := by
  unfold ls; rw [qa_0, qw_0]
  have : (0 + r - 1) / r = 0 := Int.ediv_eq_zero_of_lt (by omega) (by omega)
  omega
theorem ls_no {m r : Int} {Z : Nat → Ld} {i : Nat} (h : fe m r Z i ≠ 0) : ls m r Z (i + 1) = ls m r Z i := by
  obtain ⟨e1, e2⟩ := q_no h
  unfold ls; rw [e1, e2]
theorem ls_yes {m r : Int} {Z : Nat → Ld} {i : Nat} (h : fe m r Z i = 0) : ls m r Z (i + 1) = fl m r Z i := by
  obtain ⟨_, _, _, _, _, _, _, _, e1, e2, e3⟩ := q_took h
  unfold ls; rw [e1, e2, e3]
theorem ls_bd {m r : Int} {Z : Nat → Ld} (r0 : 1 ≤ r) (i : Nat) : 0 ≤ ls m r Z i ∧ ls m r Z i ≤ 1099511627776 + 1073741824000000 := by
  induction i with
  | zero => rw [ls_0 r0]; omega
  | succ i ih =>
    by_cases h : fe m r Z i = 0
    · rw [ls_yes h]; exact fl_bd i
    · rw [ls_no h]; exact ih
theorem q_took' {m r : Int} {Z : Nat → Ld} {i : Nat} (h : fe m r Z i = 0) : (0 ≤ (Z i).a ∧ (Z i).a ≤ 1099511627776) ∧ (1 ≤ (Z i).s ∧ (Z i).s ≤ 9000) := by
  obtain ⟨_, _, h1, _, _, _, h2, _⟩ := q_took h
  exact ⟨h1, h2⟩
theorem up_le {x r y : Int} (r0 : 0 < r) (h : x ≤ r * y) : (x + r - 1) / r ≤ y := by
  have := (Int.ediv_lt_iff_lt_mul (a := x + r - 1) (b := y + 1) (c := r) r0).2 (by rw [Int.add_mul, Int.one_mul, Int.mul_comm y r]; omega)
  omega
theorem up_ge {x r y : Int} (r0 : 0 < r) (h : (x + r - 1) / r ≤ y) : x ≤ r * y := by
  have := (Int.ediv_lt_iff_lt_mul (a := x + r - 1) (b := y + 1) (c := r) r0).1 (by omega)
  rw [Int.add_mul, Int.one_mul, Int.mul_comm y r] at this; omega
theorem up_div {x r : Int} (r0 : 0 < r) : x / r ≤ (x + r - 1) / r ∧ (x + r - 1) / r ≤ x / r + 1 := by
  have h1 := Int.ediv_le_ediv r0 (show x ≤ x + r - 1 by omega)
  have h2 := Int.ediv_le_ediv r0 (show x + r - 1 ≤ x + 1 * r by omega)
  rw [Int.add_mul_ediv_right _ _ (by omega)] at h2
  exact ⟨h1, h2⟩
theorem up_add {w s r : Int} (r0 : 0 < r) : (w + r - 1) / r + s / r ≤ (w + s + r - 1) / r := by
  apply (Int.le_ediv_iff_mul_le r0).2
  rw [Int.add_mul]
  have h1 := Int.ediv_mul_le (w + r - 1) (show r ≠ 0 by omega)
  have h2 := Int.ediv_mul_le s (show r ≠ 0 by omega)
  omega
/-- How one that is taken stands to the one ahead of it. -/
theorem order_step {m r : Int} {Z : Nat → Ld} {i : Nat} (h : fe m r Z i = 0) :
    ls m r Z i + (Z i).s * 1000000 / r ≤ fl m r Z i ∧ (Z i).s * 1000000 / r ≤ fl m r Z i - (Z i).a ∧ fl m r Z i - (Z i).a ≤ m * 1000000 / r + 1 ∧ (ls m r Z i ≤ (Z i).a → fl m r Z i - (Z i).a ≤ (Z i).s * 1000000 / r + 1) := by
  obtain ⟨_, ⟨r0, _⟩, ⟨t0, _⟩, ht, a0, w0, ⟨s0, _⟩, hM, _, _, e3⟩ := q_took h
  unfold ls
  rw [e3]
  generalize qa m r Z i = a at *
  generalize qw m r Z i = w at *
  generalize (Z i).a = t at *
  generalize (Z i).s * 1000000 = S at *
  have hr : 0 < r := by omega
  rw [lft_eq hr] at hM ⊢
  have hM2 := fun x (hx : x ≤ m * 1000000) => Int.ediv_le_ediv hr (show x + r - 1 ≤ m * 1000000 + 1 * r by omega)
  rw [Int.add_mul_ediv_right _ _ (by omega)] at hM2
  have hS := up_div (x := S) hr
  have hS0 := up_div (x := 0 + S) hr
  by_cases g : w < r * (t - a)
  · rw [if_pos g] at hM ⊢
    have h1 := up_le hr (show w ≤ r * (t - a) by omega)
    have h2 := hM2 _ hM
    rw [Int.zero_add] at h2 ⊢
    refine ⟨by omega, by omega, by omega, fun _ => by omega⟩
  · rw [if_neg g] at hM ⊢
    have h2 := hM2 _ hM
    have h3 : (w - r * (t - a) + S + r - 1) / r = (w + S + r - 1) / r - (t - a) := by
      rw [show w - r * (t - a) + S + r - 1 = w + S + r - 1 + (-(t - a)) * r by rw [Int.neg_mul, Int.mul_comm (t - a) r]; omega, Int.add_mul_ediv_right _ _ (by omega)]; omega
    have h4 := up_add (w := w) (s := S) hr
    have h5 := Int.ediv_le_ediv hr (show S ≤ w - r * (t - a) + S + r - 1 by omega)
    refine ⟨by omega, by omega, by omega, fun hl => ?_⟩
    have h6 := up_ge hr (show (w + r - 1) / r ≤ t - a by omega)
    rw [show w - r * (t - a) + S + r - 1 = S + r - 1 by omega]
    omega
end Go.Proofs.Ytiikdbadbocjcaa
