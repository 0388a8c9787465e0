/-
  The program's comparison is that of the numbers. No conditions but the numbers' own ranges.
-/
import Derived.Test.YtahlphbgnhklaaaD1
namespace Go.Proofs.Ytahlphbgnhklaaa
open Go.RowKit
set_option linter.unusedVariables false

set_option maxHeartbeats 800000 in
set_option maxRecDepth 100000 in
theorem cmp_any (a b : Int) (ha : W128 a) (hb : W128 b) (w : World) :
    Calls Try.prog 21 #[.agg #[.int .u64 (hiw a), .int .u64 (low a)], .agg #[.int .u64 (hiw b), .int .u64 (low b)]] w fun e w' => e = .returned (.int .i64 (cmpv a b)) ∧ Below w.heap.size w w' := by
  by_cases hab : a = b
  · subst hab
    have E : cmpv a a = 0 := by simp [cmpv]
    rw [E]; clear E
    go_enter Try.func21, Try.ntmps21
    go_wp2
    go_ret
    exact ⟨rfl, by go_grown⟩
  · have hne : (hiw a == hiw b) = false ∨ (low a == low b) = false := by
      by_cases h : hiw a = hiw b
      · right; simp; intro h2; exact hab (hl_inj h h2)
      · left; simpa using h
    by_cases hlt : a < b
    · have E : Hid (cmpv a b = -1) := by show cmpv a b = -1; unfold cmpv; rw [if_pos hlt]
      have S : subc a b = 1 := by unfold subc; rw [if_pos hlt]
      clear hlt hab
      rcases hne with hne | hne
      all_goals
        go_enter Try.func21, Try.ntmps21
        go_wp2_with fail
        refine (sub_any a b ha hb _).mono ?_
        rintro e w1 ⟨rfl, hw1⟩
        rw [S]
        go_wp2
        go_ret
        refine ⟨by rw [E.out]; rfl, ?_⟩
        have h1 : Below w.heap.size w w1 := Below.call (by go_grown) (by simp; omega) hw1
        have := h1.size
        go_grown
    · have E : Hid (cmpv a b = 1) := by show cmpv a b = 1; unfold cmpv; rw [if_neg hlt, if_pos (by omega)]
      have S : subc a b = 0 := by unfold subc; rw [if_neg hlt]
      clear hlt hab
      rcases hne with hne | hne
      all_goals
        go_enter Try.func21, Try.ntmps21
        go_wp2_with fail
        refine (sub_any a b ha hb _).mono ?_
        rintro e w1 ⟨rfl, hw1⟩
        rw [S]
        go_wp2
        go_ret
        refine ⟨by rw [E.out]; rfl, ?_⟩
        have h1 : Below w.heap.size w w1 := Below.call (by go_grown) (by simp; omega) hw1
        have := h1.size
        go_grown
end Go.Proofs.Ytahlphbgnhklaaa
