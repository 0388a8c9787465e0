/-
  The document's answers to each step on an account but an ack, told whole. No conditions.
-/
import Derived.Test.YtpaalpnoppblaaaU9
import Derived.Test.YtpaalpnoppblaaaU11
import Derived.Test.YtpaalpnoppblaaaU14
import Derived.Test.YtpaalpnoppblaaaU15
namespace Go.Proofs.Ytpaalpnoppblaaa
open Go.RowKit
set_option linter.unusedVariables false
theorem right_false {m : Mi} (h : Right m → False) : rightB m = false := by
  rw [Bool.eq_false_iff]; intro e; exact h ((right_iff m).1 e)
theorem refIs_any (m : Mi) (w : World) :
    Calls Try.prog 74 #[.agg #[.int .i64 m.id, .int .i64 m.fr, .int .i64 m.to, .int .i64 m.se, .int .i64 m.ac, .int .i64 m.lo, .int .i64 m.pa, .int .i64 m.hi, .int .i64 m.dr, .int .i64 m.n, .int .i64 m.st, .int .i64 m.sr, .int .i64 m.tt, .int .i64 m.tr, .int .i64 m.rr]] w fun e w' => e = .returned (.bool (rightB m)) ∧ Below w.heap.size w w' := by
  have P := rightB_parts m
  by_cases h : m.id < 0
  · rw [right_false (m := m) (fun R => by have := R.i0; omega)]
    exact is_id m h w
  cases h2 : win m.fr 0 1099511627776
  · rw [right_false (m := m) (fun R => by have := win_iff.2 ⟨R.f0, R.f1⟩; simp_all)]
    exact is_fr m h h2 w
  have f := win_iff.1 h2
  have E : m.to = -1 ∨ (m.fr ≤ m.to ∧ m.to ≤ 1099511627776) → ¬ (m.pa < 0 ∨ 1048576 < m.pa ∨ m.hi < 0 ∨ m.pa < m.hi ∨ m.dr < 0 ∨ m.pa - m.hi < m.dr) →
      Hid (rightB m = true ↔ (win m.se m.pa (m.pa * 9000) = true ∧ win m.ac m.hi (m.hi * 9000) = true ∧ win m.lo m.dr (m.dr * 9000) = true) ∧ (m.ac + m.lo ≤ m.se ∧ (m.ac + m.lo = m.se ↔ m.hi + m.dr = m.pa) ∧ 0 ≤ m.n ∧ m.n ≤ 1024 ∧ m.n ≤ m.hi) ∧ sumsB m = true) := by
    intro ht hk
    show _ ↔ _
    rw [P]
    simp only [win_iff]
    constructor
    · rintro ⟨⟨a1, a2, a3, b, ⟨c1, c1', c2, c2', c3, c3'⟩, d⟩, e⟩
      exact ⟨⟨⟨c1, c1'⟩, ⟨c2, c2'⟩, c3, c3'⟩, d, e⟩
    · rintro ⟨⟨⟨c1, c1'⟩, ⟨c2, c2'⟩, c3, c3'⟩, d, e⟩
      exact ⟨⟨by omega, f, ht, by omega, ⟨c1, c1', c2, c2', c3, c3'⟩, d⟩, e⟩
  have no : (m.pa < 0 ∨ 1048576 < m.pa ∨ m.hi < 0 ∨ m.pa < m.hi ∨ m.dr < 0 ∨ m.pa - m.hi < m.dr) → rightB m = false := fun k => right_false (m := m) (fun R => by have := R.p0; have := R.p1; have := R.h0; have := R.h1; have := R.d0; have := R.d1; omega)
  cases ht : (m.to != -1)
  · by_cases k : m.pa < 0 ∨ 1048576 < m.pa ∨ m.hi < 0 ∨ m.pa < m.hi ∨ m.dr < 0 ∨ m.pa - m.hi < m.dr
    · rw [no k]
      exact isa_no m h h2 ht k w
    · exact isa_yes m h h2 ht (by omega) (by omega) (by omega) (by omega) (by omega) (by omega) _ _ _ _ _ rfl rfl rfl rfl (E (.inl (by simpa using ht)) k) w
  have ht' : m.to ≠ -1 := by simpa using ht
  cases h3 : win m.to 0 1099511627776
  · rw [right_false (m := m) (fun R => by have := win_iff.2 (⟨by have := R.t0; omega, by have := R.t0; omega⟩ : 0 ≤ m.to ∧ m.to ≤ 1099511627776); simp_all)]
    exact is_to m h h2 ht h3 w
  by_cases h4 : m.to < m.fr
  · rw [right_false (m := m) (fun R => by have := R.t0; omega)]
    exact is_tf m h h2 ht h3 h4 w
  by_cases k : m.pa < 0 ∨ 1048576 < m.pa ∨ m.hi < 0 ∨ m.pa < m.hi ∨ m.dr < 0 ∨ m.pa - m.hi < m.dr
  · rw [no k]
    exact isb_no m h h2 ht h3 h4 k w
  · exact isb_yes m h h2 ht h3 h4 (by omega) (by omega) (by omega) (by omega) (by omega) (by omega) _ _ _ _ _ rfl rfl rfl rfl (E (.inr ⟨by omega, (win_iff.1 h3).2⟩) k) w
end Go.Proofs.Ytpaalpnoppblaaa
