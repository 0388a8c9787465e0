/-
  Plain arithmetic of queues: what is right, what is left, when a packet leaves, a row of packets. No Go and no program in this text. No conditions.
-/
import Derived.Below
namespace Go.Proofs.Ytiikdbadbocjcaa
set_option linter.unusedVariables false

/-- Is a number within two? -/
def wi (n l g : Int) : Bool := decide (l ≤ n) && decide (n ≤ g)
theorem wi_iff {n l g : Int} : wi n l g = true ↔ l ≤ n ∧ n ≤ g := by simp [wi]
theorem wi_not {n l g : Int} : wi n l g = false ↔ ¬ (l ≤ n ∧ n ≤ g) := by rw [← wi_iff]; simp
/-- Is a queue right? -/
def isq (m a w : Int) : Bool := wi m 1 1073741824 && (wi a 0 1099511627776 && wi w 0 (m * 1000000))
theorem isq_iff {m a w : Int} : isq m a w = true ↔ (1 ≤ m ∧ m ≤ 1073741824) ∧ (0 ≤ a ∧ a ≤ 1099511627776) ∧ 0 ≤ w ∧ w ≤ m * 1000000 := by simp [isq, wi_iff]
theorem isq_not {m a w : Int} : isq m a w = false ↔ ¬ ((1 ≤ m ∧ m ≤ 1073741824) ∧ (0 ≤ a ∧ a ≤ 1099511627776) ∧ 0 ≤ w ∧ w ≤ m * 1000000) := by rw [← isq_iff]; simp
/-- What is left of work. -/
def lft (w r s : Int) : Int := if w / r < s then 0 else w - r * s
theorem lft_test {w r s : Int} (hr : 0 < r) : w / r < s ↔ w < r * s := by rw [Int.mul_comm]; exact Int.ediv_lt_iff_lt_mul hr
theorem lft_eq {w r s : Int} (hr : 0 < r) : lft w r s = if w < r * s then 0 else w - r * s := by
  unfold lft
  by_cases h : w / r < s
  · rw [if_pos h, if_pos ((lft_test hr).1 h)]
  · rw [if_neg h, if_neg (fun k => h ((lft_test hr).2 k))]
theorem lft_bd {w r s : Int} (hr : 0 < r) (w0 : 0 ≤ w) (s0 : 0 ≤ s) : 0 ≤ lft w r s ∧ lft w r s ≤ w := by
  have := Int.mul_nonneg (show 0 ≤ r by omega) s0
  rw [lft_eq hr]; split <;> omega
theorem lft_lft {w r s u : Int} (hr : 0 < r) (w0 : 0 ≤ w) (s0 : 0 ≤ s) (u0 : 0 ≤ u) : lft (lft w r s) r u = lft w r (s + u) := by
  have h1 := Int.mul_nonneg (show 0 ≤ r by omega) s0
  have h2 := Int.mul_nonneg (show 0 ≤ r by omega) u0
  rw [lft_eq hr, lft_eq hr, lft_eq hr, Int.mul_add]
  by_cases h : w < r * s
  · rw [if_pos h, if_pos (show w < r * s + r * u by omega)]; split <;> omega
  · rw [if_neg h]; split <;> split <;> omega
/-- What a queue is that drains, and the error. -/
def drE (m a w r t : Int) : Int := if isq m a w = true then (if wi r 1 1000000000 = true then (if wi t 0 1099511627776 = true ∧ a ≤ t then 0 else 10) else 8) else 1
def drA (m a w r t : Int) : Int := if drE m a w r t = 0 then t else 0
def drW (m a w r t : Int) : Int := if drE m a w r t = 0 then lft w r (t - a) else 0
theorem drE_cases (m a w r t : Int) : (isq m a w = false ∧ drE m a w r t = 1) ∨ (isq m a w = true ∧ wi r 1 1000000000 = false ∧ drE m a w r t = 8) ∨ (isq m a w = true ∧ wi r 1 1000000000 = true ∧ wi t 0 1099511627776 = false ∧ drE m a w r t = 10) ∨ (isq m a w = true ∧ wi r 1 1000000000 = true ∧ wi t 0 1099511627776 = true ∧ t < a ∧ drE m a w r t = 10) ∨
    (isq m a w = true ∧ wi r 1 1000000000 = true ∧ wi t 0 1099511627776 = true ∧ a ≤ t ∧ drE m a w r t = 0) := by
  unfold drE
  cases hi : isq m a w
  · left; simp
  · right
    cases hr : wi r 1 1000000000
    · left; simp
    · right
      cases ht : wi t 0 1099511627776
      · left; simp
      · right
        rcases Int.lt_or_le t a with g | g
        · left; refine ⟨rfl, rfl, rfl, g, ?_⟩; rw [if_pos rfl, if_pos rfl, if_neg (by omega)]
        · right; refine ⟨rfl, rfl, rfl, g, ?_⟩; rw [if_pos rfl, if_pos rfl, if_pos ⟨rfl, g⟩]
theorem dr_ok {m a w r t : Int} (h : drE m a w r t = 0) : isq m a w = true ∧ (1 ≤ r ∧ r ≤ 1000000000) ∧ (0 ≤ t ∧ t ≤ 1099511627776) ∧ a ≤ t ∧ drA m a w r t = t ∧ drW m a w r t = lft w r (t - a) := by
  have hA : drA m a w r t = t := by unfold drA; rw [if_pos h]
  have hW : drW m a w r t = lft w r (t - a) := by unfold drW; rw [if_pos h]
  rcases drE_cases m a w r t with ⟨_, e⟩ | ⟨_, _, e⟩ | ⟨_, _, _, e⟩ | ⟨_, _, _, _, e⟩ | ⟨v1, v2, v3, v4, e⟩
  · omega
  · omega
  · omega
  · omega
  · exact ⟨v1, wi_iff.1 v2, wi_iff.1 v3, v4, hA, hW⟩
theorem dr_no {m a w r t : Int} (h : drE m a w r t ≠ 0) : drA m a w r t = 0 ∧ drW m a w r t = 0 := ⟨by unfold drA; rw [if_neg h], by unfold drW; rw [if_neg h]⟩
theorem dr_is {m a w r t : Int} (h1 : isq m a w = true) (h2 : 1 ≤ r) (h3 : r ≤ 1000000000) (h4 : 0 ≤ t) (h5 : t ≤ 1099511627776) (h6 : a ≤ t) : drE m a w r t = 0 := by
  unfold drE; rw [if_pos h1, if_pos (wi_iff.2 ⟨h2, h3⟩), if_pos ⟨wi_iff.2 ⟨h4, h5⟩, h6⟩]
theorem dr_bd {m a w r t : Int} (h : drE m a w r t = 0) : isq m (drA m a w r t) (drW m a w r t) = true ∧ drW m a w r t ≤ w := by
  obtain ⟨h1, h2, h3, h4, h5, h6⟩ := dr_ok h
  obtain ⟨k1, k2, k3⟩ := isq_iff.1 h1
  have := lft_bd (w := w) (r := r) (s := t - a) (by omega) (by omega) (by omega)
  rw [h5, h6]
  exact ⟨isq_iff.2 ⟨k1, h3, by omega, by omega⟩, this.2⟩
/-- When a packet leaves, what the queue is then, and the error. -/
def arE (m a w r t s : Int) : Int := if drE m a w r t = 0 then (if wi s 1 9000 = true then (if m * 1000000 < drW m a w r t + s * 1000000 then 2 else 0) else 9) else drE m a w r t
def arL (m a w r t s : Int) : Int := if arE m a w r t s = 0 then t + (drW m a w r t + s * 1000000 + r - 1) / r else 0
def arA (m a w r t s : Int) : Int := if arE m a w r t s = 0 then t else 0
def arW (m a w r t s : Int) : Int := if arE m a w r t s = 0 then drW m a w r t + s * 1000000 else 0
theorem arE_cases (m a w r t s : Int) : (drE m a w r t ≠ 0 ∧ arE m a w r t s = drE m a w r t) ∨ (drE m a w r t = 0 ∧ wi s 1 9000 = false ∧ arE m a w r t s = 9) ∨ (drE m a w r t = 0 ∧ wi s 1 9000 = true ∧ m * 1000000 < drW m a w r t + s * 1000000 ∧ arE m a w r t s = 2) ∨
    (drE m a w r t = 0 ∧ wi s 1 9000 = true ∧ drW m a w r t + s * 1000000 ≤ m * 1000000 ∧ arE m a w r t s = 0) := by
  unfold arE
  by_cases h : drE m a w r t = 0
  · right
    rw [if_pos h]
    cases hs : wi s 1 9000
    · left; exact ⟨h, rfl, by simp⟩
    · right
      rcases Int.lt_or_le (m * 1000000) (drW m a w r t + s * 1000000) with g | g
      · left; exact ⟨h, rfl, g, by rw [if_pos rfl, if_pos g]⟩
      · right; exact ⟨h, rfl, g, by rw [if_pos rfl, if_neg (by omega)]⟩
  · left; rw [if_neg h]; exact ⟨h, rfl⟩
theorem ar_ok {m a w r t s : Int} (h : arE m a w r t s = 0) : drE m a w r t = 0 ∧ (1 ≤ s ∧ s ≤ 9000) ∧ drW m a w r t + s * 1000000 ≤ m * 1000000 ∧ arL m a w r t s = t + (drW m a w r t + s * 1000000 + r - 1) / r ∧ arA m a w r t s = t ∧ arW m a w r t s = drW m a w r t + s * 1000000 := by
  have h1 : arL m a w r t s = t + (drW m a w r t + s * 1000000 + r - 1) / r := by unfold arL; rw [if_pos h]
  have h2 : arA m a w r t s = t := by unfold arA; rw [if_pos h]
  have h3 : arW m a w r t s = drW m a w r t + s * 1000000 := by unfold arW; rw [if_pos h]
  rcases arE_cases m a w r t s with ⟨e, f⟩ | ⟨_, _, f⟩ | ⟨_, _, _, f⟩ | ⟨e, f, g, _⟩
  · omega
  · omega
  · omega
  · exact ⟨e, wi_iff.1 f, g, h1, h2, h3⟩
theorem ar_no {m a w r t s : Int} (h : arE m a w r t s ≠ 0) : arL m a w r t s = 0 ∧ arA m a w r t s = 0 ∧ arW m a w r t s = 0 := ⟨by unfold arL; rw [if_neg h], by unfold arA; rw [if_neg h], by unfold arW; rw [if_neg h]⟩
theorem ar_isq {m a w r t s : Int} (h : arE m a w r t s = 0) : isq m (arA m a w r t s) (arW m a w r t s) = true := by
  obtain ⟨h1, h2, h3, h4, h5, h6⟩ := ar_ok h
  obtain ⟨k1, k2⟩ := dr_bd h1
  obtain ⟨j1, j2, j3, j4, j5, j6⟩ := dr_ok h1
  obtain ⟨g1, g2, g3⟩ := isq_iff.1 k1
  rw [h5, h6]
  exact isq_iff.2 ⟨g1, j3, by omega, by omega⟩
/-- Up by a quotient. -/
theorem up_bd {x r : Int} (x0 : 0 ≤ x) (r0 : 1 ≤ r) : 0 ≤ (x + r - 1) / r ∧ (x + r - 1) / r ≤ x := by
  refine ⟨Int.ediv_nonneg (by omega) (by omega), ?_⟩
  have := (Int.ediv_lt_iff_lt_mul (a := x + r - 1) (b := x + 1) (c := r) (by omega)).2 (by
    have := Int.mul_le_mul_of_nonneg_left r0 (show 0 ≤ x by omega)
    rw [Int.add_mul, Int.one_mul]; omega)
  omega
theorem arL_bd {m a w r t s : Int} (h : arE m a w r t s = 0) : 0 ≤ arL m a w r t s ∧ t ≤ arL m a w r t s ∧ arL m a w r t s ≤ 1099511627776 + 1073741824000000 := by
  obtain ⟨h1, h2, h3, h4, h5, h6⟩ := ar_ok h
  obtain ⟨k1, k2⟩ := dr_bd h1
  obtain ⟨j1, j2, j3, j4, j5, j6⟩ := dr_ok h1
  obtain ⟨g1, g2, g3⟩ := isq_iff.1 k1
  have := up_bd (x := drW m a w r t + s * 1000000) (r := r) (by omega) (by omega)
  omega
/-- A load. -/
structure Ld where
  a : Int
  s : Int
/-- The queue behind so many of a row. -/
def qs (m r : Int) (Z : Nat → Ld) : Nat → Int × Int
  | 0 => (0, 0)
  | i + 1 => if arE m (qs m r Z i).1 (qs m r Z i).2 r (Z i).a (Z i).s = 0 then (arA m (qs m r Z i).1 (qs m r Z i).2 r (Z i).a (Z i).s, arW m (qs m r Z i).1 (qs m r Z i).2 r (Z i).a (Z i).s) else qs m r Z i
def qa (m r : Int) (Z : Nat → Ld) (i : Nat) : Int := (qs m r Z i).1
def qw (m r : Int) (Z : Nat → Ld) (i : Nat) : Int := (qs m r Z i).2
/-- The error of a packet of a row; when it leaves. -/
def fe (m r : Int) (Z : Nat → Ld) (i : Nat) : Int := arE m (qa m r Z i) (qw m r Z i) r (Z i).a (Z i).s
def fl (m r : Int) (Z : Nat → Ld) (i : Nat) : Int := arL m (qa m r Z i) (qw m r Z i) r (Z i).a (Z i).s
def fx (m r : Int) (Z : Nat → Ld) (i : Nat) : Bool := !(fe m r Z i == 0)
theorem qa_0 (m r : Int) (Z : Nat → Ld) : qa m r Z 0 = 0 := rfl
theorem qw_0 (m r : Int) (Z : Nat → Ld) : qw m r Z 0 = 0 := rfl
theorem q_yes {m r : Int} {Z : Nat → Ld} {i : Nat} (h : fe m r Z i = 0) : qa m r Z (i + 1) = arA m (qa m r Z i) (qw m r Z i) r (Z i).a (Z i).s ∧ qw m r Z (i + 1) = arW m (qa m r Z i) (qw m r Z i) r (Z i).a (Z i).s := by
  have e : qs m r Z (i + 1) = (arA m (qs m r Z i).1 (qs m r Z i).2 r (Z i).a (Z i).s, arW m (qs m r Z i).1 (qs m r Z i).2 r (Z i).a (Z i).s) := if_pos h
  exact ⟨congrArg Prod.fst e, congrArg Prod.snd e⟩
theorem q_no {m r : Int} {Z : Nat → Ld} {i : Nat} (h : fe m r Z i ≠ 0) : qa m r Z (i + 1) = qa m r Z i ∧ qw m r Z (i + 1) = qw m r Z i := by
  have e : qs m r Z (i + 1) = qs m r Z i := if_neg h
  exact ⟨congrArg Prod.fst e, congrArg Prod.snd e⟩
theorem q_isq {m r : Int} {Z : Nat → Ld} (m0 : 1 ≤ m) (m1 : m ≤ 1073741824) (i : Nat) : isq m (qa m r Z i) (qw m r Z i) = true := by
  induction i with
  | zero => rw [qa_0, qw_0]; exact isq_iff.2 ⟨⟨m0, m1⟩, by omega, by omega, by omega⟩
  | succ i ih =>
    by_cases h : fe m r Z i = 0
    · obtain ⟨e1, e2⟩ := q_yes h; rw [e1, e2]; exact ar_isq h
    · obtain ⟨e1, e2⟩ := q_no h; rw [e1, e2]; exact ih
theorem fl_no {m r : Int} {Z : Nat → Ld} {i : Nat} (h : fe m r Z i ≠ 0) : fl m r Z i = 0 := (ar_no h).1
theorem fl_bd {m r : Int} {Z : Nat → Ld} (i : Nat) : 0 ≤ fl m r Z i ∧ fl m r Z i ≤ 1099511627776 + 1073741824000000 := by
  by_cases h : fe m r Z i = 0
  · have := arL_bd h; unfold fl; omega
  · rw [fl_no h]; omega
/-- What a packet that is taken tells. -/
theorem q_took {m r : Int} {Z : Nat → Ld} {i : Nat} (h : fe m r Z i = 0) : (1 ≤ m ∧ m ≤ 1073741824) ∧ (1 ≤ r ∧ r ≤ 1000000000) ∧ (0 ≤ (Z i).a ∧ (Z i).a ≤ 1099511627776) ∧ qa m r Z i ≤ (Z i).a ∧ 0 ≤ qa m r Z i ∧ 0 ≤ qw m r Z i ∧ (1 ≤ (Z i).s ∧ (Z i).s ≤ 9000) ∧
    lft (qw m r Z i) r ((Z i).a - qa m r Z i) + (Z i).s * 1000000 ≤ m * 1000000 ∧ qa m r Z (i + 1) = (Z i).a ∧ qw m r Z (i + 1) = lft (qw m r Z i) r ((Z i).a - qa m r Z i) + (Z i).s * 1000000 ∧ fl m r Z i = (Z i).a + (lft (qw m r Z i) r ((Z i).a - qa m r Z i) + (Z i).s * 1000000 + r - 1) / r := by
  obtain ⟨h1, h2, h3, h4, h5, h6⟩ := ar_ok h
  obtain ⟨j1, j2, j3, j4, j5, j6⟩ := dr_ok h1
  obtain ⟨g1, g2, g3⟩ := isq_iff.1 j1
  obtain ⟨e1, e2⟩ := q_yes h
  rw [j6] at h3 h4 h6
  exact ⟨g1, j2, j3, j4, g2.1, g3.1, h2, h3, e1.trans h5, e2.trans h6, h4⟩
end Go.Proofs.Ytiikdbadbocjcaa
