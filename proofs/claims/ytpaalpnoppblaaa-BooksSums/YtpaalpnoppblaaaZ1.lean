/-
  Books as plain values: how many packets and bytes of an interval are on their way; what each step makes of books; what stays true. No program in this text but its answers. No conditions.
-/
import Derived.Test.YtpaalpnoppblaaaU21
import Derived.Test.YtpaalpnoppblaaaX4b
namespace Go.Proofs.Ytpaalpnoppblaaa
set_option linter.unusedVariables false
/-- How many packets of interval i are there; how many bytes have they. -/
def due (i : Int) : List Pt → Int
  | [] => 0
  | p :: Q => (if p.mi = i then 1 else 0) + due i Q
def owe (i : Int) : List Pt → Int
  | [] => 0
  | p :: Q => (if p.mi = i then p.size else 0) + owe i Q
theorem due_app (i : Int) (A B : List Pt) : due i (A ++ B) = due i A + due i B := by
  induction A with
  | nil => simp [due]
  | cons p A ih => simp only [List.cons_append, due, ih]; omega
theorem owe_app (i : Int) (A B : List Pt) : owe i (A ++ B) = owe i A + owe i B := by
  induction A with
  | nil => simp [owe]
  | cons p A ih => simp only [List.cons_append, owe, ih]; omega
theorem due_perm {A B : List Pt} (i : Int) (h : List.Perm A B) : due i A = due i B := by
  induction h with
  | nil => rfl
  | cons p _ ih => simp only [due, ih]
  | swap p q l => simp only [due]; omega
  | trans _ _ h1 h2 => exact h1.trans h2
theorem owe_perm {A B : List Pt} (i : Int) (h : List.Perm A B) : owe i A = owe i B := by
  induction h with
  | nil => rfl
  | cons p _ ih => simp only [owe, ih]
  | swap p q l => simp only [owe]; omega
  | trans _ _ h1 h2 => exact h1.trans h2
def Szs (Q : List Pt) : Prop := ∀ p ∈ Q, 1 ≤ p.size ∧ p.size ≤ 9000
theorem Szs.tail {p : Pt} {Q : List Pt} (h : Szs (p :: Q)) : Szs Q := fun q hq => h q (by simp [hq])
theorem due_owe {Q : List Pt} (h : Szs Q) (i : Int) : 0 ≤ due i Q ∧ due i Q ≤ owe i Q ∧ owe i Q ≤ due i Q * 9000 := by
  induction Q with
  | nil => simp [due, owe]
  | cons p Q ih =>
    obtain ⟨a, b, c⟩ := ih h.tail
    have := h p (by simp)
    simp only [due, owe]
    split <;> omega
/-- An account is right, and what it has not been told is on its way. -/
structure Owes (m : Mi) (Q : List Pt) : Prop where
  r : Right m
  d : m.pa - m.hi - m.dr = due m.id Q
  o : m.se - m.ac - m.lo = owe m.id Q
theorem Owes.perm {m : Mi} {A B : List Pt} (h : Owes m A) (p : List.Perm A B) : Owes m B := ⟨h.r, by rw [← due_perm _ p]; exact h.d, by rw [← owe_perm _ p]; exact h.o⟩
theorem Owes.skip {m : Mi} {p : Pt} {Q : List Pt} (h : Owes m (p :: Q)) (hp : p.mi ≠ m.id) : Owes m Q :=
  ⟨h.r, by have := h.d; simp only [due, if_neg hp] at this; omega, by have := h.o; simp only [owe, if_neg hp] at this; omega⟩
theorem Owes.lost {m : Mi} {p : Pt} {Q : List Pt} (h : Owes m (p :: Q)) (hs : Szs (p :: Q)) (hp : p.mi = m.id) : loseE m p.size = 0 ∧ loseV m p.size = lostM m p.size ∧ Owes (lostM m p.size) Q := by
  obtain ⟨R, d, o⟩ := h
  simp only [due, owe, if_pos hp] at d o
  have hz := hs p (by simp)
  obtain ⟨a, b, c⟩ := due_owe hs.tail m.id
  have R2 : Right (lostM m p.size) :=
    ⟨R.i0, R.f0, R.f1, R.t0, R.p0, R.p1, R.h0, R.h1, by have := R.d0; show 0 ≤ m.dr + 1; omega, by show m.dr + 1 ≤ m.pa - m.hi; omega, R.s0, R.s1, R.a0, R.a1, by have := R.l0; show m.dr + 1 ≤ m.lo + p.size; omega, by have := R.l1; show m.lo + p.size ≤ (m.dr + 1) * 9000; omega,
      by show 0 ≤ m.se - m.ac - (m.lo + p.size); omega, by show m.se - m.ac - (m.lo + p.size) = 0 ↔ m.hi + (m.dr + 1) = m.pa; constructor <;> intro <;> omega, R.n0, R.n1, R.n2, R.st0, R.st1, R.sr0, R.sr1, R.tt0, R.tt1, R.tr0, R.tr1, R.rr0, R.rr1⟩
  have e : loseE m p.size = 0 := by simp [loseE, (right_iff m).2 R, win_iff.2 hz, (right_iff _).2 R2]
  exact ⟨e, by simp [loseV, e], R2, by show m.pa - m.hi - (m.dr + 1) = due m.id Q; omega, by show m.se - m.ac - (m.lo + p.size) = owe m.id Q; omega⟩
theorem Owes.hit {m : Mi} {p : Pt} {Q : List Pt} (h : Owes m (p :: Q)) (hs : Szs (p :: Q)) (hp : p.mi = m.id) : Right (hitM m p.size) ∧ Owes (hitM m p.size) Q := by
  obtain ⟨R, d, o⟩ := h
  simp only [due, owe, if_pos hp] at d o
  have hz := hs p (by simp)
  obtain ⟨a, b, c⟩ := due_owe hs.tail m.id
  have R2 : Right (hitM m p.size) :=
    ⟨R.i0, R.f0, R.f1, R.t0, R.p0, R.p1, by have := R.h0; show 0 ≤ m.hi + 1; omega, by have := R.d0; show m.hi + 1 ≤ m.pa; omega, R.d0, by show m.dr ≤ m.pa - (m.hi + 1); omega, R.s0, R.s1, by have := R.a0; show m.hi + 1 ≤ m.ac + p.size; omega, by have := R.a1; show m.ac + p.size ≤ (m.hi + 1) * 9000; omega, R.l0, R.l1,
      by show 0 ≤ m.se - (m.ac + p.size) - m.lo; omega, by show m.se - (m.ac + p.size) - m.lo = 0 ↔ m.hi + 1 + m.dr = m.pa; constructor <;> intro <;> omega, R.n0, R.n1, by have := R.n2; show m.n ≤ m.hi + 1; omega, R.st0, R.st1, R.sr0, R.sr1, R.tt0, R.tt1, R.tr0, R.tr1, R.rr0, R.rr1⟩
  exact ⟨R2, R2, by show m.pa - (m.hi + 1) - m.dr = due m.id Q; omega, by show m.se - (m.ac + p.size) - m.lo = owe m.id Q; omega⟩
theorem right_samp {m : Mi} {t r : Int} (R : Right m) (hn : m.n < m.hi) (hm : m.n < 1024) (t0 : 0 ≤ t) (t1 : t ≤ 60000000) (r0 : 0 ≤ r) (r1 : r ≤ 60000000) : Right (sampM m t r) := by
  have a0 := Int.mul_nonneg t0 t0; have a1 := Int.mul_nonneg t0 r0; have a2 := Int.mul_nonneg r0 r0
  have b0 : t * t ≤ 60000000 * 60000000 := Int.mul_le_mul t1 t1 t0 (by omega)
  have b1 : t * r ≤ 60000000 * 60000000 := Int.mul_le_mul t1 r1 r0 (by omega)
  have b2 : r * r ≤ 60000000 * 60000000 := Int.mul_le_mul r1 r1 r0 (by omega)
  rw [show (60000000 : Int) * 60000000 = 3600000000000000 from rfl] at b0 b1 b2
  refine ⟨R.i0, R.f0, R.f1, R.t0, R.p0, R.p1, R.h0, R.h1, R.d0, R.d1, R.s0, R.s1, R.a0, R.a1, R.l0, R.l1, R.x0, R.x1, by have := R.n0; show 0 ≤ m.n + 1; omega, by show m.n + 1 ≤ 1024; omega, by show m.n + 1 ≤ m.hi; omega, ?_, ?_, ?_, ?_, ?_, ?_, ?_, ?_, ?_, ?_⟩
  · have := R.st0; show 0 ≤ m.st + t; omega
  · have := R.st1; show m.st + t ≤ (m.n + 1) * 60000000; omega
  · have := R.sr0; show 0 ≤ m.sr + r; omega
  · have := R.sr1; show m.sr + r ≤ (m.n + 1) * 60000000; omega
  · have := R.tt0; show 0 ≤ m.tt + t * t; omega
  · have := R.tt1; show m.tt + t * t ≤ (m.n + 1) * 3600000000000000; omega
  · have := R.tr0; show 0 ≤ m.tr + t * r; omega
  · have := R.tr1; show m.tr + t * r ≤ (m.n + 1) * 3600000000000000; omega
  · have := R.rr0; show 0 ≤ m.rr + r * r; omega
  · have := R.rr1; show m.rr + r * r ≤ (m.n + 1) * 3600000000000000; omega
theorem Owes.acked {m : Mi} {p : Pt} {Q : List Pt} {a : Int} (h : Owes m (p :: Q)) (hs : Szs (p :: Q)) (hp : p.mi = m.id) (s0 : 0 ≤ p.sent) (s1 : p.sent ≤ a) (s2 : a ≤ 1099511627776) :
    ackE m p.size p.sent a = 0 ∧ ackV m p.size p.sent a = rawM m p.size p.sent a ∧ Owes (rawM m p.size p.sent a) Q := by
  obtain ⟨R2, O2⟩ := h.hit hs hp
  have R := h.r
  have hz := hs p (by simp)
  have hO : Owes (rawM m p.size p.sent a) Q := by
    unfold rawM
    split
    · rename_i hb
      simp only [sampB, Bool.and_eq_true, Bool.not_eq_true', decide_eq_false_iff_not, win_iff] at hb
      have R3 := right_samp R2 (by have := R.n2; show m.n < m.hi + 1; omega) (by have := R.n1; show m.n < 1024; omega) hb.2.1.1 hb.2.1.2 hb.2.2.1 hb.2.2.2
      exact ⟨R3, O2.d, O2.o⟩
    · exact O2
  have e : ackE m p.size p.sent a = 0 := by simp [ackE, (right_iff m).2 R, win_iff.2 hz, (right_iff _).2 hO.r, win_iff.2 ⟨s0, (by omega : p.sent ≤ 1099511627776)⟩, win_iff.2 ⟨s1, s2⟩]
  exact ⟨e, by simp [ackV, e], hO⟩
theorem Owes.more {m : Mi} {p : Pt} {Q : List Pt} (h : Owes m Q) (hp : p.mi ≠ m.id) : Owes m (Q ++ [p]) :=
  ⟨h.r, by rw [due_app, h.d]; simp [due, hp], by rw [owe_app, h.o]; simp [owe, hp]⟩
theorem Owes.sent {m : Mi} {p : Pt} {Q : List Pt} (h : Owes m Q) (hp : p.mi = m.id) (he : sendE m p.size = 0) : sendV m p.size = sentM m p.size ∧ Owes (sentM m p.size) (Q ++ [p]) := by
  obtain ⟨_, _, _, _, hv, q⟩ := send_yes he
  refine ⟨hv, (right_iff _).1 q, ?_, ?_⟩
  · have e1 : due m.id [p] = 1 := by simp [due, hp]
    show m.pa + 1 - m.hi - m.dr = due m.id (Q ++ [p])
    rw [due_app, e1]; have := h.d; omega
  · have e1 : owe m.id [p] = p.size := by simp [owe, hp]
    show m.se + p.size - m.ac - m.lo = owe m.id (Q ++ [p])
    rw [owe_app, e1]; have := h.o; omega
theorem Owes.closed {m : Mi} {Q : List Pt} {a : Int} (h : Owes m Q) (ht : m.to = -1) (h1 : m.fr ≤ a) (h2 : a ≤ 1099511627776) : closeE m a = 0 ∧ closeV m a = { m with «to» := a } ∧ Owes { m with «to» := a } Q := by
  have e : closeE m a = 0 := by simp [closeE, (right_iff m).2 h.r, ht, win_iff.2 ⟨h1, h2⟩]
  obtain ⟨_, _, _, hv, q⟩ := close_yes e
  exact ⟨e, hv, (right_iff _).1 q, h.d, h.o⟩
theorem opened {i a : Int} (i0 : 0 ≤ i) (a0 : 0 ≤ a) (a1 : a ≤ 1099511627776) : openE i a = 0 ∧ openV i a = ⟨i, a, -1, 0, 0, 0, 0, 0, 0, 0, 0, 0, 0, 0, 0⟩ := by
  have e : openE i a = 0 := by simp [openE, i0, win_iff.2 ⟨a0, a1⟩]
  exact ⟨e, by simp [openV, e]⟩
theorem owes_open {i a : Int} {Q : List Pt} (i0 : 0 ≤ i) (a0 : 0 ≤ a) (a1 : a ≤ 1099511627776) (hQ : ∀ p ∈ Q, p.mi ≠ i) : Owes ⟨i, a, -1, 0, 0, 0, 0, 0, 0, 0, 0, 0, 0, 0, 0⟩ Q := by
  have h1 : due i Q = 0 ∧ owe i Q = 0 := by
    induction Q with
    | nil => exact ⟨rfl, rfl⟩
    | cons p Q ih =>
      obtain ⟨a, b⟩ := ih fun q hq => hQ q (by simp [hq])
      have := hQ p (by simp)
      simp [due, owe, a, b, this]
  refine ⟨⟨i0, a0, a1, .inl rfl, ?_, ?_, ?_, ?_, ?_, ?_, ?_, ?_, ?_, ?_, ?_, ?_, ?_, ?_, ?_, ?_, ?_, ?_, ?_, ?_, ?_, ?_, ?_, ?_, ?_, ?_, ?_⟩, ?_, ?_⟩
  all_goals simp [h1.1, h1.2]
end Go.Proofs.Ytpaalpnoppblaaa
