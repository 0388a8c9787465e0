/-
  The look of the program at the samples of an account, and at the whole. Conditions: what the looks ahead have told.
-/
import Derived.Test.YtpaalpnoppblaaaU3
import Derived.Test.YtpaalpnoppblaaaU2L
namespace Go.Proofs.Ytpaalpnoppblaaa
open Go.RowKit
set_option linter.unusedVariables false
/-- The samples of an account are right. -/
def samplesB (m : Mi) : Bool := win m.n 0 (min 1024 m.hi) && (win m.st 0 (m.n * 60000000) && (win m.sr 0 (m.n * 60000000) && (win m.tt 0 (m.n * 3600000000000000) && (win m.tr 0 (m.n * 3600000000000000) && win m.rr 0 (m.n * 3600000000000000)))))
set_option maxHeartbeats 4000000 in
set_option maxRecDepth 100000 in
theorem rightSamples_any (m : Mi) (h0 : 0 ≤ m.hi) (h1 : m.hi ≤ 1048576) (w : World) :
    Calls Try.prog 72 #[.agg #[.int .i64 m.id, .int .i64 m.fr, .int .i64 m.to, .int .i64 m.se, .int .i64 m.ac, .int .i64 m.lo, .int .i64 m.pa, .int .i64 m.hi, .int .i64 m.dr, .int .i64 m.n, .int .i64 m.st, .int .i64 m.sr, .int .i64 m.tt, .int .i64 m.tr, .int .i64 m.rr]] w fun e w' => e = .returned (.bool (samplesB m)) ∧ Below w.heap.size w w' := by
  have E : Hid (samplesB m = (win m.n 0 (min 1024 m.hi) && (win m.st 0 (m.n * 60000000) && (win m.sr 0 (m.n * 60000000) && (win m.tt 0 (m.n * 3600000000000000) && (win m.tr 0 (m.n * 3600000000000000) && (win m.rr 0 (m.n * 3600000000000000)))))))) := rfl
  generalize samplesB m = r at *
  obtain ⟨M, hM⟩ : ∃ M, M = min 1024 m.hi := ⟨_, rfl⟩
  have T0 := fun w => within_any m.n 0 M w
  rw [← hM] at E
  have HM : Hid (M = min 1024 m.hi) := hM
  have hm1 : M ≤ 1024 := by omega
  have hm : (m.hi < 1024 ∧ M = m.hi) ∨ (¬ m.hi < 1024 ∧ M = 1024) := by omega
  clear hM
  cases g0 : win m.n 0 M
  · rw [g0] at T0 E
    have e : Hid (r = false) := by show r = false; rw [E.out]; simp
    clear E g0
    rcases hm with ⟨hm, hq⟩ | ⟨hm, hq⟩
    all_goals
      subst hq
      have A0 : AtM (w.alloc (.cells #[.int .i64 m.id, .int .i64 m.fr, .int .i64 m.to, .int .i64 m.se, .int .i64 m.ac, .int .i64 m.lo, .int .i64 m.pa, .int .i64 m.hi, .int .i64 m.dr, .int .i64 m.n, .int .i64 m.st, .int .i64 m.sr, .int .i64 m.tt, .int .i64 m.tr, .int .i64 m.rr] 89)) w.heap.size m := AtM.fresh w m _
      go_enter Try.func72, Try.ntmps72
      go_wp2_with (refine wpList_ldM rfl rfl rfl mit89 (by assumption) ?_)
      refine (T0 _).mono ?_
      rintro e w' ⟨rfl, rfl⟩
      go_wp2
      go_ret
      exact ⟨by rw [e.out]; rfl, by go_grown⟩
  rw [g0] at T0 E
  obtain ⟨n0, n1⟩ := win_iff.1 g0
  have T1 := fun w => summed_any m m.st 60000000 (by omega) (by omega) w
  have T2 := fun w => summed_any m m.sr 60000000 (by omega) (by omega) w
  have T3 := fun w => summed_any m m.tt 3600000000000000 (by omega) (by omega) w
  have T4 := fun w => summed_any m m.tr 3600000000000000 (by omega) (by omega) w
  have T5 := fun w => summed_any m m.rr 3600000000000000 (by omega) (by omega) w
  cases g1 : win m.st 0 (m.n * 60000000)
  · rw [g1] at T1 E
    have e : Hid (r = false) := by show r = false; rw [E.out]; simp
    clear E g0 g1
    clear T2 T3 T4 T5
    rcases hm with ⟨hm, hq⟩ | ⟨hm, hq⟩
    all_goals
      subst hq
      have A0 : AtM (w.alloc (.cells #[.int .i64 m.id, .int .i64 m.fr, .int .i64 m.to, .int .i64 m.se, .int .i64 m.ac, .int .i64 m.lo, .int .i64 m.pa, .int .i64 m.hi, .int .i64 m.dr, .int .i64 m.n, .int .i64 m.st, .int .i64 m.sr, .int .i64 m.tt, .int .i64 m.tr, .int .i64 m.rr] 89)) w.heap.size m := AtM.fresh w m _
      go_enter Try.func72, Try.ntmps72
      go_wp2_with (refine wpList_ldM rfl rfl rfl mit89 (by assumption) ?_)
      refine (T0 _).mono ?_
      rintro e w' ⟨rfl, rfl⟩
      go_wp2_with (refine wpList_ldM rfl rfl rfl mit89 (by assumption) ?_)
      refine (T1 _).mono ?_
      rintro e w1 ⟨rfl, hw1⟩
      have g1 : Below w.heap.size w w1 := Below.call (by go_grown) (by simp) hw1
      have A1 : AtM w1 w.heap.size m := AtM.of hw1 (AtM.fresh _ _ _)
      have x1 := A1.c11
      go_wp2
      go_ret
      exact ⟨by rw [e.out]; rfl, g1⟩
  rw [g1] at T1 E
  cases g2 : win m.sr 0 (m.n * 60000000)
  · rw [g2] at T2 E
    have e : Hid (r = false) := by show r = false; rw [E.out]; simp
    clear E g0 g1 g2
    clear T3 T4 T5
    rcases hm with ⟨hm, hq⟩ | ⟨hm, hq⟩
    all_goals
      subst hq
      have A0 : AtM (w.alloc (.cells #[.int .i64 m.id, .int .i64 m.fr, .int .i64 m.to, .int .i64 m.se, .int .i64 m.ac, .int .i64 m.lo, .int .i64 m.pa, .int .i64 m.hi, .int .i64 m.dr, .int .i64 m.n, .int .i64 m.st, .int .i64 m.sr, .int .i64 m.tt, .int .i64 m.tr, .int .i64 m.rr] 89)) w.heap.size m := AtM.fresh w m _
      go_enter Try.func72, Try.ntmps72
      go_wp2_with (refine wpList_ldM rfl rfl rfl mit89 (by assumption) ?_)
      refine (T0 _).mono ?_
      rintro e w' ⟨rfl, rfl⟩
      go_wp2_with (refine wpList_ldM rfl rfl rfl mit89 (by assumption) ?_)
      refine (T1 _).mono ?_
      rintro e w1 ⟨rfl, hw1⟩
      have g1 : Below w.heap.size w w1 := Below.call (by go_grown) (by simp) hw1
      have A1 : AtM w1 w.heap.size m := AtM.of hw1 (AtM.fresh _ _ _)
      have x1 := A1.c11
      go_wp2_with (refine wpList_ldM rfl rfl rfl mit89 (by assumption) ?_)
      refine (T2 _).mono ?_
      rintro e w2 ⟨rfl, hw2⟩
      have g2 := Below.call g1 g1.size hw2
      have A2 := AtM.of hw2 A1
      clear hw2 g1 A1 x1
      have x2 := A2.c12
      go_wp2
      go_ret
      exact ⟨by rw [e.out]; rfl, g2⟩
  rw [g2] at T2 E
  cases g3 : win m.tt 0 (m.n * 3600000000000000)
  · rw [g3] at T3 E
    have e : Hid (r = false) := by show r = false; rw [E.out]; simp
    clear E g0 g1 g2 g3
    clear T4 T5
    rcases hm with ⟨hm, hq⟩ | ⟨hm, hq⟩
    all_goals
      subst hq
      have A0 : AtM (w.alloc (.cells #[.int .i64 m.id, .int .i64 m.fr, .int .i64 m.to, .int .i64 m.se, .int .i64 m.ac, .int .i64 m.lo, .int .i64 m.pa, .int .i64 m.hi, .int .i64 m.dr, .int .i64 m.n, .int .i64 m.st, .int .i64 m.sr, .int .i64 m.tt, .int .i64 m.tr, .int .i64 m.rr] 89)) w.heap.size m := AtM.fresh w m _
      go_enter Try.func72, Try.ntmps72
      go_wp2_with (refine wpList_ldM rfl rfl rfl mit89 (by assumption) ?_)
      refine (T0 _).mono ?_
      rintro e w' ⟨rfl, rfl⟩
      go_wp2_with (refine wpList_ldM rfl rfl rfl mit89 (by assumption) ?_)
      refine (T1 _).mono ?_
      rintro e w1 ⟨rfl, hw1⟩
      have g1 : Below w.heap.size w w1 := Below.call (by go_grown) (by simp) hw1
      have A1 : AtM w1 w.heap.size m := AtM.of hw1 (AtM.fresh _ _ _)
      have x1 := A1.c11
      go_wp2_with (refine wpList_ldM rfl rfl rfl mit89 (by assumption) ?_)
      refine (T2 _).mono ?_
      rintro e w2 ⟨rfl, hw2⟩
      have g2 := Below.call g1 g1.size hw2
      have A2 := AtM.of hw2 A1
      clear hw2 g1 A1 x1
      have x2 := A2.c12
      go_wp2_with (refine wpList_ldM rfl rfl rfl mit89 (by assumption) ?_)
      refine (T3 _).mono ?_
      rintro e w3 ⟨rfl, hw3⟩
      have g3 := Below.call g2 g2.size hw3
      have A3 := AtM.of hw3 A2
      clear hw3 g2 A2 x2
      have x3 := A3.c13
      go_wp2
      go_ret
      exact ⟨by rw [e.out]; rfl, g3⟩
  rw [g3] at T3 E
  cases g4 : win m.tr 0 (m.n * 3600000000000000)
  · rw [g4] at T4 E
    have e : Hid (r = false) := by show r = false; rw [E.out]; simp
    clear E g0 g1 g2 g3 g4
    clear T5
    rcases hm with ⟨hm, hq⟩ | ⟨hm, hq⟩
    all_goals
      subst hq
      have A0 : AtM (w.alloc (.cells #[.int .i64 m.id, .int .i64 m.fr, .int .i64 m.to, .int .i64 m.se, .int .i64 m.ac, .int .i64 m.lo, .int .i64 m.pa, .int .i64 m.hi, .int .i64 m.dr, .int .i64 m.n, .int .i64 m.st, .int .i64 m.sr, .int .i64 m.tt, .int .i64 m.tr, .int .i64 m.rr] 89)) w.heap.size m := AtM.fresh w m _
      go_enter Try.func72, Try.ntmps72
      go_wp2_with (refine wpList_ldM rfl rfl rfl mit89 (by assumption) ?_)
      refine (T0 _).mono ?_
      rintro e w' ⟨rfl, rfl⟩
      go_wp2_with (refine wpList_ldM rfl rfl rfl mit89 (by assumption) ?_)
      refine (T1 _).mono ?_
      rintro e w1 ⟨rfl, hw1⟩
      have g1 : Below w.heap.size w w1 := Below.call (by go_grown) (by simp) hw1
      have A1 : AtM w1 w.heap.size m := AtM.of hw1 (AtM.fresh _ _ _)
      have x1 := A1.c11
      go_wp2_with (refine wpList_ldM rfl rfl rfl mit89 (by assumption) ?_)
      refine (T2 _).mono ?_
      rintro e w2 ⟨rfl, hw2⟩
      have g2 := Below.call g1 g1.size hw2
      have A2 := AtM.of hw2 A1
      clear hw2 g1 A1 x1
      have x2 := A2.c12
      go_wp2_with (refine wpList_ldM rfl rfl rfl mit89 (by assumption) ?_)
      refine (T3 _).mono ?_
      rintro e w3 ⟨rfl, hw3⟩
      have g3 := Below.call g2 g2.size hw3
      have A3 := AtM.of hw3 A2
      clear hw3 g2 A2 x2
      have x3 := A3.c13
      go_wp2_with (refine wpList_ldM rfl rfl rfl mit89 (by assumption) ?_)
      refine (T4 _).mono ?_
      rintro e w4 ⟨rfl, hw4⟩
      have g4 := Below.call g3 g3.size hw4
      have A4 := AtM.of hw4 A3
      clear hw4 g3 A3 x3
      have x4 := A4.c14
      go_wp2
      go_ret
      exact ⟨by rw [e.out]; rfl, g4⟩
  rw [g4] at T4 E
  have e : Hid (r = win m.rr 0 (m.n * 3600000000000000)) := by show r = _; rw [E.out]; simp
  generalize win m.rr 0 (m.n * 3600000000000000) = r5 at *
  clear E g0 g1 g2 g3 g4
  rcases hm with ⟨hm, hq⟩ | ⟨hm, hq⟩
  all_goals
    subst hq
    have A0 : AtM (w.alloc (.cells #[.int .i64 m.id, .int .i64 m.fr, .int .i64 m.to, .int .i64 m.se, .int .i64 m.ac, .int .i64 m.lo, .int .i64 m.pa, .int .i64 m.hi, .int .i64 m.dr, .int .i64 m.n, .int .i64 m.st, .int .i64 m.sr, .int .i64 m.tt, .int .i64 m.tr, .int .i64 m.rr] 89)) w.heap.size m := AtM.fresh w m _
    go_enter Try.func72, Try.ntmps72
    go_wp2_with (refine wpList_ldM rfl rfl rfl mit89 (by assumption) ?_)
    refine (T0 _).mono ?_
    rintro e w' ⟨rfl, rfl⟩
    go_wp2_with (refine wpList_ldM rfl rfl rfl mit89 (by assumption) ?_)
    refine (T1 _).mono ?_
    rintro e w1 ⟨rfl, hw1⟩
    have g1 : Below w.heap.size w w1 := Below.call (by go_grown) (by simp) hw1
    have A1 : AtM w1 w.heap.size m := AtM.of hw1 (AtM.fresh _ _ _)
    have x1 := A1.c11
    go_wp2_with (refine wpList_ldM rfl rfl rfl mit89 (by assumption) ?_)
    refine (T2 _).mono ?_
    rintro e w2 ⟨rfl, hw2⟩
    have g2 := Below.call g1 g1.size hw2
    have A2 := AtM.of hw2 A1
    clear hw2 g1 A1 x1
    have x2 := A2.c12
    go_wp2_with (refine wpList_ldM rfl rfl rfl mit89 (by assumption) ?_)
    refine (T3 _).mono ?_
    rintro e w3 ⟨rfl, hw3⟩
    have g3 := Below.call g2 g2.size hw3
    have A3 := AtM.of hw3 A2
    clear hw3 g2 A2 x2
    have x3 := A3.c13
    go_wp2_with (refine wpList_ldM rfl rfl rfl mit89 (by assumption) ?_)
    refine (T4 _).mono ?_
    rintro e w4 ⟨rfl, hw4⟩
    have g4 := Below.call g3 g3.size hw4
    have A4 := AtM.of hw4 A3
    clear hw4 g3 A3 x3
    have x4 := A4.c14
    go_wp2_with (refine wpList_ldM rfl rfl rfl mit89 (by assumption) ?_)
    refine (T5 _).mono ?_
    rintro e w5 ⟨rfl, hw5⟩
    have g5 := Below.call g4 g4.size hw5
    have A5 := AtM.of hw5 A4
    clear hw5 g4 A4 x4
    go_wp2
    go_ret
    exact ⟨by rw [e.out]; rfl, g5⟩
end Go.Proofs.Ytpaalpnoppblaaa
