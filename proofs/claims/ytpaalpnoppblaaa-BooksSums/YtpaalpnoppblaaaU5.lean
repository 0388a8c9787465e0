/-
  The whole look of the program at an account. No conditions.
-/
import Derived.Test.YtpaalpnoppblaaaU4
namespace Go.Proofs.Ytpaalpnoppblaaa
open Go.RowKit
set_option linter.unusedVariables false
/-- An account is right. -/
def rightB (m : Mi) : Bool := spanB m && (countsB m && (bytesB m && samplesB m))
set_option maxHeartbeats 2000000 in
set_option maxRecDepth 100000 in
theorem right_any (m : Mi) (w : World) :
    Calls Try.prog 43 #[.agg #[.int .i64 m.id, .int .i64 m.fr, .int .i64 m.to, .int .i64 m.se, .int .i64 m.ac, .int .i64 m.lo, .int .i64 m.pa, .int .i64 m.hi, .int .i64 m.dr, .int .i64 m.n, .int .i64 m.st, .int .i64 m.sr, .int .i64 m.tt, .int .i64 m.tr, .int .i64 m.rr]] w fun e w' => e = .returned (.bool (rightB m)) ∧ Below w.heap.size w w' := by
  have E : Hid (rightB m = (spanB m && (countsB m && (bytesB m && samplesB m)))) := rfl
  generalize rightB m = r at *
  have A0 : AtM (w.alloc (.cells #[.int .i64 m.id, .int .i64 m.fr, .int .i64 m.to, .int .i64 m.se, .int .i64 m.ac, .int .i64 m.lo, .int .i64 m.pa, .int .i64 m.hi, .int .i64 m.dr, .int .i64 m.n, .int .i64 m.st, .int .i64 m.sr, .int .i64 m.tt, .int .i64 m.tr, .int .i64 m.rr] 89)) w.heap.size m := AtM.fresh w m _
  have T1 := fun w => rightSpan_any m w
  have T2 := fun w => rightCounts_any m w
  cases h1 : spanB m
  · rw [h1] at T1 E
    have e : Hid (r = false) := by show r = false; rw [E.out]; simp
    clear E T2
    go_enter Try.func43, Try.ntmps43
    go_wp2_with (refine wpList_ldM rfl rfl rfl (by first | exact mit63 | exact mit89 | exact mit109) (by assumption) ?_)
    refine (T1 _).mono ?_
    rintro e w1 ⟨rfl, hw1⟩
    have g1 : Below w.heap.size w w1 := Below.call (by go_grown) (by simp) hw1
    go_wp2
    go_ret
    exact ⟨by rw [e.out]; rfl, g1⟩
  rw [h1] at T1 E
  cases h2 : countsB m
  · rw [h2] at T2 E
    have e : Hid (r = false) := by show r = false; rw [E.out]; simp
    clear E
    go_enter Try.func43, Try.ntmps43
    go_wp2_with (refine wpList_ldM rfl rfl rfl (by first | exact mit63 | exact mit89 | exact mit109) (by assumption) ?_)
    refine (T1 _).mono ?_
    rintro e w1 ⟨rfl, hw1⟩
    have g1 : Below w.heap.size w w1 := Below.call (by go_grown) (by simp) hw1
    have A1 := AtM.of hw1 A0
    clear hw1 A0
    go_wp2_with (refine wpList_ldM rfl rfl rfl (by first | exact mit63 | exact mit89 | exact mit109) (by assumption) ?_)
    refine (T2 _).mono ?_
    rintro e w2 ⟨rfl, hw2⟩
    have g2 := Below.call g1 g1.size hw2
    go_wp2
    go_ret
    exact ⟨by rw [e.out]; rfl, g2⟩
  rw [h2] at T2 E
  have T3 := fun w => rightBytes_any m h2 w
  have hb := counts_bd h2
  have T4 := fun w => rightSamples_any m (by omega) (by omega) w
  clear hb
  cases h3 : bytesB m
  · rw [h3] at T3 E
    have e : Hid (r = false) := by show r = false; rw [E.out]; simp
    clear E T4
    go_enter Try.func43, Try.ntmps43
    go_wp2_with (refine wpList_ldM rfl rfl rfl (by first | exact mit63 | exact mit89 | exact mit109) (by assumption) ?_)
    refine (T1 _).mono ?_
    rintro e w1 ⟨rfl, hw1⟩
    have g1 : Below w.heap.size w w1 := Below.call (by go_grown) (by simp) hw1
    have A1 := AtM.of hw1 A0
    clear hw1 A0
    go_wp2_with (refine wpList_ldM rfl rfl rfl (by first | exact mit63 | exact mit89 | exact mit109) (by assumption) ?_)
    refine (T2 _).mono ?_
    rintro e w2 ⟨rfl, hw2⟩
    have g2 := Below.call g1 g1.size hw2
    have A2 := AtM.of hw2 A1
    clear hw2 A1 g1
    go_wp2_with (refine wpList_ldM rfl rfl rfl (by first | exact mit63 | exact mit89 | exact mit109) (by assumption) ?_)
    refine (T3 _).mono ?_
    rintro e w3 ⟨rfl, hw3⟩
    have g3 := Below.call g2 g2.size hw3
    go_wp2
    go_ret
    exact ⟨by rw [e.out]; rfl, g3⟩
  rw [h3] at T3 E
  have e : Hid (r = samplesB m) := by show r = _; rw [E.out]; simp
  generalize samplesB m = r4 at *
  clear E
  go_enter Try.func43, Try.ntmps43
  go_wp2_with (refine wpList_ldM rfl rfl rfl (by first | exact mit63 | exact mit89 | exact mit109) (by assumption) ?_)
  refine (T1 _).mono ?_
  rintro e w1 ⟨rfl, hw1⟩
  have g1 : Below w.heap.size w w1 := Below.call (by go_grown) (by simp) hw1
  have A1 := AtM.of hw1 A0
  clear hw1 A0
  go_wp2_with (refine wpList_ldM rfl rfl rfl (by first | exact mit63 | exact mit89 | exact mit109) (by assumption) ?_)
  refine (T2 _).mono ?_
  rintro e w2 ⟨rfl, hw2⟩
  have g2 := Below.call g1 g1.size hw2
  have A2 := AtM.of hw2 A1
  clear hw2 A1 g1
  go_wp2_with (refine wpList_ldM rfl rfl rfl (by first | exact mit63 | exact mit89 | exact mit109) (by assumption) ?_)
  refine (T3 _).mono ?_
  rintro e w3 ⟨rfl, hw3⟩
  have g3 := Below.call g2 g2.size hw3
  have A3 := AtM.of hw3 A2
  clear hw3 A2 g2
  go_wp2_with (refine wpList_ldM rfl rfl rfl (by first | exact mit63 | exact mit89 | exact mit109) (by assumption) ?_)
  refine (T4 _).mono ?_
  rintro e w4 ⟨rfl, hw4⟩
  have g4 := Below.call g3 g3.size hw4
  go_wp2
  go_ret
  exact ⟨by rw [e.out]; rfl, g4⟩
end Go.Proofs.Ytpaalpnoppblaaa
