/-
  The program's quotient is that of the numbers, or refused. No conditions but the numbers' own ranges.
-/
import Derived.Test.YtahlphbgnhklaaaD6
namespace Go.Proofs.Ytahlphbgnhklaaa
open Go.RowKit
set_option linter.unusedVariables false

theorem quot_parts {a d : Int} (ha : W128 a) (hd : 0 < d) :
    hiw a / d = hiw (a / d) ∧ vv (hiw a % d) (low a) / d = low (a / d) ∧ vv (hiw a % d) (low a) % d = a % d := by
  have b := hiw_bd ha
  have lb := low_bd a
  have e := vv_hl a
  unfold vv at e
  have x := Int.emod_add_mul_ediv (hiw a) d
  have m0 := Int.emod_nonneg (hiw a) (show d ≠ 0 by omega)
  have m1 := Int.emod_lt_of_pos (hiw a) hd
  have y := Int.emod_add_mul_ediv (vv (hiw a % d) (low a)) d
  have n0 := Int.emod_nonneg (vv (hiw a % d) (low a)) (show d ≠ 0 by omega)
  have n1 := Int.emod_lt_of_pos (vv (hiw a % d) (low a)) hd
  have q0 : 0 ≤ vv (hiw a % d) (low a) / d := Int.ediv_nonneg (by unfold vv; omega) (by omega)
  have q1 : vv (hiw a % d) (low a) / d < 18446744073709551616 := by
    refine Int.ediv_lt_of_lt_mul hd ?_
    unfold vv; omega
  have ea : a = vv (hiw a % d) (low a) % d + d * (hiw a / d * 18446744073709551616 + vv (hiw a % d) (low a) / d) := by
    rw [Int.mul_add, ← Int.mul_assoc]
    have : vv (hiw a % d) (low a) = hiw a % d * 18446744073709551616 + low a := rfl
    omega
  obtain ⟨f1, f2⟩ := dm_of ea n0 n1
  rw [f1, f2]
  refine ⟨?_, ?_, rfl⟩
  · unfold hiw at *; omega
  · generalize hiw a / d = u at *
    unfold low at *; omega

set_option maxHeartbeats 800000 in
set_option maxRecDepth 100000 in
theorem div_0 (a : Int) (ha : W128 a) (w : World) :
    Calls Try.prog 31 #[.agg #[.int .u64 (hiw a), .int .u64 (low a)], .int .u64 0] w fun e w' => e = .returned (.tuple #[.agg #[.int .u64 0, .int .u64 0], .int .u64 0, .int .i64 1]) ∧ Below w.heap.size w w' := by
  go_enter Try.func31, Try.ntmps31
  go_wp2
  go_returns
  exact ⟨rfl, by go_grown⟩
set_option maxHeartbeats 2000000 in
set_option maxRecDepth 100000 in
theorem div_any (a d : Int) (ha : W128 a) (hd0 : 0 < d) (hd1 : d ≤ 18446744073709551615) (w : World) :
    Calls Try.prog 31 #[.agg #[.int .u64 (hiw a), .int .u64 (low a)], .int .u64 d] w fun e w' => e = .returned (.tuple #[.agg #[.int .u64 (hiw (a / d)), .int .u64 (low (a / d))], .int .u64 (a % d), .int .i64 0]) ∧ Below w.heap.size w w' := by
  obtain ⟨a0, a1⟩ := hiw_bd ha
  obtain ⟨a2, a3⟩ := low_bd a
  have hdd : (d == 0) = false := by simp; omega
  have m0 := Int.emod_nonneg (hiw a) (show d ≠ 0 by omega)
  have m1 := Int.emod_lt_of_pos (hiw a) hd0
  obtain ⟨q1, q2, q3⟩ := quot_parts ha hd0
  have Q1 : Hid (hiw a / d = hiw (a / d)) := q1
  have Q2 : Hid (vv (hiw a % d) (low a) / d = low (a / d)) := q2
  have Q3 : Hid (vv (hiw a % d) (low a) % d = a % d) := q3
  clear q1 q2 q3
  have E0 : Hid (vv 0 (hiw a) = hiw a) := by show vv 0 (hiw a) = hiw a; unfold vv; omega
  go_enter Try.func31, Try.ntmps31
  go_wp2
  refine wp_loop_rounds 3 ?_
  rw [rounds_succ]
  go_wp2_with fail
  refine (div64_any 0 (hiw a) d (by omega) hd0 a0 a1 hd1 _).mono ?_
  rintro e w1 ⟨rfl, hw1⟩
  rw [E0.out]
  have T : At2 w1 (w.heap.size + 1 + 1 + 1 + 1) (.int .u64 (low a)) (.int .u64 (hiw a)) := At2.below (by constructor <;> simp [go_sem]) hw1 (by simp)
  have R : At2 w1 (w.heap.size + 1) (.int .u64 0) (.int .u64 0) := At2.below (by constructor <;> simp [go_sem]) hw1 (by simp)
  have hb1 : Below w.heap.size w w1 := Below.call (by go_grown) (by simp; omega) hw1
  clear hw1
  obtain ⟨x0, x1, x2, x3, x4⟩ := id T
  obtain ⟨y0, y1, y2, y3, y4⟩ := id R
  rw [Q1.out]
  go_wp2
  rw [rounds_succ]
  go_wp2_with fail
  refine (div64_any (hiw a % d) (low a) d m0 m1 a2 a3 hd1 _).mono ?_
  rintro e w2 ⟨rfl, hw2⟩
  rw [Q2.out, Q3.out]
  replace T := (T.put1 (.int .u64 (hiw (a / d)))).below hw2 (by simpa using x4)
  replace R := (R.other (a := ⟨(w.heap.size + 1 + 1 + 1 + 1), 1, none⟩) (by simp; omega) (.int .u64 (hiw (a / d)))).below hw2 (by simpa using y4)
  have hb2 : Below w.heap.size w w2 := Below.call (by go_grown) (by have := hb1.size; simpa using this) hw2
  clear hw2 x0 x1 x2 x3 x4 y0 y1 y2 y3 y4 hb1
  obtain ⟨x0, x1, x2, x3, x4⟩ := id T
  obtain ⟨y0, y1, y2, y3, y4⟩ := id R
  have z0 : w.heap.size < w2.heap.size := by omega
  have p0 := (T.put0 (.int .u64 (low (a / d)))).c0
  go_wp2
  rw [rounds_succ]
  go_wp2
  have R1 := R.other (a := ⟨(w.heap.size + 1 + 1 + 1 + 1), 0, none⟩) (by simp; omega) (.int .u64 (low (a / d)))
  have r0 := (R1.put0 (.int .u64 (hiw (a / d)))).c0
  have r1 := (R1.put (.int .u64 (hiw (a / d))) (.int .u64 (low (a / d)))).c1
  exact bodyPost_ret (v := .tuple #[.agg #[.int .u64 (hiw (a / d)), .int .u64 (low (a / d))], .int .u64 (a % d), .int .i64 0]) (by simp [results, Try.results31, go_sem, r0, r1, z0, y4]) rfl ⟨rfl, by go_grown⟩
end Go.Proofs.Ytahlphbgnhklaaa
