/-
  CreditWaits: for any burst, credit and numbers there is enough behind the wait, and a microsecond ahead of that not, if a burst may have so much; the wait is 0 to Top. No conditions.
-/
import Derived.Test.YtahlphbgnhklaaaN7
import Derived.Test.YtahlphbgnhklaaaN8
import Derived.Test.YtahlphbgnhklaaaRows
import Derived.WalkKit
import Derived.ProofKit
import Derived.OpenShut
import Derived.ChangeOld
import Derived.Below
import Derived.Lib.SmallJoins
namespace Go.Proofs.Ytahlphbgnhklaaa
open Go.RowKit
set_option linter.unusedVariables false
attribute [local go_sem] Later.cell Later.frozen

set_option maxHeartbeats 4000000 in
set_option maxRecDepth 100000 in
theorem walk_waits_1 (b a h r s n : Int) (b_0 : -9223372036854775808 ≤ b) (b_1 : b ≤ 9223372036854775807) (a_0 : -9223372036854775808 ≤ a) (a_1 : a ≤ 9223372036854775807) (h_0 : -9223372036854775808 ≤ h) (h_1 : h ≤ 9223372036854775807) (r_0 : -9223372036854775808 ≤ r) (r_1 : r ≤ 9223372036854775807) (s_0 : -9223372036854775808 ≤ s) (s_1 : s ≤ 9223372036854775807) (hn : wtv h r s = n) (v1 : isv b a h = false) (w : World) :
    Calls Try.prog 6 #[.int .i64 b, .agg #[.int .i64 a, .int .i64 h], .int .i64 r, .int .i64 s] w fun e w' => e = .returned (.bool true) ∧ Below w.heap.size w w' := by
  have WT := fun w => wait_any a h r s h_0 h_1 r_1 s_1 w
  obtain ⟨n0, n1⟩ := wtv_bd (h := h) (r := r) (s := s) h_0 s_1
  rw [hn] at WT n0 n1
  go_enter Try.func6, Try.ntmps6
  go_wp2_with fail
  refine (WT _).mono ?_
  rintro e w1 ⟨rfl, hw1⟩
  have A : At2 w1 w.heap.size (.int .i64 (a)) (.int .i64 (h)) := At2.below (by constructor <;> simp [go_sem]) hw1 (by simp <;> omega)
  have hb : Below w.heap.size w w1 := Below.call (by go_grown) (by simp <;> omega) hw1
  clear hw1
  have hs := hb.size
  obtain ⟨zA0, zA1, zA2, zA3, zA4⟩ := id A
  go_wp2_with fail
  refine (is_any b a h h_0 h_1 _ v1 _).mono ?_
  rintro e w2 ⟨rfl, hw2⟩
  replace A := (A).below hw2 (by have := A.lt; simp <;> omega)
  replace hb : Below w.heap.size w w2 := Below.call (show Below w.heap.size w _ by have := hb.size; go_grown) (by have := hb.size; simp <;> omega) hw2
  clear hw2 zA0 zA1 zA2 zA3 zA4
  have hs := hb.size
  obtain ⟨zA0, zA1, zA2, zA3, zA4⟩ := id A
  go_wp2_with fail
  refine (credited_any _).mono ?_
  rintro e w3 ⟨rfl, hw3⟩
  replace A := (A).below hw3 (by have := A.lt; simp <;> omega)
  replace hb : Below w.heap.size w w3 := Below.call (show Below w.heap.size w _ by have := hb.size; go_grown) (by have := hb.size; simp <;> omega) hw3
  clear hw3 zA0 zA1 zA2 zA3 zA4
  have hs := hb.size
  obtain ⟨zA0, zA1, zA2, zA3, zA4⟩ := id A
  go_wp2
  go_ret
  exact ⟨rfl, by go_grown⟩
set_option maxHeartbeats 4000000 in
set_option maxRecDepth 100000 in
theorem walk_waits_2 (b a h r s n : Int) (b_0 : -9223372036854775808 ≤ b) (b_1 : b ≤ 9223372036854775807) (a_0 : -9223372036854775808 ≤ a) (a_1 : a ≤ 9223372036854775807) (h_0 : -9223372036854775808 ≤ h) (h_1 : h ≤ 9223372036854775807) (r_0 : -9223372036854775808 ≤ r) (r_1 : r ≤ 9223372036854775807) (s_0 : -9223372036854775808 ≤ s) (s_1 : s ≤ 9223372036854775807) (hn : wtv h r s = n) (v1 : isv b a h = true) (c : r < 1) (w : World) :
    Calls Try.prog 6 #[.int .i64 b, .agg #[.int .i64 a, .int .i64 h], .int .i64 r, .int .i64 s] w fun e w' => e = .returned (.bool true) ∧ Below w.heap.size w w' := by
  have WT := fun w => wait_any a h r s h_0 h_1 r_1 s_1 w
  obtain ⟨n0, n1⟩ := wtv_bd (h := h) (r := r) (s := s) h_0 s_1
  rw [hn] at WT n0 n1
  go_enter Try.func6, Try.ntmps6
  go_wp2_with fail
  refine (WT _).mono ?_
  rintro e w1 ⟨rfl, hw1⟩
  have A : At2 w1 w.heap.size (.int .i64 (a)) (.int .i64 (h)) := At2.below (by constructor <;> simp [go_sem]) hw1 (by simp <;> omega)
  have hb : Below w.heap.size w w1 := Below.call (by go_grown) (by simp <;> omega) hw1
  clear hw1
  have hs := hb.size
  obtain ⟨zA0, zA1, zA2, zA3, zA4⟩ := id A
  go_wp2_with fail
  refine (is_any b a h h_0 h_1 _ v1 _).mono ?_
  rintro e w2 ⟨rfl, hw2⟩
  replace A := (A).below hw2 (by have := A.lt; simp <;> omega)
  replace hb : Below w.heap.size w w2 := Below.call (show Below w.heap.size w _ by have := hb.size; go_grown) (by have := hb.size; simp <;> omega) hw2
  clear hw2 zA0 zA1 zA2 zA3 zA4
  have hs := hb.size
  obtain ⟨zA0, zA1, zA2, zA3, zA4⟩ := id A
  go_wp2_with fail
  refine (credited_any _).mono ?_
  rintro e w3 ⟨rfl, hw3⟩
  replace A := (A).below hw3 (by have := A.lt; simp <;> omega)
  replace hb : Below w.heap.size w w3 := Below.call (show Below w.heap.size w _ by have := hb.size; go_grown) (by have := hb.size; simp <;> omega) hw3
  clear hw3 zA0 zA1 zA2 zA3 zA4
  have hs := hb.size
  obtain ⟨zA0, zA1, zA2, zA3, zA4⟩ := id A
  go_wp2
  go_ret
  exact ⟨rfl, by go_grown⟩
set_option maxHeartbeats 4000000 in
set_option maxRecDepth 100000 in
theorem walk_waits_3 (b a h r s n : Int) (b_0 : -9223372036854775808 ≤ b) (b_1 : b ≤ 9223372036854775807) (a_0 : -9223372036854775808 ≤ a) (a_1 : a ≤ 9223372036854775807) (h_0 : -9223372036854775808 ≤ h) (h_1 : h ≤ 9223372036854775807) (r_0 : -9223372036854775808 ≤ r) (r_1 : r ≤ 9223372036854775807) (s_0 : -9223372036854775808 ≤ s) (s_1 : s ≤ 9223372036854775807) (hn : wtv h r s = n) (v1 : isv b a h = true) (c : 1000000000 < r) (w : World) :
    Calls Try.prog 6 #[.int .i64 b, .agg #[.int .i64 a, .int .i64 h], .int .i64 r, .int .i64 s] w fun e w' => e = .returned (.bool true) ∧ Below w.heap.size w w' := by
  have d0 : decide (r < 1) = false := decide_eq_false (by omega)
  have WT := fun w => wait_any a h r s h_0 h_1 r_1 s_1 w
  obtain ⟨n0, n1⟩ := wtv_bd (h := h) (r := r) (s := s) h_0 s_1
  rw [hn] at WT n0 n1
  go_enter Try.func6, Try.ntmps6
  go_wp2_with fail
  refine (WT _).mono ?_
  rintro e w1 ⟨rfl, hw1⟩
  have A : At2 w1 w.heap.size (.int .i64 (a)) (.int .i64 (h)) := At2.below (by constructor <;> simp [go_sem]) hw1 (by simp <;> omega)
  have hb : Below w.heap.size w w1 := Below.call (by go_grown) (by simp <;> omega) hw1
  clear hw1
  have hs := hb.size
  obtain ⟨zA0, zA1, zA2, zA3, zA4⟩ := id A
  go_wp2_with fail
  refine (is_any b a h h_0 h_1 _ v1 _).mono ?_
  rintro e w2 ⟨rfl, hw2⟩
  replace A := (A).below hw2 (by have := A.lt; simp <;> omega)
  replace hb : Below w.heap.size w w2 := Below.call (show Below w.heap.size w _ by have := hb.size; go_grown) (by have := hb.size; simp <;> omega) hw2
  clear hw2 zA0 zA1 zA2 zA3 zA4
  have hs := hb.size
  obtain ⟨zA0, zA1, zA2, zA3, zA4⟩ := id A
  go_wp2_with fail
  refine (credited_any _).mono ?_
  rintro e w3 ⟨rfl, hw3⟩
  replace A := (A).below hw3 (by have := A.lt; simp <;> omega)
  replace hb : Below w.heap.size w w3 := Below.call (show Below w.heap.size w _ by have := hb.size; go_grown) (by have := hb.size; simp <;> omega) hw3
  clear hw3 zA0 zA1 zA2 zA3 zA4
  have hs := hb.size
  obtain ⟨zA0, zA1, zA2, zA3, zA4⟩ := id A
  go_wp2
  go_ret
  exact ⟨rfl, by go_grown⟩
set_option maxHeartbeats 4000000 in
set_option maxRecDepth 100000 in
theorem walk_waits_4 (b a h r s n : Int) (b_0 : -9223372036854775808 ≤ b) (b_1 : b ≤ 9223372036854775807) (a_0 : -9223372036854775808 ≤ a) (a_1 : a ≤ 9223372036854775807) (h_0 : -9223372036854775808 ≤ h) (h_1 : h ≤ 9223372036854775807) (r_0 : -9223372036854775808 ≤ r) (r_1 : r ≤ 9223372036854775807) (s_0 : -9223372036854775808 ≤ s) (s_1 : s ≤ 9223372036854775807) (hn : wtv h r s = n) (v1 : isv b a h = true) (e1 : 1 ≤ r) (e2 : r ≤ 1000000000) (c : s < 1) (w : World) :
    Calls Try.prog 6 #[.int .i64 b, .agg #[.int .i64 a, .int .i64 h], .int .i64 r, .int .i64 s] w fun e w' => e = .returned (.bool true) ∧ Below w.heap.size w w' := by
  have d0 : decide (r < 1) = false := decide_eq_false (by omega)
  have d1 : decide (1000000000 < r) = false := decide_eq_false (by omega)
  have WT := fun w => wait_any a h r s h_0 h_1 r_1 s_1 w
  obtain ⟨n0, n1⟩ := wtv_bd (h := h) (r := r) (s := s) h_0 s_1
  rw [hn] at WT n0 n1
  go_enter Try.func6, Try.ntmps6
  go_wp2_with fail
  refine (WT _).mono ?_
  rintro e w1 ⟨rfl, hw1⟩
  have A : At2 w1 w.heap.size (.int .i64 (a)) (.int .i64 (h)) := At2.below (by constructor <;> simp [go_sem]) hw1 (by simp <;> omega)
  have hb : Below w.heap.size w w1 := Below.call (by go_grown) (by simp <;> omega) hw1
  clear hw1
  have hs := hb.size
  obtain ⟨zA0, zA1, zA2, zA3, zA4⟩ := id A
  go_wp2_with fail
  refine (is_any b a h h_0 h_1 _ v1 _).mono ?_
  rintro e w2 ⟨rfl, hw2⟩
  replace A := (A).below hw2 (by have := A.lt; simp <;> omega)
  replace hb : Below w.heap.size w w2 := Below.call (show Below w.heap.size w _ by have := hb.size; go_grown) (by have := hb.size; simp <;> omega) hw2
  clear hw2 zA0 zA1 zA2 zA3 zA4
  have hs := hb.size
  obtain ⟨zA0, zA1, zA2, zA3, zA4⟩ := id A
  go_wp2_with fail
  refine (credited_any _).mono ?_
  rintro e w3 ⟨rfl, hw3⟩
  replace A := (A).below hw3 (by have := A.lt; simp <;> omega)
  replace hb : Below w.heap.size w w3 := Below.call (show Below w.heap.size w _ by have := hb.size; go_grown) (by have := hb.size; simp <;> omega) hw3
  clear hw3 zA0 zA1 zA2 zA3 zA4
  have hs := hb.size
  obtain ⟨zA0, zA1, zA2, zA3, zA4⟩ := id A
  go_wp2
  go_ret
  exact ⟨rfl, by go_grown⟩
set_option maxHeartbeats 4000000 in
set_option maxRecDepth 100000 in
theorem walk_waits_5 (b a h r s n : Int) (b_0 : -9223372036854775808 ≤ b) (b_1 : b ≤ 9223372036854775807) (a_0 : -9223372036854775808 ≤ a) (a_1 : a ≤ 9223372036854775807) (h_0 : -9223372036854775808 ≤ h) (h_1 : h ≤ 9223372036854775807) (r_0 : -9223372036854775808 ≤ r) (r_1 : r ≤ 9223372036854775807) (s_0 : -9223372036854775808 ≤ s) (s_1 : s ≤ 9223372036854775807) (hn : wtv h r s = n) (v1 : isv b a h = true) (e1 : 1 ≤ r) (e2 : r ≤ 1000000000) (c : 9000 < s) (w : World) :
    Calls Try.prog 6 #[.int .i64 b, .agg #[.int .i64 a, .int .i64 h], .int .i64 r, .int .i64 s] w fun e w' => e = .returned (.bool true) ∧ Below w.heap.size w w' := by
  have d0 : decide (r < 1) = false := decide_eq_false (by omega)
  have d1 : decide (1000000000 < r) = false := decide_eq_false (by omega)
  have d2 : decide (s < 1) = false := decide_eq_false (by omega)
  have WT := fun w => wait_any a h r s h_0 h_1 r_1 s_1 w
  obtain ⟨n0, n1⟩ := wtv_bd (h := h) (r := r) (s := s) h_0 s_1
  rw [hn] at WT n0 n1
  go_enter Try.func6, Try.ntmps6
  go_wp2_with fail
  refine (WT _).mono ?_
  rintro e w1 ⟨rfl, hw1⟩
  have A : At2 w1 w.heap.size (.int .i64 (a)) (.int .i64 (h)) := At2.below (by constructor <;> simp [go_sem]) hw1 (by simp <;> omega)
  have hb : Below w.heap.size w w1 := Below.call (by go_grown) (by simp <;> omega) hw1
  clear hw1
  have hs := hb.size
  obtain ⟨zA0, zA1, zA2, zA3, zA4⟩ := id A
  go_wp2_with fail
  refine (is_any b a h h_0 h_1 _ v1 _).mono ?_
  rintro e w2 ⟨rfl, hw2⟩
  replace A := (A).below hw2 (by have := A.lt; simp <;> omega)
  replace hb : Below w.heap.size w w2 := Below.call (show Below w.heap.size w _ by have := hb.size; go_grown) (by have := hb.size; simp <;> omega) hw2
  clear hw2 zA0 zA1 zA2 zA3 zA4
  have hs := hb.size
  obtain ⟨zA0, zA1, zA2, zA3, zA4⟩ := id A
  go_wp2_with fail
  refine (credited_any _).mono ?_
  rintro e w3 ⟨rfl, hw3⟩
  replace A := (A).below hw3 (by have := A.lt; simp <;> omega)
  replace hb : Below w.heap.size w w3 := Below.call (show Below w.heap.size w _ by have := hb.size; go_grown) (by have := hb.size; simp <;> omega) hw3
  clear hw3 zA0 zA1 zA2 zA3 zA4
  have hs := hb.size
  obtain ⟨zA0, zA1, zA2, zA3, zA4⟩ := id A
  go_wp2
  go_ret
  exact ⟨rfl, by go_grown⟩
set_option maxHeartbeats 4000000 in
set_option maxRecDepth 100000 in
theorem walk_waits_6 (b a h r s n : Int) (b_0 : -9223372036854775808 ≤ b) (b_1 : b ≤ 9223372036854775807) (a_0 : -9223372036854775808 ≤ a) (a_1 : a ≤ 9223372036854775807) (h_0 : -9223372036854775808 ≤ h) (h_1 : h ≤ 9223372036854775807) (r_0 : -9223372036854775808 ≤ r) (r_1 : r ≤ 9223372036854775807) (s_0 : -9223372036854775808 ≤ s) (s_1 : s ≤ 9223372036854775807) (hn : wtv h r s = n) (v1 : isv b a h = true) (e1 : 1 ≤ r) (e2 : r ≤ 1000000000) (e3 : 1 ≤ s) (e4 : s ≤ 9000) (c : b < s) (w : World) :
    Calls Try.prog 6 #[.int .i64 b, .agg #[.int .i64 a, .int .i64 h], .int .i64 r, .int .i64 s] w fun e w' => e = .returned (.bool true) ∧ Below w.heap.size w w' := by
  have d0 : decide (r < 1) = false := decide_eq_false (by omega)
  have d1 : decide (1000000000 < r) = false := decide_eq_false (by omega)
  have d2 : decide (s < 1) = false := decide_eq_false (by omega)
  have d3 : decide (9000 < s) = false := decide_eq_false (by omega)
  have WT := fun w => wait_any a h r s h_0 h_1 r_1 s_1 w
  obtain ⟨n0, n1⟩ := wtv_bd (h := h) (r := r) (s := s) h_0 s_1
  rw [hn] at WT n0 n1
  go_enter Try.func6, Try.ntmps6
  go_wp2_with fail
  refine (WT _).mono ?_
  rintro e w1 ⟨rfl, hw1⟩
  have A : At2 w1 w.heap.size (.int .i64 (a)) (.int .i64 (h)) := At2.below (by constructor <;> simp [go_sem]) hw1 (by simp <;> omega)
  have hb : Below w.heap.size w w1 := Below.call (by go_grown) (by simp <;> omega) hw1
  clear hw1
  have hs := hb.size
  obtain ⟨zA0, zA1, zA2, zA3, zA4⟩ := id A
  go_wp2_with fail
  refine (is_any b a h h_0 h_1 _ v1 _).mono ?_
  rintro e w2 ⟨rfl, hw2⟩
  replace A := (A).below hw2 (by have := A.lt; simp <;> omega)
  replace hb : Below w.heap.size w w2 := Below.call (show Below w.heap.size w _ by have := hb.size; go_grown) (by have := hb.size; simp <;> omega) hw2
  clear hw2 zA0 zA1 zA2 zA3 zA4
  have hs := hb.size
  obtain ⟨zA0, zA1, zA2, zA3, zA4⟩ := id A
  go_wp2_with fail
  refine (credited_any _).mono ?_
  rintro e w3 ⟨rfl, hw3⟩
  replace A := (A).below hw3 (by have := A.lt; simp <;> omega)
  replace hb : Below w.heap.size w w3 := Below.call (show Below w.heap.size w _ by have := hb.size; go_grown) (by have := hb.size; simp <;> omega) hw3
  clear hw3 zA0 zA1 zA2 zA3 zA4
  have hs := hb.size
  obtain ⟨zA0, zA1, zA2, zA3, zA4⟩ := id A
  go_wp2
  go_ret
  exact ⟨rfl, by go_grown⟩
set_option maxHeartbeats 4000000 in
set_option maxRecDepth 100000 in
theorem walk_waits_7 (b a h r s n : Int) (b_0 : -9223372036854775808 ≤ b) (b_1 : b ≤ 9223372036854775807) (a_0 : -9223372036854775808 ≤ a) (a_1 : a ≤ 9223372036854775807) (h_0 : -9223372036854775808 ≤ h) (h_1 : h ≤ 9223372036854775807) (r_0 : -9223372036854775808 ≤ r) (r_1 : r ≤ 9223372036854775807) (s_0 : -9223372036854775808 ≤ s) (s_1 : s ≤ 9223372036854775807) (hn : wtv h r s = n) (v1 : isv b a h = true) (e1 : 1 ≤ r) (e2 : r ≤ 1000000000) (e3 : 1 ≤ s) (e4 : s ≤ 9000) (e5 : s ≤ b) (c : 1099511627776 - a < n) (w : World) :
    Calls Try.prog 6 #[.int .i64 b, .agg #[.int .i64 a, .int .i64 h], .int .i64 r, .int .i64 s] w fun e w' => e = .returned (.bool true) ∧ Below w.heap.size w w' := by
  obtain ⟨_, ⟨a0, a1⟩, _⟩ := isv_iff.1 v1
  have d0 : decide (r < 1) = false := decide_eq_false (by omega)
  have d1 : decide (1000000000 < r) = false := decide_eq_false (by omega)
  have d2 : decide (s < 1) = false := decide_eq_false (by omega)
  have d3 : decide (9000 < s) = false := decide_eq_false (by omega)
  have d4 : decide (b < s) = false := decide_eq_false (by omega)
  have WT := fun w => wait_any a h r s h_0 h_1 r_1 s_1 w
  obtain ⟨n0, n1⟩ := wtv_bd (h := h) (r := r) (s := s) h_0 s_1
  rw [hn] at WT n0 n1
  go_enter Try.func6, Try.ntmps6
  go_wp2_with fail
  refine (WT _).mono ?_
  rintro e w1 ⟨rfl, hw1⟩
  have A : At2 w1 w.heap.size (.int .i64 (a)) (.int .i64 (h)) := At2.below (by constructor <;> simp [go_sem]) hw1 (by simp <;> omega)
  have hb : Below w.heap.size w w1 := Below.call (by go_grown) (by simp <;> omega) hw1
  clear hw1
  have hs := hb.size
  obtain ⟨zA0, zA1, zA2, zA3, zA4⟩ := id A
  go_wp2_with fail
  refine (is_any b a h h_0 h_1 _ v1 _).mono ?_
  rintro e w2 ⟨rfl, hw2⟩
  replace A := (A).below hw2 (by have := A.lt; simp <;> omega)
  replace hb : Below w.heap.size w w2 := Below.call (show Below w.heap.size w _ by have := hb.size; go_grown) (by have := hb.size; simp <;> omega) hw2
  clear hw2 zA0 zA1 zA2 zA3 zA4
  have hs := hb.size
  obtain ⟨zA0, zA1, zA2, zA3, zA4⟩ := id A
  go_wp2_with fail
  refine (credited_any _).mono ?_
  rintro e w3 ⟨rfl, hw3⟩
  replace A := (A).below hw3 (by have := A.lt; simp <;> omega)
  replace hb : Below w.heap.size w w3 := Below.call (show Below w.heap.size w _ by have := hb.size; go_grown) (by have := hb.size; simp <;> omega) hw3
  clear hw3 zA0 zA1 zA2 zA3 zA4
  have hs := hb.size
  obtain ⟨zA0, zA1, zA2, zA3, zA4⟩ := id A
  go_wp2
  go_ret
  exact ⟨rfl, by go_grown⟩
set_option maxHeartbeats 4000000 in
set_option maxRecDepth 100000 in
theorem walk_waits_8 (b a h r s n : Int) (b_0 : -9223372036854775808 ≤ b) (b_1 : b ≤ 9223372036854775807) (a_0 : -9223372036854775808 ≤ a) (a_1 : a ≤ 9223372036854775807) (h_0 : -9223372036854775808 ≤ h) (h_1 : h ≤ 9223372036854775807) (r_0 : -9223372036854775808 ≤ r) (r_1 : r ≤ 9223372036854775807) (s_0 : -9223372036854775808 ≤ s) (s_1 : s ≤ 9223372036854775807) (hn : wtv h r s = n) (v1 : isv b a h = true) (e1 : 1 ≤ r) (e2 : r ≤ 1000000000) (e3 : 1 ≤ s) (e4 : s ≤ 9000) (e5 : s ≤ b) (e6 : n ≤ 1099511627776 - a) (z : n = 0) (w : World) :
    Calls Try.prog 6 #[.int .i64 b, .agg #[.int .i64 a, .int .i64 h], .int .i64 r, .int .i64 s] w fun e w' => e = .returned (.bool true) ∧ Below w.heap.size w w' := by
  obtain ⟨⟨b0, b1⟩, ⟨a0, a1⟩, h0, h1⟩ := isv_iff.1 v1
  have q0 := (wtv_bd (h := h) (r := r) (s := s) h_0 s_1).1
  rw [hn] at q0
  obtain ⟨en1, en2⟩ := wtv_enough hn (by omega) (by omega) (by omega)
  obtain ⟨X, hX⟩ : ∃ X, heldv b (r * (a + n - a) + h) = X := ⟨_, rfl⟩
  have FX := fun w => fill_ok b a h r (a + n) X v1 e1 e2 (by omega) (by omega) hX w
  have RX := fill_right (b := b) v1 e1 (show a ≤ a + n by omega) (by omega) hX
  obtain ⟨Y, hY⟩ : ∃ Y, X - s * 1000000 = Y := ⟨_, rfl⟩
  have TX := fun w => take_ok b (a + n) X s Y RX e3 e4 (by rw [← hX, show a + n - a = n by omega]; unfold heldv; split <;> omega) hY w
  have d0 : decide (r < 1) = false := decide_eq_false (by omega)
  have d1 : decide (1000000000 < r) = false := decide_eq_false (by omega)
  have d2 : decide (s < 1) = false := decide_eq_false (by omega)
  have d3 : decide (9000 < s) = false := decide_eq_false (by omega)
  have d4 : decide (b < s) = false := decide_eq_false (by omega)
  have d5 : decide (1099511627776 - a < n) = false := decide_eq_false (by omega)
  have d6 : decide (n < 0) = false := decide_eq_false (by omega)
  have zb : (n == 0) = true := by simp [z]
  clear z
  clear hX hY RX en1 en2
  have WT := fun w => wait_any a h r s h_0 h_1 r_1 s_1 w
  obtain ⟨n0, n1⟩ := wtv_bd (h := h) (r := r) (s := s) h_0 s_1
  rw [hn] at WT n0 n1
  go_enter Try.func6, Try.ntmps6
  go_wp2_with fail
  refine (WT _).mono ?_
  rintro e w1 ⟨rfl, hw1⟩
  have A : At2 w1 w.heap.size (.int .i64 (a)) (.int .i64 (h)) := At2.below (by constructor <;> simp [go_sem]) hw1 (by simp <;> omega)
  have hb : Below w.heap.size w w1 := Below.call (by go_grown) (by simp <;> omega) hw1
  clear hw1
  have hs := hb.size
  obtain ⟨zA0, zA1, zA2, zA3, zA4⟩ := id A
  go_wp2_with fail
  refine (is_any b a h h_0 h_1 _ v1 _).mono ?_
  rintro e w2 ⟨rfl, hw2⟩
  replace A := (A).below hw2 (by have := A.lt; simp <;> omega)
  replace hb : Below w.heap.size w w2 := Below.call (show Below w.heap.size w _ by have := hb.size; go_grown) (by have := hb.size; simp <;> omega) hw2
  clear hw2 zA0 zA1 zA2 zA3 zA4
  have hs := hb.size
  obtain ⟨zA0, zA1, zA2, zA3, zA4⟩ := id A
  go_wp2_with fail
  refine (FX _).mono ?_
  rintro e w3 ⟨rfl, hw3⟩
  replace A := (A).below hw3 (by have := A.lt; simp <;> omega)
  replace hb : Below w.heap.size w w3 := Below.call (show Below w.heap.size w _ by have := hb.size; go_grown) (by have := hb.size; simp <;> omega) hw3
  clear hw3 zA0 zA1 zA2 zA3 zA4
  have hs := hb.size
  obtain ⟨zA0, zA1, zA2, zA3, zA4⟩ := id A
  go_wp2_with fail
  refine (TX _).mono ?_
  rintro e w4 ⟨rfl, hw4⟩
  replace A := (A.alloc _).below hw4 (by have := A.lt; simp <;> omega)
  have X1 : At2 w4 w3.heap.size (.int .i64 (a + n)) (.int .i64 (X)) := At2.after_fresh' hw4
  replace hb : Below w.heap.size w w4 := Below.call (show Below w.heap.size w _ by have := hb.size; go_grown) (by have := hb.size; simp <;> omega) hw4
  clear hw4 zA0 zA1 zA2 zA3 zA4
  have hs := hb.size
  obtain ⟨zA0, zA1, zA2, zA3, zA4⟩ := id A
  obtain ⟨zX10, zX11, zX12, zX13, zX14⟩ := id X1
  go_wp2_with fail
  refine (credited_any _).mono ?_
  rintro e w5 ⟨rfl, hw5⟩
  replace A := (A.alloc _).below hw5 (by have := A.lt; simp <;> omega)
  replace X1 := (X1.alloc _).below hw5 (by have := X1.lt; simp <;> omega)
  have X2 : At2 w5 w4.heap.size (.int .i64 (a + n)) (.int .i64 (Y)) := At2.after_fresh' hw5
  replace hb : Below w.heap.size w w5 := Below.call (show Below w.heap.size w _ by have := hb.size; go_grown) (by have := hb.size; simp <;> omega) hw5
  clear hw5 zA0 zA1 zA2 zA3 zA4 zX10 zX11 zX12 zX13 zX14
  have hs := hb.size
  obtain ⟨zA0, zA1, zA2, zA3, zA4⟩ := id A
  obtain ⟨zX10, zX11, zX12, zX13, zX14⟩ := id X1
  obtain ⟨zX20, zX21, zX22, zX23, zX24⟩ := id X2
  go_wp2
  go_ret
  exact ⟨rfl, by go_grown⟩
set_option maxHeartbeats 4000000 in
set_option maxRecDepth 100000 in
theorem walk_waits_9 (b a h r s n : Int) (b_0 : -9223372036854775808 ≤ b) (b_1 : b ≤ 9223372036854775807) (a_0 : -9223372036854775808 ≤ a) (a_1 : a ≤ 9223372036854775807) (h_0 : -9223372036854775808 ≤ h) (h_1 : h ≤ 9223372036854775807) (r_0 : -9223372036854775808 ≤ r) (r_1 : r ≤ 9223372036854775807) (s_0 : -9223372036854775808 ≤ s) (s_1 : s ≤ 9223372036854775807) (hn : wtv h r s = n) (v1 : isv b a h = true) (e1 : 1 ≤ r) (e2 : r ≤ 1000000000) (e3 : 1 ≤ s) (e4 : s ≤ 9000) (e5 : s ≤ b) (e6 : n ≤ 1099511627776 - a) (z : n ≠ 0) (w : World) :
    Calls Try.prog 6 #[.int .i64 b, .agg #[.int .i64 a, .int .i64 h], .int .i64 r, .int .i64 s] w fun e w' => e = .returned (.bool true) ∧ Below w.heap.size w w' := by
  obtain ⟨⟨b0, b1⟩, ⟨a0, a1⟩, h0, h1⟩ := isv_iff.1 v1
  have q0 := (wtv_bd (h := h) (r := r) (s := s) h_0 s_1).1
  rw [hn] at q0
  obtain ⟨en1, en2⟩ := wtv_enough hn (by omega) (by omega) (by omega)
  obtain ⟨X, hX⟩ : ∃ X, heldv b (r * (a + n - a) + h) = X := ⟨_, rfl⟩
  have FX := fun w => fill_ok b a h r (a + n) X v1 e1 e2 (by omega) (by omega) hX w
  have RX := fill_right (b := b) v1 e1 (show a ≤ a + n by omega) (by omega) hX
  obtain ⟨Y, hY⟩ : ∃ Y, X - s * 1000000 = Y := ⟨_, rfl⟩
  have TX := fun w => take_ok b (a + n) X s Y RX e3 e4 (by rw [← hX, show a + n - a = n by omega]; unfold heldv; split <;> omega) hY w
  have d0 : decide (r < 1) = false := decide_eq_false (by omega)
  have d1 : decide (1000000000 < r) = false := decide_eq_false (by omega)
  have d2 : decide (s < 1) = false := decide_eq_false (by omega)
  have d3 : decide (9000 < s) = false := decide_eq_false (by omega)
  have d4 : decide (b < s) = false := decide_eq_false (by omega)
  have d5 : decide (1099511627776 - a < n) = false := decide_eq_false (by omega)
  have d6 : decide (n < 0) = false := decide_eq_false (by omega)
  have zb : (n == 0) = false := by simp [z]
  obtain ⟨Z, hZ⟩ : ∃ Z, heldv b (r * (a + n - 1 - a) + h) = Z := ⟨_, rfl⟩
  have FZ := fun w => fill_ok b a h r (a + n - 1) Z v1 e1 e2 (by omega) (by omega) hZ w
  have RZ := fill_right (b := b) v1 e1 (show a ≤ a + n - 1 by omega) (by omega) hZ
  have TZ := fun w => take_early b (a + n - 1) Z s RZ e3 e4 (by have := en2 z; rw [← hZ, show a + n - 1 - a = n - 1 by omega]; unfold heldv; split <;> omega) w
  clear hZ RZ z
  clear hX hY RX en1 en2
  have WT := fun w => wait_any a h r s h_0 h_1 r_1 s_1 w
  obtain ⟨n0, n1⟩ := wtv_bd (h := h) (r := r) (s := s) h_0 s_1
  rw [hn] at WT n0 n1
  go_enter Try.func6, Try.ntmps6
  go_wp2_with fail
  refine (WT _).mono ?_
  rintro e w1 ⟨rfl, hw1⟩
  have A : At2 w1 w.heap.size (.int .i64 (a)) (.int .i64 (h)) := At2.below (by constructor <;> simp [go_sem]) hw1 (by simp <;> omega)
  have hb : Below w.heap.size w w1 := Below.call (by go_grown) (by simp <;> omega) hw1
  clear hw1
  have hs := hb.size
  obtain ⟨zA0, zA1, zA2, zA3, zA4⟩ := id A
  go_wp2_with fail
  refine (is_any b a h h_0 h_1 _ v1 _).mono ?_
  rintro e w2 ⟨rfl, hw2⟩
  replace A := (A).below hw2 (by have := A.lt; simp <;> omega)
  replace hb : Below w.heap.size w w2 := Below.call (show Below w.heap.size w _ by have := hb.size; go_grown) (by have := hb.size; simp <;> omega) hw2
  clear hw2 zA0 zA1 zA2 zA3 zA4
  have hs := hb.size
  obtain ⟨zA0, zA1, zA2, zA3, zA4⟩ := id A
  go_wp2_with fail
  refine (FX _).mono ?_
  rintro e w3 ⟨rfl, hw3⟩
  replace A := (A).below hw3 (by have := A.lt; simp <;> omega)
  replace hb : Below w.heap.size w w3 := Below.call (show Below w.heap.size w _ by have := hb.size; go_grown) (by have := hb.size; simp <;> omega) hw3
  clear hw3 zA0 zA1 zA2 zA3 zA4
  have hs := hb.size
  obtain ⟨zA0, zA1, zA2, zA3, zA4⟩ := id A
  go_wp2_with fail
  refine (TX _).mono ?_
  rintro e w4 ⟨rfl, hw4⟩
  replace A := (A.alloc _).below hw4 (by have := A.lt; simp <;> omega)
  have X1 : At2 w4 w3.heap.size (.int .i64 (a + n)) (.int .i64 (X)) := At2.after_fresh' hw4
  replace hb : Below w.heap.size w w4 := Below.call (show Below w.heap.size w _ by have := hb.size; go_grown) (by have := hb.size; simp <;> omega) hw4
  clear hw4 zA0 zA1 zA2 zA3 zA4
  have hs := hb.size
  obtain ⟨zA0, zA1, zA2, zA3, zA4⟩ := id A
  obtain ⟨zX10, zX11, zX12, zX13, zX14⟩ := id X1
  go_wp2_with fail
  refine (FZ _).mono ?_
  rintro e w5 ⟨rfl, hw5⟩
  replace A := (A.alloc _).below hw5 (by have := A.lt; simp <;> omega)
  replace X1 := (X1.alloc _).below hw5 (by have := X1.lt; simp <;> omega)
  have X2 : At2 w5 w4.heap.size (.int .i64 (a + n)) (.int .i64 (Y)) := At2.after_fresh' hw5
  replace hb : Below w.heap.size w w5 := Below.call (show Below w.heap.size w _ by have := hb.size; go_grown) (by have := hb.size; simp <;> omega) hw5
  clear hw5 zA0 zA1 zA2 zA3 zA4 zX10 zX11 zX12 zX13 zX14
  have hs := hb.size
  obtain ⟨zA0, zA1, zA2, zA3, zA4⟩ := id A
  obtain ⟨zX10, zX11, zX12, zX13, zX14⟩ := id X1
  obtain ⟨zX20, zX21, zX22, zX23, zX24⟩ := id X2
  go_wp2_with fail
  refine (TZ _).mono ?_
  rintro e w6 ⟨rfl, hw6⟩
  replace A := (A.alloc _).below hw6 (by have := A.lt; simp <;> omega)
  replace X1 := (X1.alloc _).below hw6 (by have := X1.lt; simp <;> omega)
  replace X2 := (X2.alloc _).below hw6 (by have := X2.lt; simp <;> omega)
  have X3 : At2 w6 w5.heap.size (.int .i64 (a + n - 1)) (.int .i64 (Z)) := At2.after_fresh' hw6
  replace hb : Below w.heap.size w w6 := Below.call (show Below w.heap.size w _ by have := hb.size; go_grown) (by have := hb.size; simp <;> omega) hw6
  clear hw6 zA0 zA1 zA2 zA3 zA4 zX10 zX11 zX12 zX13 zX14 zX20 zX21 zX22 zX23 zX24
  have hs := hb.size
  obtain ⟨zA0, zA1, zA2, zA3, zA4⟩ := id A
  obtain ⟨zX10, zX11, zX12, zX13, zX14⟩ := id X1
  obtain ⟨zX20, zX21, zX22, zX23, zX24⟩ := id X2
  obtain ⟨zX30, zX31, zX32, zX33, zX34⟩ := id X3
  go_wp2_with fail
  refine (credited_any _).mono ?_
  rintro e w7 ⟨rfl, hw7⟩
  replace A := (A.alloc _).below hw7 (by have := A.lt; simp <;> omega)
  replace X1 := (X1.alloc _).below hw7 (by have := X1.lt; simp <;> omega)
  replace X2 := (X2.alloc _).below hw7 (by have := X2.lt; simp <;> omega)
  replace X3 := (X3.alloc _).below hw7 (by have := X3.lt; simp <;> omega)
  have X4 : At2 w7 w6.heap.size (.int .i64 (0)) (.int .i64 (0)) := At2.after_fresh' hw7
  replace hb : Below w.heap.size w w7 := Below.call (show Below w.heap.size w _ by have := hb.size; go_grown) (by have := hb.size; simp <;> omega) hw7
  clear hw7 zA0 zA1 zA2 zA3 zA4 zX10 zX11 zX12 zX13 zX14 zX20 zX21 zX22 zX23 zX24 zX30 zX31 zX32 zX33 zX34
  have hs := hb.size
  obtain ⟨zA0, zA1, zA2, zA3, zA4⟩ := id A
  obtain ⟨zX10, zX11, zX12, zX13, zX14⟩ := id X1
  obtain ⟨zX20, zX21, zX22, zX23, zX24⟩ := id X2
  obtain ⟨zX30, zX31, zX32, zX33, zX34⟩ := id X3
  obtain ⟨zX40, zX41, zX42, zX43, zX44⟩ := id X4
  go_wp2
  go_ret
  exact ⟨rfl, by go_grown⟩
theorem walk_waits (b a h r s : Int) (b_0 : -9223372036854775808 ≤ b) (b_1 : b ≤ 9223372036854775807) (a_0 : -9223372036854775808 ≤ a) (a_1 : a ≤ 9223372036854775807) (h_0 : -9223372036854775808 ≤ h) (h_1 : h ≤ 9223372036854775807) (r_0 : -9223372036854775808 ≤ r) (r_1 : r ≤ 9223372036854775807) (s_0 : -9223372036854775808 ≤ s) (s_1 : s ≤ 9223372036854775807) (w : World) :
    Calls Try.prog 6 #[.int .i64 b, .agg #[.int .i64 a, .int .i64 h], .int .i64 r, .int .i64 s] w fun e w' => e = .returned (.bool true) ∧ Below w.heap.size w w' := by
  cases v1 : isv b a h
  · exact walk_waits_1 b a h r s _ b_0 b_1 a_0 a_1 h_0 h_1 r_0 r_1 s_0 s_1 rfl v1 w
  · rcases Int.lt_or_le r 1 with c | c1
    · exact walk_waits_2 b a h r s _ b_0 b_1 a_0 a_1 h_0 h_1 r_0 r_1 s_0 s_1 rfl v1 c w
    · rcases Int.lt_or_le 1000000000 r with c | c2
      · exact walk_waits_3 b a h r s _ b_0 b_1 a_0 a_1 h_0 h_1 r_0 r_1 s_0 s_1 rfl v1 c w
      · rcases Int.lt_or_le s 1 with c | c3
        · exact walk_waits_4 b a h r s _ b_0 b_1 a_0 a_1 h_0 h_1 r_0 r_1 s_0 s_1 rfl v1 c1 c2 c w
        · rcases Int.lt_or_le 9000 s with c | c4
          · exact walk_waits_5 b a h r s _ b_0 b_1 a_0 a_1 h_0 h_1 r_0 r_1 s_0 s_1 rfl v1 c1 c2 c w
          · rcases Int.lt_or_le b s with c | c5
            · exact walk_waits_6 b a h r s _ b_0 b_1 a_0 a_1 h_0 h_1 r_0 r_1 s_0 s_1 rfl v1 c1 c2 c3 c4 c w
            · rcases Int.lt_or_le (1099511627776 - a) (wtv h r s) with c | c6
              · exact walk_waits_7 b a h r s _ b_0 b_1 a_0 a_1 h_0 h_1 r_0 r_1 s_0 s_1 rfl v1 c1 c2 c3 c4 c5 c w
              · by_cases z : wtv h r s = 0
                · exact walk_waits_8 b a h r s _ b_0 b_1 a_0 a_1 h_0 h_1 r_0 r_1 s_0 s_1 rfl v1 c1 c2 c3 c4 c5 c6 z w
                · exact walk_waits_9 b a h r s _ b_0 b_1 a_0 a_1 h_0 h_1 r_0 r_1 s_0 s_1 rfl v1 c1 c2 c3 c4 c5 c6 z w
end Go.Proofs.Ytahlphbgnhklaaa
namespace Go.Proofs.Ytahlphbgnhklaaa.creditWaits
open Go.ChangeShapes Go.WideShapes Go.ChangeAt Go.RowKit Go.Joins
set_option linter.unusedVariables false

theorem own : ownKnob Try.prog.godebug = none := by kernel_rfl
theorem laidOut : laidOutB Try.prog = true := by kernel_rfl
theorem cells23 : Try.prog.cellsOf 23 = 2 := by kernel_rfl
theorem word_of {x : Int} (h : (Lit.int .u64 x).wf = true) : 0 ≤ x ∧ x ≤ 18446744073709551615 := by
  simp [Lit.wf, IntKind.min, IntKind.max, IntKind.signed, IntKind.bits] at h
  exact ⟨by omega, by omega⟩
theorem int_of {x : Int} (h : (Lit.int .i64 x).wf = true) : -9223372036854775808 ≤ x ∧ x ≤ 9223372036854775807 := by
  simp [Lit.wf, IntKind.min, IntKind.max, IntKind.signed, IntKind.bits] at h
  exact ⟨by omega, by omega⟩

set_option maxRecDepth 100000 in
theorem lifted (os : Os) (started : os.Started) (H : Type) (enc : TypeId × Value → H) :
    ReturnsInHanded {} Try.checked os 6 .any (Rows.creditWaitsSpec.pre6 enc Try.prog Try.f6 Rows.creditWaitsRow.domain false) (Rows.creditWaitsSpec.post enc Try.prog Try.f6 false true false false) := by
  refine returnsInHanded_of_change (C := Try.checked) own started (by kernel_rfl) Try.func6
    (ChangeSpec.witness6 (enc := enc) (C := Try.checked) false ⟨#[], #[.int .i64 0, .agg #[.int .i64 0, .int .i64 0], .int .i64 0, .int .i64 0], []⟩ 8 (by kernel_rfl) (by kernel_rfl) (by kernel_rfl) (by kernel_rfl)) ?_
  intro W base args ds gs before hval0 hW hcnd _
  have hval : ∀ (j : Nat) t v, Try.f6.params[j]? = some t → args[j]? = some v → Value.okWide Try.prog W .any base t v := hval0
  have hW' := hW
  obtain ⟨p, q, hA0, hV, rfl, hfz, hnd⟩ := hW
  have hA : DataW.TrodAll enc Try.prog W 0 (fun _ => true) true Try.f6.params.toList args.toList ds p := hA0
  rw [Try.params6] at hA hval
  obtain ⟨v0, vs0, d0, ds0, p0, q0, hargs, rfl, rfl, h0, r0⟩ := trodAll_cons hA
  obtain ⟨v1, vs1, d1, ds1, p1, q1, rfl, rfl, rfl, h1, r1⟩ := trodAll_cons r0
  obtain ⟨v2, vs2, d2, ds2, p2, q2, rfl, rfl, rfl, h2, r2⟩ := trodAll_cons r1
  obtain ⟨v3, vs3, d3, ds3, p3, q3, rfl, rfl, rfl, h3, r3⟩ := trodAll_cons r2
  obtain ⟨rfl, rfl, rfl⟩ := trodAll_nil r3
  obtain rfl : args = #[v0, v1, v2, v3] := by cases args; simp_all
  obtain ⟨rfl, rfl⟩ := trodVars_none hV
  obtain ⟨a0, rfl, rfl, rfl, w0⟩ := open_int Try.underlying3 (hval 0 3 v0 rfl rfl) h0
  have k1 := h1
  have lt1 : ∀ x ∈ p1, x.block < W.heap.size := by obtain ⟨m, hm⟩ := k1; exact DataW.trod_lt m _ _ _ hm
  obtain ⟨c1a, c1b, y1a, y1b, m1, rfl, rfl, rfl, hy1a, hy1b⟩ := open_agg2 Try.underlying23 (by kernel_rfl) cells23 (hval 1 23 v1 rfl rfl) h1
  obtain ⟨x1a, e1a, rfl, w1a⟩ := DataW.trod_int Try.underlying3 hy1a
  obtain ⟨x1b, e1b, rfl, w1b⟩ := DataW.trod_int Try.underlying3 hy1b
  simp at e1a e1b
  subst e1a e1b
  obtain ⟨a2, rfl, rfl, rfl, w2⟩ := open_int Try.underlying3 (hval 2 3 v2 rfl rfl) h2
  obtain ⟨a3, rfl, rfl, rfl, w3⟩ := open_int Try.underlying3 (hval 3 3 v3 rfl rfl) h3
  clear hA0 hval0
  refine (walk_waits a0 x1a x1b a2 a3 (int_of w0).1 (int_of w0).2 (int_of w1a).1 (int_of w1a).2 (int_of w1b).1 (int_of w1b).2 (int_of w2).1 (int_of w2).2 (int_of w3).1 (int_of w3).2 W).mono fun e W' ⟨he, bel⟩ => ?_
  subst he
  exact ⟨_, rfl, _, _, _, [], _, [], hW', trodAll_mk1 (shut_bool Try.underlying4 _), (trodAll_cons_mk (shut_int Try.underlying3 w0) (trodAll_cons_mk (Below.trod laidOut (by kernel_rfl) (of_decide_eq_true (by kernel_rfl)) k1 bel lt1) (trodAll_cons_mk (shut_int Try.underlying3 w2) (trodAll_cons_mk (shut_int Try.underlying3 w3) trodAll_mk0)))), rfl, bel.frame _, fun h => by cases h⟩

theorem over : Rows.creditWaitsRow.holds Try.pinned (OpenSpec.ofChange Rows.creditWaitsSpec) :=
  OpenClaim.holds_of_wide 6 Try.f6 rfl rfl rfl rfl rfl rfl rfl ⟨rfl, rfl, rfl, rfl, rfl⟩ rfl rfl rfl rfl rfl (by kernel_rfl) Try.func6 (by kernel_rfl)
    (of_decide_eq_true (by kernel_rfl)) (by unfold Func.isWrapper; first | (rw [if_pos (by decide +kernel)]; kernel_rfl) | (rw [if_neg (by decide +kernel)]; exact ⟨rfl, rfl⟩))
    (fun os started H enc _ => lifted os started H enc)
theorem proved : Rows.CreditWaitsSaid := over
#print axioms proved
end Go.Proofs.Ytahlphbgnhklaaa.creditWaits
