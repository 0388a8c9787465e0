/-
  CreditSplits, way by way. No conditions but those of each way.
-/
import Derived.Test.YtahlphbgnhklaaaN7
import Derived.Test.YtahlphbgnhklaaaN8
import Derived.Deep.RegionHeld3
import Derived.Deep.DeepCutAuto
import Derived.Test.YtahlphbgnhklaaaRows
import Derived.WalkKit
import Derived.ProofKit
import Derived.OpenShut
import Derived.ChangeOld
import Derived.Below
import Derived.Lib.SmallJoins
namespace Go.Proofs.Ytahlphbgnhklaaa
open Go.RowKit
set_option linter.unusedVariables false
attribute [local go_sem] Later.cell Later.frozen

theorem k_new {W w3 : World} {x y : Value} (h : Below W.heap.size W w3) : Below W.heap.size W (w3.alloc (.cells #[x, y] 42)) := h.alloc h.size _
theorem k_old {W w3 : World} {u v : Value} (h : Below W.heap.size W w3) : Below W.heap.size W ((w3.setCell ⟨W.heap.size, 0, none⟩ u).setCell ⟨W.heap.size, 1, none⟩ v) := by have := h.size; go_grown
set_option maxHeartbeats 4000000 in
set_option maxRecDepth 100000 in
theorem walk_splits_a0 (b a h r m t s A1 H1 E1 A2 H2 E2 A3 H3 E3 n : Int) (b_0 : -9223372036854775808 ≤ b) (b_1 : b ≤ 9223372036854775807) (a_0 : -9223372036854775808 ≤ a) (a_1 : a ≤ 9223372036854775807) (h_0 : -9223372036854775808 ≤ h) (h_1 : h ≤ 9223372036854775807) (r_0 : -9223372036854775808 ≤ r) (r_1 : r ≤ 9223372036854775807) (m_0 : -9223372036854775808 ≤ m) (m_1 : m ≤ 9223372036854775807) (t_0 : -9223372036854775808 ≤ t) (t_1 : t ≤ 9223372036854775807) (s_0 : -9223372036854775808 ≤ s) (s_1 : s ≤ 9223372036854775807) (H1_0 : -9223372036854775808 ≤ H1) (H1_1 : H1 ≤ 9223372036854775807)  (F1 : ∀ w, Calls Try.prog 10 #[.int .i64 b, .agg #[.int .i64 a, .int .i64 h], .int .i64 r, .int .i64 m] w fun e w' => e = .returned (.tuple #[.agg #[.int .i64 A1, .int .i64 H1], .int .i64 E1]) ∧ Below w.heap.size w w')
    (F2 : ∀ w, Calls Try.prog 10 #[.int .i64 b, .agg #[.int .i64 A1, .int .i64 H1], .int .i64 r, .int .i64 t] w fun e w' => e = .returned (.tuple #[.agg #[.int .i64 A2, .int .i64 H2], .int .i64 E2]) ∧ Below w.heap.size w w')
    (F3 : ∀ w, Calls Try.prog 10 #[.int .i64 b, .agg #[.int .i64 a, .int .i64 h], .int .i64 r, .int .i64 t] w fun e w' => e = .returned (.tuple #[.agg #[.int .i64 A3, .int .i64 H3], .int .i64 E3]) ∧ Below w.heap.size w w')
    (n0 : 0 ≤ n) (n1 : n ≤ 4611686018427387904)
    (WT : ∀ w, Calls Try.prog 17 #[.agg #[.int .i64 a, .int .i64 h], .int .i64 r, .int .i64 s] w fun e w' => e = .returned (.int .i64 n) ∧ Below w.heap.size w w') (k : (E1 == 0) = false) (c : s ≤ 0) (w : World) :
    Calls Try.prog 7 #[.int .i64 b, .agg #[.int .i64 a, .int .i64 h], .int .i64 r, .int .i64 m, .int .i64 t, .int .i64 s] w fun e w' => e = .returned (.bool true) ∧ Below w.heap.size w w' := by
  go_enter Try.func7, Try.ntmps7
  go_wp2_with fail
  refine (F1 _).mono ?_
  rintro e w1 ⟨rfl, hw1⟩
  have A : At2 w1 w.heap.size (.int .i64 (a)) (.int .i64 (h)) := At2.below (by constructor <;> simp [go_sem]) hw1 (by simp <;> omega)
  have hb : Below w.heap.size w w1 := Below.call (by go_grown) (by simp <;> omega) hw1
  clear hw1
  have hs := hb.size
  obtain ⟨zA0, zA1, zA2, zA3, zA4⟩ := id A
  go_wp2_with fail
  refine (F2 _).mono ?_
  rintro e w2 ⟨rfl, hw2⟩
  replace A := (A.alloc _).below hw2 (by have := A.lt; simp <;> omega)
  have X1 : At2 w2 w1.heap.size (.int .i64 (A1)) (.int .i64 (H1)) := At2.after_fresh' hw2
  replace hb : Below w.heap.size w w2 := Below.call (show Below w.heap.size w _ by have := hb.size; go_grown) (by have := hb.size; simp <;> omega) hw2
  clear hw2 zA0 zA1 zA2 zA3 zA4
  have hs := hb.size
  obtain ⟨zA0, zA1, zA2, zA3, zA4⟩ := id A
  obtain ⟨zX10, zX11, zX12, zX13, zX14⟩ := id X1
  go_wp2_with fail
  refine (F3 _).mono ?_
  rintro e w3 ⟨rfl, hw3⟩
  replace A := (A.alloc _).below hw3 (by have := A.lt; simp <;> omega)
  replace X1 := (X1.alloc _).below hw3 (by have := X1.lt; simp <;> omega)
  have X2 : At2 w3 w2.heap.size (.int .i64 (A2)) (.int .i64 (H2)) := At2.after_fresh' hw3
  replace hb : Below w.heap.size w w3 := Below.call (show Below w.heap.size w _ by have := hb.size; go_grown) (by have := hb.size; simp <;> omega) hw3
  clear hw3 zA0 zA1 zA2 zA3 zA4 zX10 zX11 zX12 zX13 zX14
  have hs := hb.size
  obtain ⟨zA0, zA1, zA2, zA3, zA4⟩ := id A
  obtain ⟨zX10, zX11, zX12, zX13, zX14⟩ := id X1
  obtain ⟨zX20, zX21, zX22, zX23, zX24⟩ := id X2
  go_wp2_with fail
  refine (WT _).mono ?_
  rintro e w4 ⟨rfl, hw4⟩
  replace A := (A.alloc _).below hw4 (by have := A.lt; simp <;> omega)
  replace X1 := (X1.alloc _).below hw4 (by have := X1.lt; simp <;> omega)
  replace X2 := (X2.alloc _).below hw4 (by have := X2.lt; simp <;> omega)
  have X3 : At2 w4 w3.heap.size (.int .i64 (A3)) (.int .i64 (H3)) := At2.after_fresh' hw4
  replace hb : Below w.heap.size w w4 := Below.call (show Below w.heap.size w _ by have := hb.size; go_grown) (by have := hb.size; simp <;> omega) hw4
  clear hw4 zA0 zA1 zA2 zA3 zA4 zX10 zX11 zX12 zX13 zX14 zX20 zX21 zX22 zX23 zX24
  have hs := hb.size
  obtain ⟨zA0, zA1, zA2, zA3, zA4⟩ := id A
  obtain ⟨zX10, zX11, zX12, zX13, zX14⟩ := id X1
  obtain ⟨zX20, zX21, zX22, zX23, zX24⟩ := id X2
  obtain ⟨zX30, zX31, zX32, zX33, zX34⟩ := id X3
  go_wp2_with fail
  refine (credited_any _).mono ?_
  rintro e w5 ⟨rfl, hw5⟩
  replace A := (A).below hw5 (by have := A.lt; simp <;> omega)
  replace X1 := (X1).below hw5 (by have := X1.lt; simp <;> omega)
  replace X2 := (X2).below hw5 (by have := X2.lt; simp <;> omega)
  replace X3 := (X3).below hw5 (by have := X3.lt; simp <;> omega)
  replace hb : Below w.heap.size w w5 := Below.call (show Below w.heap.size w _ by have := hb.size; go_grown) (by have := hb.size; simp <;> omega) hw5
  clear hw5 zA0 zA1 zA2 zA3 zA4 zX10 zX11 zX12 zX13 zX14 zX20 zX21 zX22 zX23 zX24 zX30 zX31 zX32 zX33 zX34
  have hs := hb.size
  obtain ⟨zA0, zA1, zA2, zA3, zA4⟩ := id A
  obtain ⟨zX10, zX11, zX12, zX13, zX14⟩ := id X1
  obtain ⟨zX20, zX21, zX22, zX23, zX24⟩ := id X2
  obtain ⟨zX30, zX31, zX32, zX33, zX34⟩ := id X3
  go_wp2
  go_ret
  exact ⟨rfl, by go_grown⟩
set_option maxHeartbeats 4000000 in
set_option maxRecDepth 100000 in
theorem walk_splits_a1 (b a h r m t s A1 H1 E1 A2 H2 E2 A3 H3 E3 n : Int) (b_0 : -9223372036854775808 ≤ b) (b_1 : b ≤ 9223372036854775807) (a_0 : -9223372036854775808 ≤ a) (a_1 : a ≤ 9223372036854775807) (h_0 : -9223372036854775808 ≤ h) (h_1 : h ≤ 9223372036854775807) (r_0 : -9223372036854775808 ≤ r) (r_1 : r ≤ 9223372036854775807) (m_0 : -9223372036854775808 ≤ m) (m_1 : m ≤ 9223372036854775807) (t_0 : -9223372036854775808 ≤ t) (t_1 : t ≤ 9223372036854775807) (s_0 : -9223372036854775808 ≤ s) (s_1 : s ≤ 9223372036854775807) (H1_0 : -9223372036854775808 ≤ H1) (H1_1 : H1 ≤ 9223372036854775807)  (F1 : ∀ w, Calls Try.prog 10 #[.int .i64 b, .agg #[.int .i64 a, .int .i64 h], .int .i64 r, .int .i64 m] w fun e w' => e = .returned (.tuple #[.agg #[.int .i64 A1, .int .i64 H1], .int .i64 E1]) ∧ Below w.heap.size w w')
    (F2 : ∀ w, Calls Try.prog 10 #[.int .i64 b, .agg #[.int .i64 A1, .int .i64 H1], .int .i64 r, .int .i64 t] w fun e w' => e = .returned (.tuple #[.agg #[.int .i64 A2, .int .i64 H2], .int .i64 E2]) ∧ Below w.heap.size w w')
    (F3 : ∀ w, Calls Try.prog 10 #[.int .i64 b, .agg #[.int .i64 a, .int .i64 h], .int .i64 r, .int .i64 t] w fun e w' => e = .returned (.tuple #[.agg #[.int .i64 A3, .int .i64 H3], .int .i64 E3]) ∧ Below w.heap.size w w')
    (n0 : 0 ≤ n) (n1 : n ≤ 4611686018427387904)
    (WT : ∀ w, Calls Try.prog 17 #[.agg #[.int .i64 a, .int .i64 h], .int .i64 r, .int .i64 s] w fun e w' => e = .returned (.int .i64 n) ∧ Below w.heap.size w w') (k : (E1 == 0) = false) (e1 : 0 < s) (c : r ≤ 0) (w : World) :
    Calls Try.prog 7 #[.int .i64 b, .agg #[.int .i64 a, .int .i64 h], .int .i64 r, .int .i64 m, .int .i64 t, .int .i64 s] w fun e w' => e = .returned (.bool true) ∧ Below w.heap.size w w' := by
  have d0 : decide (s ≤ 0) = false := decide_eq_false (by omega)
  go_enter Try.func7, Try.ntmps7
  go_wp2_with fail
  refine (F1 _).mono ?_
  rintro e w1 ⟨rfl, hw1⟩
  have A : At2 w1 w.heap.size (.int .i64 (a)) (.int .i64 (h)) := At2.below (by constructor <;> simp [go_sem]) hw1 (by simp <;> omega)
  have hb : Below w.heap.size w w1 := Below.call (by go_grown) (by simp <;> omega) hw1
  clear hw1
  have hs := hb.size
  obtain ⟨zA0, zA1, zA2, zA3, zA4⟩ := id A
  go_wp2_with fail
  refine (F2 _).mono ?_
  rintro e w2 ⟨rfl, hw2⟩
  replace A := (A.alloc _).below hw2 (by have := A.lt; simp <;> omega)
  have X1 : At2 w2 w1.heap.size (.int .i64 (A1)) (.int .i64 (H1)) := At2.after_fresh' hw2
  replace hb : Below w.heap.size w w2 := Below.call (show Below w.heap.size w _ by have := hb.size; go_grown) (by have := hb.size; simp <;> omega) hw2
  clear hw2 zA0 zA1 zA2 zA3 zA4
  have hs := hb.size
  obtain ⟨zA0, zA1, zA2, zA3, zA4⟩ := id A
  obtain ⟨zX10, zX11, zX12, zX13, zX14⟩ := id X1
  go_wp2_with fail
  refine (F3 _).mono ?_
  rintro e w3 ⟨rfl, hw3⟩
  replace A := (A.alloc _).below hw3 (by have := A.lt; simp <;> omega)
  replace X1 := (X1.alloc _).below hw3 (by have := X1.lt; simp <;> omega)
  have X2 : At2 w3 w2.heap.size (.int .i64 (A2)) (.int .i64 (H2)) := At2.after_fresh' hw3
  replace hb : Below w.heap.size w w3 := Below.call (show Below w.heap.size w _ by have := hb.size; go_grown) (by have := hb.size; simp <;> omega) hw3
  clear hw3 zA0 zA1 zA2 zA3 zA4 zX10 zX11 zX12 zX13 zX14
  have hs := hb.size
  obtain ⟨zA0, zA1, zA2, zA3, zA4⟩ := id A
  obtain ⟨zX10, zX11, zX12, zX13, zX14⟩ := id X1
  obtain ⟨zX20, zX21, zX22, zX23, zX24⟩ := id X2
  go_wp2_with fail
  refine (WT _).mono ?_
  rintro e w4 ⟨rfl, hw4⟩
  replace A := (A.alloc _).below hw4 (by have := A.lt; simp <;> omega)
  replace X1 := (X1.alloc _).below hw4 (by have := X1.lt; simp <;> omega)
  replace X2 := (X2.alloc _).below hw4 (by have := X2.lt; simp <;> omega)
  have X3 : At2 w4 w3.heap.size (.int .i64 (A3)) (.int .i64 (H3)) := At2.after_fresh' hw4
  replace hb : Below w.heap.size w w4 := Below.call (show Below w.heap.size w _ by have := hb.size; go_grown) (by have := hb.size; simp <;> omega) hw4
  clear hw4 zA0 zA1 zA2 zA3 zA4 zX10 zX11 zX12 zX13 zX14 zX20 zX21 zX22 zX23 zX24
  have hs := hb.size
  obtain ⟨zA0, zA1, zA2, zA3, zA4⟩ := id A
  obtain ⟨zX10, zX11, zX12, zX13, zX14⟩ := id X1
  obtain ⟨zX20, zX21, zX22, zX23, zX24⟩ := id X2
  obtain ⟨zX30, zX31, zX32, zX33, zX34⟩ := id X3
  go_wp2_with fail
  refine (credited_any _).mono ?_
  rintro e w5 ⟨rfl, hw5⟩
  replace A := (A).below hw5 (by have := A.lt; simp <;> omega)
  replace X1 := (X1).below hw5 (by have := X1.lt; simp <;> omega)
  replace X2 := (X2).below hw5 (by have := X2.lt; simp <;> omega)
  replace X3 := (X3).below hw5 (by have := X3.lt; simp <;> omega)
  replace hb : Below w.heap.size w w5 := Below.call (show Below w.heap.size w _ by have := hb.size; go_grown) (by have := hb.size; simp <;> omega) hw5
  clear hw5 zA0 zA1 zA2 zA3 zA4 zX10 zX11 zX12 zX13 zX14 zX20 zX21 zX22 zX23 zX24 zX30 zX31 zX32 zX33 zX34
  have hs := hb.size
  obtain ⟨zA0, zA1, zA2, zA3, zA4⟩ := id A
  obtain ⟨zX10, zX11, zX12, zX13, zX14⟩ := id X1
  obtain ⟨zX20, zX21, zX22, zX23, zX24⟩ := id X2
  obtain ⟨zX30, zX31, zX32, zX33, zX34⟩ := id X3
  go_wp2
  go_ret
  exact ⟨rfl, by go_grown⟩
set_option maxHeartbeats 4000000 in
set_option maxRecDepth 100000 in
theorem walk_splits_a2 (b a h r m t s A1 H1 E1 A2 H2 E2 A3 H3 E3 n : Int) (b_0 : -9223372036854775808 ≤ b) (b_1 : b ≤ 9223372036854775807) (a_0 : -9223372036854775808 ≤ a) (a_1 : a ≤ 9223372036854775807) (h_0 : -9223372036854775808 ≤ h) (h_1 : h ≤ 9223372036854775807) (r_0 : -9223372036854775808 ≤ r) (r_1 : r ≤ 9223372036854775807) (m_0 : -9223372036854775808 ≤ m) (m_1 : m ≤ 9223372036854775807) (t_0 : -9223372036854775808 ≤ t) (t_1 : t ≤ 9223372036854775807) (s_0 : -9223372036854775808 ≤ s) (s_1 : s ≤ 9223372036854775807) (H1_0 : -9223372036854775808 ≤ H1) (H1_1 : H1 ≤ 9223372036854775807)  (F1 : ∀ w, Calls Try.prog 10 #[.int .i64 b, .agg #[.int .i64 a, .int .i64 h], .int .i64 r, .int .i64 m] w fun e w' => e = .returned (.tuple #[.agg #[.int .i64 A1, .int .i64 H1], .int .i64 E1]) ∧ Below w.heap.size w w')
    (F2 : ∀ w, Calls Try.prog 10 #[.int .i64 b, .agg #[.int .i64 A1, .int .i64 H1], .int .i64 r, .int .i64 t] w fun e w' => e = .returned (.tuple #[.agg #[.int .i64 A2, .int .i64 H2], .int .i64 E2]) ∧ Below w.heap.size w w')
    (F3 : ∀ w, Calls Try.prog 10 #[.int .i64 b, .agg #[.int .i64 a, .int .i64 h], .int .i64 r, .int .i64 t] w fun e w' => e = .returned (.tuple #[.agg #[.int .i64 A3, .int .i64 H3], .int .i64 E3]) ∧ Below w.heap.size w w')
    (n0 : 0 ≤ n) (n1 : n ≤ 4611686018427387904)
    (WT : ∀ w, Calls Try.prog 17 #[.agg #[.int .i64 a, .int .i64 h], .int .i64 r, .int .i64 s] w fun e w' => e = .returned (.int .i64 n) ∧ Below w.heap.size w w') (k : (E1 == 0) = false) (e1 : 0 < s) (e2 : 0 < r) (c : h < 0) (w : World) :
    Calls Try.prog 7 #[.int .i64 b, .agg #[.int .i64 a, .int .i64 h], .int .i64 r, .int .i64 m, .int .i64 t, .int .i64 s] w fun e w' => e = .returned (.bool true) ∧ Below w.heap.size w w' := by
  have d0 : decide (s ≤ 0) = false := decide_eq_false (by omega)
  have d1 : decide (r ≤ 0) = false := decide_eq_false (by omega)
  go_enter Try.func7, Try.ntmps7
  go_wp2_with fail
  refine (F1 _).mono ?_
  rintro e w1 ⟨rfl, hw1⟩
  have A : At2 w1 w.heap.size (.int .i64 (a)) (.int .i64 (h)) := At2.below (by constructor <;> simp [go_sem]) hw1 (by simp <;> omega)
  have hb : Below w.heap.size w w1 := Below.call (by go_grown) (by simp <;> omega) hw1
  clear hw1
  have hs := hb.size
  obtain ⟨zA0, zA1, zA2, zA3, zA4⟩ := id A
  go_wp2_with fail
  refine (F2 _).mono ?_
  rintro e w2 ⟨rfl, hw2⟩
  replace A := (A.alloc _).below hw2 (by have := A.lt; simp <;> omega)
  have X1 : At2 w2 w1.heap.size (.int .i64 (A1)) (.int .i64 (H1)) := At2.after_fresh' hw2
  replace hb : Below w.heap.size w w2 := Below.call (show Below w.heap.size w _ by have := hb.size; go_grown) (by have := hb.size; simp <;> omega) hw2
  clear hw2 zA0 zA1 zA2 zA3 zA4
  have hs := hb.size
  obtain ⟨zA0, zA1, zA2, zA3, zA4⟩ := id A
  obtain ⟨zX10, zX11, zX12, zX13, zX14⟩ := id X1
  go_wp2_with fail
  refine (F3 _).mono ?_
  rintro e w3 ⟨rfl, hw3⟩
  replace A := (A.alloc _).below hw3 (by have := A.lt; simp <;> omega)
  replace X1 := (X1.alloc _).below hw3 (by have := X1.lt; simp <;> omega)
  have X2 : At2 w3 w2.heap.size (.int .i64 (A2)) (.int .i64 (H2)) := At2.after_fresh' hw3
  replace hb : Below w.heap.size w w3 := Below.call (show Below w.heap.size w _ by have := hb.size; go_grown) (by have := hb.size; simp <;> omega) hw3
  clear hw3 zA0 zA1 zA2 zA3 zA4 zX10 zX11 zX12 zX13 zX14
  have hs := hb.size
  obtain ⟨zA0, zA1, zA2, zA3, zA4⟩ := id A
  obtain ⟨zX10, zX11, zX12, zX13, zX14⟩ := id X1
  obtain ⟨zX20, zX21, zX22, zX23, zX24⟩ := id X2
  go_wp2_with fail
  refine (WT _).mono ?_
  rintro e w4 ⟨rfl, hw4⟩
  replace A := (A.alloc _).below hw4 (by have := A.lt; simp <;> omega)
  replace X1 := (X1.alloc _).below hw4 (by have := X1.lt; simp <;> omega)
  replace X2 := (X2.alloc _).below hw4 (by have := X2.lt; simp <;> omega)
  have X3 : At2 w4 w3.heap.size (.int .i64 (A3)) (.int .i64 (H3)) := At2.after_fresh' hw4
  replace hb : Below w.heap.size w w4 := Below.call (show Below w.heap.size w _ by have := hb.size; go_grown) (by have := hb.size; simp <;> omega) hw4
  clear hw4 zA0 zA1 zA2 zA3 zA4 zX10 zX11 zX12 zX13 zX14 zX20 zX21 zX22 zX23 zX24
  have hs := hb.size
  obtain ⟨zA0, zA1, zA2, zA3, zA4⟩ := id A
  obtain ⟨zX10, zX11, zX12, zX13, zX14⟩ := id X1
  obtain ⟨zX20, zX21, zX22, zX23, zX24⟩ := id X2
  obtain ⟨zX30, zX31, zX32, zX33, zX34⟩ := id X3
  go_wp2_with fail
  refine (credited_any _).mono ?_
  rintro e w5 ⟨rfl, hw5⟩
  replace A := (A).below hw5 (by have := A.lt; simp <;> omega)
  replace X1 := (X1).below hw5 (by have := X1.lt; simp <;> omega)
  replace X2 := (X2).below hw5 (by have := X2.lt; simp <;> omega)
  replace X3 := (X3).below hw5 (by have := X3.lt; simp <;> omega)
  replace hb : Below w.heap.size w w5 := Below.call (show Below w.heap.size w _ by have := hb.size; go_grown) (by have := hb.size; simp <;> omega) hw5
  clear hw5 zA0 zA1 zA2 zA3 zA4 zX10 zX11 zX12 zX13 zX14 zX20 zX21 zX22 zX23 zX24 zX30 zX31 zX32 zX33 zX34
  have hs := hb.size
  obtain ⟨zA0, zA1, zA2, zA3, zA4⟩ := id A
  obtain ⟨zX10, zX11, zX12, zX13, zX14⟩ := id X1
  obtain ⟨zX20, zX21, zX22, zX23, zX24⟩ := id X2
  obtain ⟨zX30, zX31, zX32, zX33, zX34⟩ := id X3
  go_wp2
  go_ret
  exact ⟨rfl, by go_grown⟩
set_option maxHeartbeats 4000000 in
set_option maxRecDepth 100000 in
theorem walk_splits_a3 (b a h r m t s A1 H1 E1 A2 H2 E2 A3 H3 E3 n : Int) (b_0 : -9223372036854775808 ≤ b) (b_1 : b ≤ 9223372036854775807) (a_0 : -9223372036854775808 ≤ a) (a_1 : a ≤ 9223372036854775807) (h_0 : -9223372036854775808 ≤ h) (h_1 : h ≤ 9223372036854775807) (r_0 : -9223372036854775808 ≤ r) (r_1 : r ≤ 9223372036854775807) (m_0 : -9223372036854775808 ≤ m) (m_1 : m ≤ 9223372036854775807) (t_0 : -9223372036854775808 ≤ t) (t_1 : t ≤ 9223372036854775807) (s_0 : -9223372036854775808 ≤ s) (s_1 : s ≤ 9223372036854775807) (H1_0 : -9223372036854775808 ≤ H1) (H1_1 : H1 ≤ 9223372036854775807)  (F1 : ∀ w, Calls Try.prog 10 #[.int .i64 b, .agg #[.int .i64 a, .int .i64 h], .int .i64 r, .int .i64 m] w fun e w' => e = .returned (.tuple #[.agg #[.int .i64 A1, .int .i64 H1], .int .i64 E1]) ∧ Below w.heap.size w w')
    (F2 : ∀ w, Calls Try.prog 10 #[.int .i64 b, .agg #[.int .i64 A1, .int .i64 H1], .int .i64 r, .int .i64 t] w fun e w' => e = .returned (.tuple #[.agg #[.int .i64 A2, .int .i64 H2], .int .i64 E2]) ∧ Below w.heap.size w w')
    (F3 : ∀ w, Calls Try.prog 10 #[.int .i64 b, .agg #[.int .i64 a, .int .i64 h], .int .i64 r, .int .i64 t] w fun e w' => e = .returned (.tuple #[.agg #[.int .i64 A3, .int .i64 H3], .int .i64 E3]) ∧ Below w.heap.size w w')
    (n0 : 0 ≤ n) (n1 : n ≤ 4611686018427387904)
    (WT : ∀ w, Calls Try.prog 17 #[.agg #[.int .i64 a, .int .i64 h], .int .i64 r, .int .i64 s] w fun e w' => e = .returned (.int .i64 n) ∧ Below w.heap.size w w') (k : (E1 == 0) = false) (e1 : 0 < s) (e2 : 0 < r) (e3 : 0 ≤ h) (c : (n == 4611686018427387904) = true) (w : World) :
    Calls Try.prog 7 #[.int .i64 b, .agg #[.int .i64 a, .int .i64 h], .int .i64 r, .int .i64 m, .int .i64 t, .int .i64 s] w fun e w' => e = .returned (.bool true) ∧ Below w.heap.size w w' := by
  have d0 : decide (s ≤ 0) = false := decide_eq_false (by omega)
  have d1 : decide (r ≤ 0) = false := decide_eq_false (by omega)
  have d2 : decide (h < 0) = false := decide_eq_false (by omega)
  go_enter Try.func7, Try.ntmps7
  go_wp2_with fail
  refine (F1 _).mono ?_
  rintro e w1 ⟨rfl, hw1⟩
  have A : At2 w1 w.heap.size (.int .i64 (a)) (.int .i64 (h)) := At2.below (by constructor <;> simp [go_sem]) hw1 (by simp <;> omega)
  have hb : Below w.heap.size w w1 := Below.call (by go_grown) (by simp <;> omega) hw1
  clear hw1
  have hs := hb.size
  obtain ⟨zA0, zA1, zA2, zA3, zA4⟩ := id A
  go_wp2_with fail
  refine (F2 _).mono ?_
  rintro e w2 ⟨rfl, hw2⟩
  replace A := (A.alloc _).below hw2 (by have := A.lt; simp <;> omega)
  have X1 : At2 w2 w1.heap.size (.int .i64 (A1)) (.int .i64 (H1)) := At2.after_fresh' hw2
  replace hb : Below w.heap.size w w2 := Below.call (show Below w.heap.size w _ by have := hb.size; go_grown) (by have := hb.size; simp <;> omega) hw2
  clear hw2 zA0 zA1 zA2 zA3 zA4
  have hs := hb.size
  obtain ⟨zA0, zA1, zA2, zA3, zA4⟩ := id A
  obtain ⟨zX10, zX11, zX12, zX13, zX14⟩ := id X1
  go_wp2_with fail
  refine (F3 _).mono ?_
  rintro e w3 ⟨rfl, hw3⟩
  replace A := (A.alloc _).below hw3 (by have := A.lt; simp <;> omega)
  replace X1 := (X1.alloc _).below hw3 (by have := X1.lt; simp <;> omega)
  have X2 : At2 w3 w2.heap.size (.int .i64 (A2)) (.int .i64 (H2)) := At2.after_fresh' hw3
  replace hb : Below w.heap.size w w3 := Below.call (show Below w.heap.size w _ by have := hb.size; go_grown) (by have := hb.size; simp <;> omega) hw3
  clear hw3 zA0 zA1 zA2 zA3 zA4 zX10 zX11 zX12 zX13 zX14
  have hs := hb.size
  obtain ⟨zA0, zA1, zA2, zA3, zA4⟩ := id A
  obtain ⟨zX10, zX11, zX12, zX13, zX14⟩ := id X1
  obtain ⟨zX20, zX21, zX22, zX23, zX24⟩ := id X2
  go_wp2_with fail
  refine (WT _).mono ?_
  rintro e w4 ⟨rfl, hw4⟩
  replace A := (A.alloc _).below hw4 (by have := A.lt; simp <;> omega)
  replace X1 := (X1.alloc _).below hw4 (by have := X1.lt; simp <;> omega)
  replace X2 := (X2.alloc _).below hw4 (by have := X2.lt; simp <;> omega)
  have X3 : At2 w4 w3.heap.size (.int .i64 (A3)) (.int .i64 (H3)) := At2.after_fresh' hw4
  replace hb : Below w.heap.size w w4 := Below.call (show Below w.heap.size w _ by have := hb.size; go_grown) (by have := hb.size; simp <;> omega) hw4
  clear hw4 zA0 zA1 zA2 zA3 zA4 zX10 zX11 zX12 zX13 zX14 zX20 zX21 zX22 zX23 zX24
  have hs := hb.size
  obtain ⟨zA0, zA1, zA2, zA3, zA4⟩ := id A
  obtain ⟨zX10, zX11, zX12, zX13, zX14⟩ := id X1
  obtain ⟨zX20, zX21, zX22, zX23, zX24⟩ := id X2
  obtain ⟨zX30, zX31, zX32, zX33, zX34⟩ := id X3
  go_wp2_with fail
  refine (credited_any _).mono ?_
  rintro e w5 ⟨rfl, hw5⟩
  replace A := (A).below hw5 (by have := A.lt; simp <;> omega)
  replace X1 := (X1).below hw5 (by have := X1.lt; simp <;> omega)
  replace X2 := (X2).below hw5 (by have := X2.lt; simp <;> omega)
  replace X3 := (X3).below hw5 (by have := X3.lt; simp <;> omega)
  replace hb : Below w.heap.size w w5 := Below.call (show Below w.heap.size w _ by have := hb.size; go_grown) (by have := hb.size; simp <;> omega) hw5
  clear hw5 zA0 zA1 zA2 zA3 zA4 zX10 zX11 zX12 zX13 zX14 zX20 zX21 zX22 zX23 zX24 zX30 zX31 zX32 zX33 zX34
  have hs := hb.size
  obtain ⟨zA0, zA1, zA2, zA3, zA4⟩ := id A
  obtain ⟨zX10, zX11, zX12, zX13, zX14⟩ := id X1
  obtain ⟨zX20, zX21, zX22, zX23, zX24⟩ := id X2
  obtain ⟨zX30, zX31, zX32, zX33, zX34⟩ := id X3
  go_wp2
  go_ret
  exact ⟨rfl, by go_grown⟩
set_option maxHeartbeats 4000000 in
set_option maxRecDepth 100000 in
theorem walk_splits_a4 (b a h r m t s A1 H1 E1 A2 H2 E2 A3 H3 E3 n : Int) (b_0 : -9223372036854775808 ≤ b) (b_1 : b ≤ 9223372036854775807) (a_0 : -9223372036854775808 ≤ a) (a_1 : a ≤ 9223372036854775807) (h_0 : -9223372036854775808 ≤ h) (h_1 : h ≤ 9223372036854775807) (r_0 : -9223372036854775808 ≤ r) (r_1 : r ≤ 9223372036854775807) (m_0 : -9223372036854775808 ≤ m) (m_1 : m ≤ 9223372036854775807) (t_0 : -9223372036854775808 ≤ t) (t_1 : t ≤ 9223372036854775807) (s_0 : -9223372036854775808 ≤ s) (s_1 : s ≤ 9223372036854775807) (H1_0 : -9223372036854775808 ≤ H1) (H1_1 : H1 ≤ 9223372036854775807)  (F1 : ∀ w, Calls Try.prog 10 #[.int .i64 b, .agg #[.int .i64 a, .int .i64 h], .int .i64 r, .int .i64 m] w fun e w' => e = .returned (.tuple #[.agg #[.int .i64 A1, .int .i64 H1], .int .i64 E1]) ∧ Below w.heap.size w w')
    (F2 : ∀ w, Calls Try.prog 10 #[.int .i64 b, .agg #[.int .i64 A1, .int .i64 H1], .int .i64 r, .int .i64 t] w fun e w' => e = .returned (.tuple #[.agg #[.int .i64 A2, .int .i64 H2], .int .i64 E2]) ∧ Below w.heap.size w w')
    (F3 : ∀ w, Calls Try.prog 10 #[.int .i64 b, .agg #[.int .i64 a, .int .i64 h], .int .i64 r, .int .i64 t] w fun e w' => e = .returned (.tuple #[.agg #[.int .i64 A3, .int .i64 H3], .int .i64 E3]) ∧ Below w.heap.size w w')
    (n0 : 0 ≤ n) (n1 : n ≤ 4611686018427387904)
    (WT : ∀ w, Calls Try.prog 17 #[.agg #[.int .i64 a, .int .i64 h], .int .i64 r, .int .i64 s] w fun e w' => e = .returned (.int .i64 n) ∧ Below w.heap.size w w') (k : (E1 == 0) = false) (e1 : 0 < s) (e2 : 0 < r) (e3 : 0 ≤ h) (c : (n == 4611686018427387904) = false) (g : s * 1000000 ≤ r * n + h) (w : World) :
    Calls Try.prog 7 #[.int .i64 b, .agg #[.int .i64 a, .int .i64 h], .int .i64 r, .int .i64 m, .int .i64 t, .int .i64 s] w fun e w' => e = .returned (.bool true) ∧ Below w.heap.size w w' := by
  have d0 : decide (s ≤ 0) = false := decide_eq_false (by omega)
  have d1 : decide (r ≤ 0) = false := decide_eq_false (by omega)
  have d2 : decide (h < 0) = false := decide_eq_false (by omega)
  have p0 := Int.mul_nonneg (show 0 ≤ r by omega) n0
  have p1 := Int.mul_le_mul (show r ≤ 9223372036854775807 by omega) n1 n0 (by omega)
  have K : 0 ≤ cmpv (r * n + h) (s * 1000000) := by unfold cmpv; (repeat split) <;> omega
  go_enter Try.func7, Try.ntmps7
  go_wp2_with fail
  refine (F1 _).mono ?_
  rintro e w1 ⟨rfl, hw1⟩
  have A : At2 w1 w.heap.size (.int .i64 (a)) (.int .i64 (h)) := At2.below (by constructor <;> simp [go_sem]) hw1 (by simp <;> omega)
  have hb : Below w.heap.size w w1 := Below.call (by go_grown) (by simp <;> omega) hw1
  clear hw1
  have hs := hb.size
  obtain ⟨zA0, zA1, zA2, zA3, zA4⟩ := id A
  go_wp2_with fail
  refine (F2 _).mono ?_
  rintro e w2 ⟨rfl, hw2⟩
  replace A := (A.alloc _).below hw2 (by have := A.lt; simp <;> omega)
  have X1 : At2 w2 w1.heap.size (.int .i64 (A1)) (.int .i64 (H1)) := At2.after_fresh' hw2
  replace hb : Below w.heap.size w w2 := Below.call (show Below w.heap.size w _ by have := hb.size; go_grown) (by have := hb.size; simp <;> omega) hw2
  clear hw2 zA0 zA1 zA2 zA3 zA4
  have hs := hb.size
  obtain ⟨zA0, zA1, zA2, zA3, zA4⟩ := id A
  obtain ⟨zX10, zX11, zX12, zX13, zX14⟩ := id X1
  go_wp2_with fail
  refine (F3 _).mono ?_
  rintro e w3 ⟨rfl, hw3⟩
  replace A := (A.alloc _).below hw3 (by have := A.lt; simp <;> omega)
  replace X1 := (X1.alloc _).below hw3 (by have := X1.lt; simp <;> omega)
  have X2 : At2 w3 w2.heap.size (.int .i64 (A2)) (.int .i64 (H2)) := At2.after_fresh' hw3
  replace hb : Below w.heap.size w w3 := Below.call (show Below w.heap.size w _ by have := hb.size; go_grown) (by have := hb.size; simp <;> omega) hw3
  clear hw3 zA0 zA1 zA2 zA3 zA4 zX10 zX11 zX12 zX13 zX14
  have hs := hb.size
  obtain ⟨zA0, zA1, zA2, zA3, zA4⟩ := id A
  obtain ⟨zX10, zX11, zX12, zX13, zX14⟩ := id X1
  obtain ⟨zX20, zX21, zX22, zX23, zX24⟩ := id X2
  go_wp2_with fail
  refine (WT _).mono ?_
  rintro e w4 ⟨rfl, hw4⟩
  replace A := (A.alloc _).below hw4 (by have := A.lt; simp <;> omega)
  replace X1 := (X1.alloc _).below hw4 (by have := X1.lt; simp <;> omega)
  replace X2 := (X2.alloc _).below hw4 (by have := X2.lt; simp <;> omega)
  have X3 : At2 w4 w3.heap.size (.int .i64 (A3)) (.int .i64 (H3)) := At2.after_fresh' hw4
  replace hb : Below w.heap.size w w4 := Below.call (show Below w.heap.size w _ by have := hb.size; go_grown) (by have := hb.size; simp <;> omega) hw4
  clear hw4 zA0 zA1 zA2 zA3 zA4 zX10 zX11 zX12 zX13 zX14 zX20 zX21 zX22 zX23 zX24
  have hs := hb.size
  obtain ⟨zA0, zA1, zA2, zA3, zA4⟩ := id A
  obtain ⟨zX10, zX11, zX12, zX13, zX14⟩ := id X1
  obtain ⟨zX20, zX21, zX22, zX23, zX24⟩ := id X2
  obtain ⟨zX30, zX31, zX32, zX33, zX34⟩ := id X3
  go_upto_region 9 with fail
  refine wp_forget (fun W => At2 W w.heap.size (.int .i64 a) (.int .i64 h) ∧ Below w.heap.size w W) ⟨A, by have := hb.size; go_grown⟩ ?_
  clear A hb zA0 zA1 zA2 zA3 zA4 hs
  rintro w5 ⟨A, hb⟩
  have hs := hb.size
  obtain ⟨zA0, zA1, zA2, zA3, zA4⟩ := id A
  clear F1 F2 F3 WT zX10 zX11 zX12 zX13 zX14 zX20 zX21 zX22 zX23 zX24 zX30 zX31 zX32 zX33 zX34 X1 X2 X3
  go_cut [20, 21] (fun v20 v21 wc => ∃ b20 : Nat, v20 = .pointer (some ⟨b20, 0, none⟩) ∧ v21 = .int .u64 0 ∧ At2 wc b20 (.int .u64 (hiw (r * n + h))) (.int .u64 (low (r * n + h))) ∧ Below w.heap.size w wc)
  case first =>
    go_wp2_with fail
    have LD : ∀ w', Below w5.heap.size w5 w' → w'.cell? ⟨w.heap.size, 1, none⟩ = some (.int .i64 h) := fun w' hw' => (hw'.cell (p := ⟨w.heap.size, 1, none⟩) zA4).trans zA1
    clear A zA0 zA1 zA2 zA3 K
    have wr : IntKind.u64.wrap r = r := by rw [IntKind.wrap_u64]; omega
    have wn : IntKind.u64.wrap n = n := by rw [IntKind.wrap_u64]; omega
    have wh : IntKind.u64.wrap h = h := by rw [IntKind.wrap_u64]; omega
    go_region_held3 (fun w' => Below w5.heap.size w5 w')
      (first | with_reducible exact k_new (by assumption) | with_reducible exact k_old (by assumption) | with_reducible exact Below.refl _ _ | go_grown)
      (first
        | (go_at_call 20; refine (mul_any r n (by omega) (by omega) (by omega) (by omega) _).mono ?_; rintro e w7 ⟨rfl, hw7⟩; have g2 : Below w5.heap.size w5 w7 := Below.call (by go_grown) (by simp) hw7; have l2 := g2.size; try (have P := At2.after_fresh hw7; obtain ⟨p0', p1', p2', p3', p4'⟩ := id P))
        | (go_at_call 19; refine (addw_any (r * n) h p0 (by omega) (by omega) (by omega) _).mono ?_; rintro e w8 ⟨rfl, hw8⟩; have g3 : Below w5.heap.size w5 w8 := Below.call (by go_grown) (by have := g2.size; simp <;> omega) hw8; first | (have P2 := P.below hw8 P.lt; obtain ⟨s0', s1', s2', s3', s4'⟩ := id P2) | (have P2 := At2.after_fresh' hw8; obtain ⟨s0', s1', s2', s3', s4'⟩ := id P2) | skip))
    all_goals
      go_wp2_with fail
      go_meet
      case rel =>
        have hbw3 : Below w.heap.size w w8 := hb.trans (g3.mono hb.size)
        have l3 := hbw3.size
        first
          | exact ⟨w8.heap.size, rfl, rfl, At2.fresh _ _ _ _, by go_grown⟩
          | exact ⟨_, rfl, rfl, P2.put _ _, by go_grown⟩
  case rest =>
    obtain ⟨b20, rfl, rfl, P, hbc⟩ := hcut
    have hne : Nonempty (Later wc) := Later.ne wc
    obtain ⟨q0, q1, q2, q3, q4⟩ := id P
    have hs' := hbc.size
    have M1 := fun w => mul_any s 1000000 (by omega) (by omega) (by omega) (by omega) w
    have C1 := fun w => cmp_any (r * n + h) (s * 1000000) ⟨by omega, by omega⟩ ⟨by omega, by omega⟩ w
    go_wp2_with fail
    refine wp_region_later (by kernel_rfl) (by kernel_rfl) ?_
    repeat (go_big_quiet_step (first | (go_at_call 14; exact Later.call _ (credited_any _)) | (go_at_call 20; exact Later.call _ (M1 _)) | (go_at_call 21; exact Later.call _ (C1 _))))
    refine wpQuiet_nil ?_
    rintro w9 ⟨⟨_, hw9⟩, rfl⟩
    go_wp2
    go_ret
    exact ⟨rfl, Below.call hbc hbc.size hw9⟩
set_option maxHeartbeats 4000000 in
set_option maxRecDepth 100000 in
theorem walk_splits_b0 (b a h r m t s A1 H1 A2 H2 E2 A3 H3 E3 n : Int) (b_0 : -9223372036854775808 ≤ b) (b_1 : b ≤ 9223372036854775807) (a_0 : -9223372036854775808 ≤ a) (a_1 : a ≤ 9223372036854775807) (h_0 : -9223372036854775808 ≤ h) (h_1 : h ≤ 9223372036854775807) (r_0 : -9223372036854775808 ≤ r) (r_1 : r ≤ 9223372036854775807) (m_0 : -9223372036854775808 ≤ m) (m_1 : m ≤ 9223372036854775807) (t_0 : -9223372036854775808 ≤ t) (t_1 : t ≤ 9223372036854775807) (s_0 : -9223372036854775808 ≤ s) (s_1 : s ≤ 9223372036854775807) (H1_0 : -9223372036854775808 ≤ H1) (H1_1 : H1 ≤ 9223372036854775807)  (F1 : ∀ w, Calls Try.prog 10 #[.int .i64 b, .agg #[.int .i64 a, .int .i64 h], .int .i64 r, .int .i64 m] w fun e w' => e = .returned (.tuple #[.agg #[.int .i64 A1, .int .i64 H1], .int .i64 0]) ∧ Below w.heap.size w w')
    (F2 : ∀ w, Calls Try.prog 10 #[.int .i64 b, .agg #[.int .i64 A1, .int .i64 H1], .int .i64 r, .int .i64 t] w fun e w' => e = .returned (.tuple #[.agg #[.int .i64 A2, .int .i64 H2], .int .i64 E2]) ∧ Below w.heap.size w w')
    (F3 : ∀ w, Calls Try.prog 10 #[.int .i64 b, .agg #[.int .i64 a, .int .i64 h], .int .i64 r, .int .i64 t] w fun e w' => e = .returned (.tuple #[.agg #[.int .i64 A3, .int .i64 H3], .int .i64 E3]) ∧ Below w.heap.size w w')
    (n0 : 0 ≤ n) (n1 : n ≤ 4611686018427387904)
    (WT : ∀ w, Calls Try.prog 17 #[.agg #[.int .i64 a, .int .i64 h], .int .i64 r, .int .i64 s] w fun e w' => e = .returned (.int .i64 n) ∧ Below w.heap.size w w') (k : (E2 == 0) = false) (c : s ≤ 0) (w : World) :
    Calls Try.prog 7 #[.int .i64 b, .agg #[.int .i64 a, .int .i64 h], .int .i64 r, .int .i64 m, .int .i64 t, .int .i64 s] w fun e w' => e = .returned (.bool true) ∧ Below w.heap.size w w' := by
  go_enter Try.func7, Try.ntmps7
  go_wp2_with fail
  refine (F1 _).mono ?_
  rintro e w1 ⟨rfl, hw1⟩
  have A : At2 w1 w.heap.size (.int .i64 (a)) (.int .i64 (h)) := At2.below (by constructor <;> simp [go_sem]) hw1 (by simp <;> omega)
  have hb : Below w.heap.size w w1 := Below.call (by go_grown) (by simp <;> omega) hw1
  clear hw1
  have hs := hb.size
  obtain ⟨zA0, zA1, zA2, zA3, zA4⟩ := id A
  go_wp2_with fail
  refine (F2 _).mono ?_
  rintro e w2 ⟨rfl, hw2⟩
  replace A := (A.alloc _).below hw2 (by have := A.lt; simp <;> omega)
  have X1 : At2 w2 w1.heap.size (.int .i64 (A1)) (.int .i64 (H1)) := At2.after_fresh' hw2
  replace hb : Below w.heap.size w w2 := Below.call (show Below w.heap.size w _ by have := hb.size; go_grown) (by have := hb.size; simp <;> omega) hw2
  clear hw2 zA0 zA1 zA2 zA3 zA4
  have hs := hb.size
  obtain ⟨zA0, zA1, zA2, zA3, zA4⟩ := id A
  obtain ⟨zX10, zX11, zX12, zX13, zX14⟩ := id X1
  go_wp2_with fail
  refine (F3 _).mono ?_
  rintro e w3 ⟨rfl, hw3⟩
  replace A := (A.alloc _).below hw3 (by have := A.lt; simp <;> omega)
  replace X1 := (X1.alloc _).below hw3 (by have := X1.lt; simp <;> omega)
  have X2 : At2 w3 w2.heap.size (.int .i64 (A2)) (.int .i64 (H2)) := At2.after_fresh' hw3
  replace hb : Below w.heap.size w w3 := Below.call (show Below w.heap.size w _ by have := hb.size; go_grown) (by have := hb.size; simp <;> omega) hw3
  clear hw3 zA0 zA1 zA2 zA3 zA4 zX10 zX11 zX12 zX13 zX14
  have hs := hb.size
  obtain ⟨zA0, zA1, zA2, zA3, zA4⟩ := id A
  obtain ⟨zX10, zX11, zX12, zX13, zX14⟩ := id X1
  obtain ⟨zX20, zX21, zX22, zX23, zX24⟩ := id X2
  go_wp2_with fail
  refine (WT _).mono ?_
  rintro e w4 ⟨rfl, hw4⟩
  replace A := (A.alloc _).below hw4 (by have := A.lt; simp <;> omega)
  replace X1 := (X1.alloc _).below hw4 (by have := X1.lt; simp <;> omega)
  replace X2 := (X2.alloc _).below hw4 (by have := X2.lt; simp <;> omega)
  have X3 : At2 w4 w3.heap.size (.int .i64 (A3)) (.int .i64 (H3)) := At2.after_fresh' hw4
  replace hb : Below w.heap.size w w4 := Below.call (show Below w.heap.size w _ by have := hb.size; go_grown) (by have := hb.size; simp <;> omega) hw4
  clear hw4 zA0 zA1 zA2 zA3 zA4 zX10 zX11 zX12 zX13 zX14 zX20 zX21 zX22 zX23 zX24
  have hs := hb.size
  obtain ⟨zA0, zA1, zA2, zA3, zA4⟩ := id A
  obtain ⟨zX10, zX11, zX12, zX13, zX14⟩ := id X1
  obtain ⟨zX20, zX21, zX22, zX23, zX24⟩ := id X2
  obtain ⟨zX30, zX31, zX32, zX33, zX34⟩ := id X3
  go_wp2_with fail
  refine (credited_any _).mono ?_
  rintro e w5 ⟨rfl, hw5⟩
  replace A := (A).below hw5 (by have := A.lt; simp <;> omega)
  replace X1 := (X1).below hw5 (by have := X1.lt; simp <;> omega)
  replace X2 := (X2).below hw5 (by have := X2.lt; simp <;> omega)
  replace X3 := (X3).below hw5 (by have := X3.lt; simp <;> omega)
  replace hb : Below w.heap.size w w5 := Below.call (show Below w.heap.size w _ by have := hb.size; go_grown) (by have := hb.size; simp <;> omega) hw5
  clear hw5 zA0 zA1 zA2 zA3 zA4 zX10 zX11 zX12 zX13 zX14 zX20 zX21 zX22 zX23 zX24 zX30 zX31 zX32 zX33 zX34
  have hs := hb.size
  obtain ⟨zA0, zA1, zA2, zA3, zA4⟩ := id A
  obtain ⟨zX10, zX11, zX12, zX13, zX14⟩ := id X1
  obtain ⟨zX20, zX21, zX22, zX23, zX24⟩ := id X2
  obtain ⟨zX30, zX31, zX32, zX33, zX34⟩ := id X3
  go_wp2
  go_ret
  exact ⟨rfl, by go_grown⟩
set_option maxHeartbeats 4000000 in
set_option maxRecDepth 100000 in
theorem walk_splits_b1 (b a h r m t s A1 H1 A2 H2 E2 A3 H3 E3 n : Int) (b_0 : -9223372036854775808 ≤ b) (b_1 : b ≤ 9223372036854775807) (a_0 : -9223372036854775808 ≤ a) (a_1 : a ≤ 9223372036854775807) (h_0 : -9223372036854775808 ≤ h) (h_1 : h ≤ 9223372036854775807) (r_0 : -9223372036854775808 ≤ r) (r_1 : r ≤ 9223372036854775807) (m_0 : -9223372036854775808 ≤ m) (m_1 : m ≤ 9223372036854775807) (t_0 : -9223372036854775808 ≤ t) (t_1 : t ≤ 9223372036854775807) (s_0 : -9223372036854775808 ≤ s) (s_1 : s ≤ 9223372036854775807) (H1_0 : -9223372036854775808 ≤ H1) (H1_1 : H1 ≤ 9223372036854775807)  (F1 : ∀ w, Calls Try.prog 10 #[.int .i64 b, .agg #[.int .i64 a, .int .i64 h], .int .i64 r, .int .i64 m] w fun e w' => e = .returned (.tuple #[.agg #[.int .i64 A1, .int .i64 H1], .int .i64 0]) ∧ Below w.heap.size w w')
    (F2 : ∀ w, Calls Try.prog 10 #[.int .i64 b, .agg #[.int .i64 A1, .int .i64 H1], .int .i64 r, .int .i64 t] w fun e w' => e = .returned (.tuple #[.agg #[.int .i64 A2, .int .i64 H2], .int .i64 E2]) ∧ Below w.heap.size w w')
    (F3 : ∀ w, Calls Try.prog 10 #[.int .i64 b, .agg #[.int .i64 a, .int .i64 h], .int .i64 r, .int .i64 t] w fun e w' => e = .returned (.tuple #[.agg #[.int .i64 A3, .int .i64 H3], .int .i64 E3]) ∧ Below w.heap.size w w')
    (n0 : 0 ≤ n) (n1 : n ≤ 4611686018427387904)
    (WT : ∀ w, Calls Try.prog 17 #[.agg #[.int .i64 a, .int .i64 h], .int .i64 r, .int .i64 s] w fun e w' => e = .returned (.int .i64 n) ∧ Below w.heap.size w w') (k : (E2 == 0) = false) (e1 : 0 < s) (c : r ≤ 0) (w : World) :
    Calls Try.prog 7 #[.int .i64 b, .agg #[.int .i64 a, .int .i64 h], .int .i64 r, .int .i64 m, .int .i64 t, .int .i64 s] w fun e w' => e = .returned (.bool true) ∧ Below w.heap.size w w' := by
  have d0 : decide (s ≤ 0) = false := decide_eq_false (by omega)
  go_enter Try.func7, Try.ntmps7
  go_wp2_with fail
  refine (F1 _).mono ?_
  rintro e w1 ⟨rfl, hw1⟩
  have A : At2 w1 w.heap.size (.int .i64 (a)) (.int .i64 (h)) := At2.below (by constructor <;> simp [go_sem]) hw1 (by simp <;> omega)
  have hb : Below w.heap.size w w1 := Below.call (by go_grown) (by simp <;> omega) hw1
  clear hw1
  have hs := hb.size
  obtain ⟨zA0, zA1, zA2, zA3, zA4⟩ := id A
  go_wp2_with fail
  refine (F2 _).mono ?_
  rintro e w2 ⟨rfl, hw2⟩
  replace A := (A.alloc _).below hw2 (by have := A.lt; simp <;> omega)
  have X1 : At2 w2 w1.heap.size (.int .i64 (A1)) (.int .i64 (H1)) := At2.after_fresh' hw2
  replace hb : Below w.heap.size w w2 := Below.call (show Below w.heap.size w _ by have := hb.size; go_grown) (by have := hb.size; simp <;> omega) hw2
  clear hw2 zA0 zA1 zA2 zA3 zA4
  have hs := hb.size
  obtain ⟨zA0, zA1, zA2, zA3, zA4⟩ := id A
  obtain ⟨zX10, zX11, zX12, zX13, zX14⟩ := id X1
  go_wp2_with fail
  refine (F3 _).mono ?_
  rintro e w3 ⟨rfl, hw3⟩
  replace A := (A.alloc _).below hw3 (by have := A.lt; simp <;> omega)
  replace X1 := (X1.alloc _).below hw3 (by have := X1.lt; simp <;> omega)
  have X2 : At2 w3 w2.heap.size (.int .i64 (A2)) (.int .i64 (H2)) := At2.after_fresh' hw3
  replace hb : Below w.heap.size w w3 := Below.call (show Below w.heap.size w _ by have := hb.size; go_grown) (by have := hb.size; simp <;> omega) hw3
  clear hw3 zA0 zA1 zA2 zA3 zA4 zX10 zX11 zX12 zX13 zX14
  have hs := hb.size
  obtain ⟨zA0, zA1, zA2, zA3, zA4⟩ := id A
  obtain ⟨zX10, zX11, zX12, zX13, zX14⟩ := id X1
  obtain ⟨zX20, zX21, zX22, zX23, zX24⟩ := id X2
  go_wp2_with fail
  refine (WT _).mono ?_
  rintro e w4 ⟨rfl, hw4⟩
  replace A := (A.alloc _).below hw4 (by have := A.lt; simp <;> omega)
  replace X1 := (X1.alloc _).below hw4 (by have := X1.lt; simp <;> omega)
  replace X2 := (X2.alloc _).below hw4 (by have := X2.lt; simp <;> omega)
  have X3 : At2 w4 w3.heap.size (.int .i64 (A3)) (.int .i64 (H3)) := At2.after_fresh' hw4
  replace hb : Below w.heap.size w w4 := Below.call (show Below w.heap.size w _ by have := hb.size; go_grown) (by have := hb.size; simp <;> omega) hw4
  clear hw4 zA0 zA1 zA2 zA3 zA4 zX10 zX11 zX12 zX13 zX14 zX20 zX21 zX22 zX23 zX24
  have hs := hb.size
  obtain ⟨zA0, zA1, zA2, zA3, zA4⟩ := id A
  obtain ⟨zX10, zX11, zX12, zX13, zX14⟩ := id X1
  obtain ⟨zX20, zX21, zX22, zX23, zX24⟩ := id X2
  obtain ⟨zX30, zX31, zX32, zX33, zX34⟩ := id X3
  go_wp2_with fail
  refine (credited_any _).mono ?_
  rintro e w5 ⟨rfl, hw5⟩
  replace A := (A).below hw5 (by have := A.lt; simp <;> omega)
  replace X1 := (X1).below hw5 (by have := X1.lt; simp <;> omega)
  replace X2 := (X2).below hw5 (by have := X2.lt; simp <;> omega)
  replace X3 := (X3).below hw5 (by have := X3.lt; simp <;> omega)
  replace hb : Below w.heap.size w w5 := Below.call (show Below w.heap.size w _ by have := hb.size; go_grown) (by have := hb.size; simp <;> omega) hw5
  clear hw5 zA0 zA1 zA2 zA3 zA4 zX10 zX11 zX12 zX13 zX14 zX20 zX21 zX22 zX23 zX24 zX30 zX31 zX32 zX33 zX34
  have hs := hb.size
  obtain ⟨zA0, zA1, zA2, zA3, zA4⟩ := id A
  obtain ⟨zX10, zX11, zX12, zX13, zX14⟩ := id X1
  obtain ⟨zX20, zX21, zX22, zX23, zX24⟩ := id X2
  obtain ⟨zX30, zX31, zX32, zX33, zX34⟩ := id X3
  go_wp2
  go_ret
  exact ⟨rfl, by go_grown⟩
set_option maxHeartbeats 4000000 in
set_option maxRecDepth 100000 in
theorem walk_splits_b2 (b a h r m t s A1 H1 A2 H2 E2 A3 H3 E3 n : Int) (b_0 : -9223372036854775808 ≤ b) (b_1 : b ≤ 9223372036854775807) (a_0 : -9223372036854775808 ≤ a) (a_1 : a ≤ 9223372036854775807) (h_0 : -9223372036854775808 ≤ h) (h_1 : h ≤ 9223372036854775807) (r_0 : -9223372036854775808 ≤ r) (r_1 : r ≤ 9223372036854775807) (m_0 : -9223372036854775808 ≤ m) (m_1 : m ≤ 9223372036854775807) (t_0 : -9223372036854775808 ≤ t) (t_1 : t ≤ 9223372036854775807) (s_0 : -9223372036854775808 ≤ s) (s_1 : s ≤ 9223372036854775807) (H1_0 : -9223372036854775808 ≤ H1) (H1_1 : H1 ≤ 9223372036854775807)  (F1 : ∀ w, Calls Try.prog 10 #[.int .i64 b, .agg #[.int .i64 a, .int .i64 h], .int .i64 r, .int .i64 m] w fun e w' => e = .returned (.tuple #[.agg #[.int .i64 A1, .int .i64 H1], .int .i64 0]) ∧ Below w.heap.size w w')
    (F2 : ∀ w, Calls Try.prog 10 #[.int .i64 b, .agg #[.int .i64 A1, .int .i64 H1], .int .i64 r, .int .i64 t] w fun e w' => e = .returned (.tuple #[.agg #[.int .i64 A2, .int .i64 H2], .int .i64 E2]) ∧ Below w.heap.size w w')
    (F3 : ∀ w, Calls Try.prog 10 #[.int .i64 b, .agg #[.int .i64 a, .int .i64 h], .int .i64 r, .int .i64 t] w fun e w' => e = .returned (.tuple #[.agg #[.int .i64 A3, .int .i64 H3], .int .i64 E3]) ∧ Below w.heap.size w w')
    (n0 : 0 ≤ n) (n1 : n ≤ 4611686018427387904)
    (WT : ∀ w, Calls Try.prog 17 #[.agg #[.int .i64 a, .int .i64 h], .int .i64 r, .int .i64 s] w fun e w' => e = .returned (.int .i64 n) ∧ Below w.heap.size w w') (k : (E2 == 0) = false) (e1 : 0 < s) (e2 : 0 < r) (c : h < 0) (w : World) :
    Calls Try.prog 7 #[.int .i64 b, .agg #[.int .i64 a, .int .i64 h], .int .i64 r, .int .i64 m, .int .i64 t, .int .i64 s] w fun e w' => e = .returned (.bool true) ∧ Below w.heap.size w w' := by
  have d0 : decide (s ≤ 0) = false := decide_eq_false (by omega)
  have d1 : decide (r ≤ 0) = false := decide_eq_false (by omega)
  go_enter Try.func7, Try.ntmps7
  go_wp2_with fail
  refine (F1 _).mono ?_
  rintro e w1 ⟨rfl, hw1⟩
  have A : At2 w1 w.heap.size (.int .i64 (a)) (.int .i64 (h)) := At2.below (by constructor <;> simp [go_sem]) hw1 (by simp <;> omega)
  have hb : Below w.heap.size w w1 := Below.call (by go_grown) (by simp <;> omega) hw1
  clear hw1
  have hs := hb.size
  obtain ⟨zA0, zA1, zA2, zA3, zA4⟩ := id A
  go_wp2_with fail
  refine (F2 _).mono ?_
  rintro e w2 ⟨rfl, hw2⟩
  replace A := (A.alloc _).below hw2 (by have := A.lt; simp <;> omega)
  have X1 : At2 w2 w1.heap.size (.int .i64 (A1)) (.int .i64 (H1)) := At2.after_fresh' hw2
  replace hb : Below w.heap.size w w2 := Below.call (show Below w.heap.size w _ by have := hb.size; go_grown) (by have := hb.size; simp <;> omega) hw2
  clear hw2 zA0 zA1 zA2 zA3 zA4
  have hs := hb.size
  obtain ⟨zA0, zA1, zA2, zA3, zA4⟩ := id A
  obtain ⟨zX10, zX11, zX12, zX13, zX14⟩ := id X1
  go_wp2_with fail
  refine (F3 _).mono ?_
  rintro e w3 ⟨rfl, hw3⟩
  replace A := (A.alloc _).below hw3 (by have := A.lt; simp <;> omega)
  replace X1 := (X1.alloc _).below hw3 (by have := X1.lt; simp <;> omega)
  have X2 : At2 w3 w2.heap.size (.int .i64 (A2)) (.int .i64 (H2)) := At2.after_fresh' hw3
  replace hb : Below w.heap.size w w3 := Below.call (show Below w.heap.size w _ by have := hb.size; go_grown) (by have := hb.size; simp <;> omega) hw3
  clear hw3 zA0 zA1 zA2 zA3 zA4 zX10 zX11 zX12 zX13 zX14
  have hs := hb.size
  obtain ⟨zA0, zA1, zA2, zA3, zA4⟩ := id A
  obtain ⟨zX10, zX11, zX12, zX13, zX14⟩ := id X1
  obtain ⟨zX20, zX21, zX22, zX23, zX24⟩ := id X2
  go_wp2_with fail
  refine (WT _).mono ?_
  rintro e w4 ⟨rfl, hw4⟩
  replace A := (A.alloc _).below hw4 (by have := A.lt; simp <;> omega)
  replace X1 := (X1.alloc _).below hw4 (by have := X1.lt; simp <;> omega)
  replace X2 := (X2.alloc _).below hw4 (by have := X2.lt; simp <;> omega)
  have X3 : At2 w4 w3.heap.size (.int .i64 (A3)) (.int .i64 (H3)) := At2.after_fresh' hw4
  replace hb : Below w.heap.size w w4 := Below.call (show Below w.heap.size w _ by have := hb.size; go_grown) (by have := hb.size; simp <;> omega) hw4
  clear hw4 zA0 zA1 zA2 zA3 zA4 zX10 zX11 zX12 zX13 zX14 zX20 zX21 zX22 zX23 zX24
  have hs := hb.size
  obtain ⟨zA0, zA1, zA2, zA3, zA4⟩ := id A
  obtain ⟨zX10, zX11, zX12, zX13, zX14⟩ := id X1
  obtain ⟨zX20, zX21, zX22, zX23, zX24⟩ := id X2
  obtain ⟨zX30, zX31, zX32, zX33, zX34⟩ := id X3
  go_wp2_with fail
  refine (credited_any _).mono ?_
  rintro e w5 ⟨rfl, hw5⟩
  replace A := (A).below hw5 (by have := A.lt; simp <;> omega)
  replace X1 := (X1).below hw5 (by have := X1.lt; simp <;> omega)
  replace X2 := (X2).below hw5 (by have := X2.lt; simp <;> omega)
  replace X3 := (X3).below hw5 (by have := X3.lt; simp <;> omega)
  replace hb : Below w.heap.size w w5 := Below.call (show Below w.heap.size w _ by have := hb.size; go_grown) (by have := hb.size; simp <;> omega) hw5
  clear hw5 zA0 zA1 zA2 zA3 zA4 zX10 zX11 zX12 zX13 zX14 zX20 zX21 zX22 zX23 zX24 zX30 zX31 zX32 zX33 zX34
  have hs := hb.size
  obtain ⟨zA0, zA1, zA2, zA3, zA4⟩ := id A
  obtain ⟨zX10, zX11, zX12, zX13, zX14⟩ := id X1
  obtain ⟨zX20, zX21, zX22, zX23, zX24⟩ := id X2
  obtain ⟨zX30, zX31, zX32, zX33, zX34⟩ := id X3
  go_wp2
  go_ret
  exact ⟨rfl, by go_grown⟩
set_option maxHeartbeats 4000000 in
set_option maxRecDepth 100000 in
theorem walk_splits_b3 (b a h r m t s A1 H1 A2 H2 E2 A3 H3 E3 n : Int) (b_0 : -9223372036854775808 ≤ b) (b_1 : b ≤ 9223372036854775807) (a_0 : -9223372036854775808 ≤ a) (a_1 : a ≤ 9223372036854775807) (h_0 : -9223372036854775808 ≤ h) (h_1 : h ≤ 9223372036854775807) (r_0 : -9223372036854775808 ≤ r) (r_1 : r ≤ 9223372036854775807) (m_0 : -9223372036854775808 ≤ m) (m_1 : m ≤ 9223372036854775807) (t_0 : -9223372036854775808 ≤ t) (t_1 : t ≤ 9223372036854775807) (s_0 : -9223372036854775808 ≤ s) (s_1 : s ≤ 9223372036854775807) (H1_0 : -9223372036854775808 ≤ H1) (H1_1 : H1 ≤ 9223372036854775807)  (F1 : ∀ w, Calls Try.prog 10 #[.int .i64 b, .agg #[.int .i64 a, .int .i64 h], .int .i64 r, .int .i64 m] w fun e w' => e = .returned (.tuple #[.agg #[.int .i64 A1, .int .i64 H1], .int .i64 0]) ∧ Below w.heap.size w w')
    (F2 : ∀ w, Calls Try.prog 10 #[.int .i64 b, .agg #[.int .i64 A1, .int .i64 H1], .int .i64 r, .int .i64 t] w fun e w' => e = .returned (.tuple #[.agg #[.int .i64 A2, .int .i64 H2], .int .i64 E2]) ∧ Below w.heap.size w w')
    (F3 : ∀ w, Calls Try.prog 10 #[.int .i64 b, .agg #[.int .i64 a, .int .i64 h], .int .i64 r, .int .i64 t] w fun e w' => e = .returned (.tuple #[.agg #[.int .i64 A3, .int .i64 H3], .int .i64 E3]) ∧ Below w.heap.size w w')
    (n0 : 0 ≤ n) (n1 : n ≤ 4611686018427387904)
    (WT : ∀ w, Calls Try.prog 17 #[.agg #[.int .i64 a, .int .i64 h], .int .i64 r, .int .i64 s] w fun e w' => e = .returned (.int .i64 n) ∧ Below w.heap.size w w') (k : (E2 == 0) = false) (e1 : 0 < s) (e2 : 0 < r) (e3 : 0 ≤ h) (c : (n == 4611686018427387904) = true) (w : World) :
    Calls Try.prog 7 #[.int .i64 b, .agg #[.int .i64 a, .int .i64 h], .int .i64 r, .int .i64 m, .int .i64 t, .int .i64 s] w fun e w' => e = .returned (.bool true) ∧ Below w.heap.size w w' := by
  have d0 : decide (s ≤ 0) = false := decide_eq_false (by omega)
  have d1 : decide (r ≤ 0) = false := decide_eq_false (by omega)
  have d2 : decide (h < 0) = false := decide_eq_false (by omega)
  go_enter Try.func7, Try.ntmps7
  go_wp2_with fail
  refine (F1 _).mono ?_
  rintro e w1 ⟨rfl, hw1⟩
  have A : At2 w1 w.heap.size (.int .i64 (a)) (.int .i64 (h)) := At2.below (by constructor <;> simp [go_sem]) hw1 (by simp <;> omega)
  have hb : Below w.heap.size w w1 := Below.call (by go_grown) (by simp <;> omega) hw1
  clear hw1
  have hs := hb.size
  obtain ⟨zA0, zA1, zA2, zA3, zA4⟩ := id A
  go_wp2_with fail
  refine (F2 _).mono ?_
  rintro e w2 ⟨rfl, hw2⟩
  replace A := (A.alloc _).below hw2 (by have := A.lt; simp <;> omega)
  have X1 : At2 w2 w1.heap.size (.int .i64 (A1)) (.int .i64 (H1)) := At2.after_fresh' hw2
  replace hb : Below w.heap.size w w2 := Below.call (show Below w.heap.size w _ by have := hb.size; go_grown) (by have := hb.size; simp <;> omega) hw2
  clear hw2 zA0 zA1 zA2 zA3 zA4
  have hs := hb.size
  obtain ⟨zA0, zA1, zA2, zA3, zA4⟩ := id A
  obtain ⟨zX10, zX11, zX12, zX13, zX14⟩ := id X1
  go_wp2_with fail
  refine (F3 _).mono ?_
  rintro e w3 ⟨rfl, hw3⟩
  replace A := (A.alloc _).below hw3 (by have := A.lt; simp <;> omega)
  replace X1 := (X1.alloc _).below hw3 (by have := X1.lt; simp <;> omega)
  have X2 : At2 w3 w2.heap.size (.int .i64 (A2)) (.int .i64 (H2)) := At2.after_fresh' hw3
  replace hb : Below w.heap.size w w3 := Below.call (show Below w.heap.size w _ by have := hb.size; go_grown) (by have := hb.size; simp <;> omega) hw3
  clear hw3 zA0 zA1 zA2 zA3 zA4 zX10 zX11 zX12 zX13 zX14
  have hs := hb.size
  obtain ⟨zA0, zA1, zA2, zA3, zA4⟩ := id A
  obtain ⟨zX10, zX11, zX12, zX13, zX14⟩ := id X1
  obtain ⟨zX20, zX21, zX22, zX23, zX24⟩ := id X2
  go_wp2_with fail
  refine (WT _).mono ?_
  rintro e w4 ⟨rfl, hw4⟩
  replace A := (A.alloc _).below hw4 (by have := A.lt; simp <;> omega)
  replace X1 := (X1.alloc _).below hw4 (by have := X1.lt; simp <;> omega)
  replace X2 := (X2.alloc _).below hw4 (by have := X2.lt; simp <;> omega)
  have X3 : At2 w4 w3.heap.size (.int .i64 (A3)) (.int .i64 (H3)) := At2.after_fresh' hw4
  replace hb : Below w.heap.size w w4 := Below.call (show Below w.heap.size w _ by have := hb.size; go_grown) (by have := hb.size; simp <;> omega) hw4
  clear hw4 zA0 zA1 zA2 zA3 zA4 zX10 zX11 zX12 zX13 zX14 zX20 zX21 zX22 zX23 zX24
  have hs := hb.size
  obtain ⟨zA0, zA1, zA2, zA3, zA4⟩ := id A
  obtain ⟨zX10, zX11, zX12, zX13, zX14⟩ := id X1
  obtain ⟨zX20, zX21, zX22, zX23, zX24⟩ := id X2
  obtain ⟨zX30, zX31, zX32, zX33, zX34⟩ := id X3
  go_wp2_with fail
  refine (credited_any _).mono ?_
  rintro e w5 ⟨rfl, hw5⟩
  replace A := (A).below hw5 (by have := A.lt; simp <;> omega)
  replace X1 := (X1).below hw5 (by have := X1.lt; simp <;> omega)
  replace X2 := (X2).below hw5 (by have := X2.lt; simp <;> omega)
  replace X3 := (X3).below hw5 (by have := X3.lt; simp <;> omega)
  replace hb : Below w.heap.size w w5 := Below.call (show Below w.heap.size w _ by have := hb.size; go_grown) (by have := hb.size; simp <;> omega) hw5
  clear hw5 zA0 zA1 zA2 zA3 zA4 zX10 zX11 zX12 zX13 zX14 zX20 zX21 zX22 zX23 zX24 zX30 zX31 zX32 zX33 zX34
  have hs := hb.size
  obtain ⟨zA0, zA1, zA2, zA3, zA4⟩ := id A
  obtain ⟨zX10, zX11, zX12, zX13, zX14⟩ := id X1
  obtain ⟨zX20, zX21, zX22, zX23, zX24⟩ := id X2
  obtain ⟨zX30, zX31, zX32, zX33, zX34⟩ := id X3
  go_wp2
  go_ret
  exact ⟨rfl, by go_grown⟩
set_option maxHeartbeats 4000000 in
set_option maxRecDepth 100000 in
theorem walk_splits_b4 (b a h r m t s A1 H1 A2 H2 E2 A3 H3 E3 n : Int) (b_0 : -9223372036854775808 ≤ b) (b_1 : b ≤ 9223372036854775807) (a_0 : -9223372036854775808 ≤ a) (a_1 : a ≤ 9223372036854775807) (h_0 : -9223372036854775808 ≤ h) (h_1 : h ≤ 9223372036854775807) (r_0 : -9223372036854775808 ≤ r) (r_1 : r ≤ 9223372036854775807) (m_0 : -9223372036854775808 ≤ m) (m_1 : m ≤ 9223372036854775807) (t_0 : -9223372036854775808 ≤ t) (t_1 : t ≤ 9223372036854775807) (s_0 : -9223372036854775808 ≤ s) (s_1 : s ≤ 9223372036854775807) (H1_0 : -9223372036854775808 ≤ H1) (H1_1 : H1 ≤ 9223372036854775807)  (F1 : ∀ w, Calls Try.prog 10 #[.int .i64 b, .agg #[.int .i64 a, .int .i64 h], .int .i64 r, .int .i64 m] w fun e w' => e = .returned (.tuple #[.agg #[.int .i64 A1, .int .i64 H1], .int .i64 0]) ∧ Below w.heap.size w w')
    (F2 : ∀ w, Calls Try.prog 10 #[.int .i64 b, .agg #[.int .i64 A1, .int .i64 H1], .int .i64 r, .int .i64 t] w fun e w' => e = .returned (.tuple #[.agg #[.int .i64 A2, .int .i64 H2], .int .i64 E2]) ∧ Below w.heap.size w w')
    (F3 : ∀ w, Calls Try.prog 10 #[.int .i64 b, .agg #[.int .i64 a, .int .i64 h], .int .i64 r, .int .i64 t] w fun e w' => e = .returned (.tuple #[.agg #[.int .i64 A3, .int .i64 H3], .int .i64 E3]) ∧ Below w.heap.size w w')
    (n0 : 0 ≤ n) (n1 : n ≤ 4611686018427387904)
    (WT : ∀ w, Calls Try.prog 17 #[.agg #[.int .i64 a, .int .i64 h], .int .i64 r, .int .i64 s] w fun e w' => e = .returned (.int .i64 n) ∧ Below w.heap.size w w') (k : (E2 == 0) = false) (e1 : 0 < s) (e2 : 0 < r) (e3 : 0 ≤ h) (c : (n == 4611686018427387904) = false) (g : s * 1000000 ≤ r * n + h) (w : World) :
    Calls Try.prog 7 #[.int .i64 b, .agg #[.int .i64 a, .int .i64 h], .int .i64 r, .int .i64 m, .int .i64 t, .int .i64 s] w fun e w' => e = .returned (.bool true) ∧ Below w.heap.size w w' := by
  have d0 : decide (s ≤ 0) = false := decide_eq_false (by omega)
  have d1 : decide (r ≤ 0) = false := decide_eq_false (by omega)
  have d2 : decide (h < 0) = false := decide_eq_false (by omega)
  have p0 := Int.mul_nonneg (show 0 ≤ r by omega) n0
  have p1 := Int.mul_le_mul (show r ≤ 9223372036854775807 by omega) n1 n0 (by omega)
  have K : 0 ≤ cmpv (r * n + h) (s * 1000000) := by unfold cmpv; (repeat split) <;> omega
  go_enter Try.func7, Try.ntmps7
  go_wp2_with fail
  refine (F1 _).mono ?_
  rintro e w1 ⟨rfl, hw1⟩
  have A : At2 w1 w.heap.size (.int .i64 (a)) (.int .i64 (h)) := At2.below (by constructor <;> simp [go_sem]) hw1 (by simp <;> omega)
  have hb : Below w.heap.size w w1 := Below.call (by go_grown) (by simp <;> omega) hw1
  clear hw1
  have hs := hb.size
  obtain ⟨zA0, zA1, zA2, zA3, zA4⟩ := id A
  go_wp2_with fail
  refine (F2 _).mono ?_
  rintro e w2 ⟨rfl, hw2⟩
  replace A := (A.alloc _).below hw2 (by have := A.lt; simp <;> omega)
  have X1 : At2 w2 w1.heap.size (.int .i64 (A1)) (.int .i64 (H1)) := At2.after_fresh' hw2
  replace hb : Below w.heap.size w w2 := Below.call (show Below w.heap.size w _ by have := hb.size; go_grown) (by have := hb.size; simp <;> omega) hw2
  clear hw2 zA0 zA1 zA2 zA3 zA4
  have hs := hb.size
  obtain ⟨zA0, zA1, zA2, zA3, zA4⟩ := id A
  obtain ⟨zX10, zX11, zX12, zX13, zX14⟩ := id X1
  go_wp2_with fail
  refine (F3 _).mono ?_
  rintro e w3 ⟨rfl, hw3⟩
  replace A := (A.alloc _).below hw3 (by have := A.lt; simp <;> omega)
  replace X1 := (X1.alloc _).below hw3 (by have := X1.lt; simp <;> omega)
  have X2 : At2 w3 w2.heap.size (.int .i64 (A2)) (.int .i64 (H2)) := At2.after_fresh' hw3
  replace hb : Below w.heap.size w w3 := Below.call (show Below w.heap.size w _ by have := hb.size; go_grown) (by have := hb.size; simp <;> omega) hw3
  clear hw3 zA0 zA1 zA2 zA3 zA4 zX10 zX11 zX12 zX13 zX14
  have hs := hb.size
  obtain ⟨zA0, zA1, zA2, zA3, zA4⟩ := id A
  obtain ⟨zX10, zX11, zX12, zX13, zX14⟩ := id X1
  obtain ⟨zX20, zX21, zX22, zX23, zX24⟩ := id X2
  go_wp2_with fail
  refine (WT _).mono ?_
  rintro e w4 ⟨rfl, hw4⟩
  replace A := (A.alloc _).below hw4 (by have := A.lt; simp <;> omega)
  replace X1 := (X1.alloc _).below hw4 (by have := X1.lt; simp <;> omega)
  replace X2 := (X2.alloc _).below hw4 (by have := X2.lt; simp <;> omega)
  have X3 : At2 w4 w3.heap.size (.int .i64 (A3)) (.int .i64 (H3)) := At2.after_fresh' hw4
  replace hb : Below w.heap.size w w4 := Below.call (show Below w.heap.size w _ by have := hb.size; go_grown) (by have := hb.size; simp <;> omega) hw4
  clear hw4 zA0 zA1 zA2 zA3 zA4 zX10 zX11 zX12 zX13 zX14 zX20 zX21 zX22 zX23 zX24
  have hs := hb.size
  obtain ⟨zA0, zA1, zA2, zA3, zA4⟩ := id A
  obtain ⟨zX10, zX11, zX12, zX13, zX14⟩ := id X1
  obtain ⟨zX20, zX21, zX22, zX23, zX24⟩ := id X2
  obtain ⟨zX30, zX31, zX32, zX33, zX34⟩ := id X3
  go_upto_region 9 with fail
  refine wp_forget (fun W => At2 W w.heap.size (.int .i64 a) (.int .i64 h) ∧ Below w.heap.size w W) ⟨A, by have := hb.size; go_grown⟩ ?_
  clear A hb zA0 zA1 zA2 zA3 zA4 hs
  rintro w5 ⟨A, hb⟩
  have hs := hb.size
  obtain ⟨zA0, zA1, zA2, zA3, zA4⟩ := id A
  clear F1 F2 F3 WT zX10 zX11 zX12 zX13 zX14 zX20 zX21 zX22 zX23 zX24 zX30 zX31 zX32 zX33 zX34 X1 X2 X3
  go_cut [20, 21] (fun v20 v21 wc => ∃ b20 : Nat, v20 = .pointer (some ⟨b20, 0, none⟩) ∧ v21 = .int .u64 0 ∧ At2 wc b20 (.int .u64 (hiw (r * n + h))) (.int .u64 (low (r * n + h))) ∧ Below w.heap.size w wc)
  case first =>
    go_wp2_with fail
    have LD : ∀ w', Below w5.heap.size w5 w' → w'.cell? ⟨w.heap.size, 1, none⟩ = some (.int .i64 h) := fun w' hw' => (hw'.cell (p := ⟨w.heap.size, 1, none⟩) zA4).trans zA1
    clear A zA0 zA1 zA2 zA3 K
    have wr : IntKind.u64.wrap r = r := by rw [IntKind.wrap_u64]; omega
    have wn : IntKind.u64.wrap n = n := by rw [IntKind.wrap_u64]; omega
    have wh : IntKind.u64.wrap h = h := by rw [IntKind.wrap_u64]; omega
    go_region_held3 (fun w' => Below w5.heap.size w5 w')
      (first | with_reducible exact k_new (by assumption) | with_reducible exact k_old (by assumption) | with_reducible exact Below.refl _ _ | go_grown)
      (first
        | (go_at_call 20; refine (mul_any r n (by omega) (by omega) (by omega) (by omega) _).mono ?_; rintro e w7 ⟨rfl, hw7⟩; have g2 : Below w5.heap.size w5 w7 := Below.call (by go_grown) (by simp) hw7; have l2 := g2.size; try (have P := At2.after_fresh hw7; obtain ⟨p0', p1', p2', p3', p4'⟩ := id P))
        | (go_at_call 19; refine (addw_any (r * n) h p0 (by omega) (by omega) (by omega) _).mono ?_; rintro e w8 ⟨rfl, hw8⟩; have g3 : Below w5.heap.size w5 w8 := Below.call (by go_grown) (by have := g2.size; simp <;> omega) hw8; first | (have P2 := P.below hw8 P.lt; obtain ⟨s0', s1', s2', s3', s4'⟩ := id P2) | (have P2 := At2.after_fresh' hw8; obtain ⟨s0', s1', s2', s3', s4'⟩ := id P2) | skip))
    all_goals
      go_wp2_with fail
      go_meet
      case rel =>
        have hbw3 : Below w.heap.size w w8 := hb.trans (g3.mono hb.size)
        have l3 := hbw3.size
        first
          | exact ⟨w8.heap.size, rfl, rfl, At2.fresh _ _ _ _, by go_grown⟩
          | exact ⟨_, rfl, rfl, P2.put _ _, by go_grown⟩
  case rest =>
    obtain ⟨b20, rfl, rfl, P, hbc⟩ := hcut
    have hne : Nonempty (Later wc) := Later.ne wc
    obtain ⟨q0, q1, q2, q3, q4⟩ := id P
    have hs' := hbc.size
    have M1 := fun w => mul_any s 1000000 (by omega) (by omega) (by omega) (by omega) w
    have C1 := fun w => cmp_any (r * n + h) (s * 1000000) ⟨by omega, by omega⟩ ⟨by omega, by omega⟩ w
    go_wp2_with fail
    refine wp_region_later (by kernel_rfl) (by kernel_rfl) ?_
    repeat (go_big_quiet_step (first | (go_at_call 14; exact Later.call _ (credited_any _)) | (go_at_call 20; exact Later.call _ (M1 _)) | (go_at_call 21; exact Later.call _ (C1 _))))
    refine wpQuiet_nil ?_
    rintro w9 ⟨⟨_, hw9⟩, rfl⟩
    go_wp2
    go_ret
    exact ⟨rfl, Below.call hbc hbc.size hw9⟩
set_option maxHeartbeats 4000000 in
set_option maxRecDepth 100000 in
theorem walk_splits_c0 (b a h r m t s A1 H1 A2 H2 n : Int) (b_0 : -9223372036854775808 ≤ b) (b_1 : b ≤ 9223372036854775807) (a_0 : -9223372036854775808 ≤ a) (a_1 : a ≤ 9223372036854775807) (h_0 : -9223372036854775808 ≤ h) (h_1 : h ≤ 9223372036854775807) (r_0 : -9223372036854775808 ≤ r) (r_1 : r ≤ 9223372036854775807) (m_0 : -9223372036854775808 ≤ m) (m_1 : m ≤ 9223372036854775807) (t_0 : -9223372036854775808 ≤ t) (t_1 : t ≤ 9223372036854775807) (s_0 : -9223372036854775808 ≤ s) (s_1 : s ≤ 9223372036854775807) (H1_0 : -9223372036854775808 ≤ H1) (H1_1 : H1 ≤ 9223372036854775807)  (F1 : ∀ w, Calls Try.prog 10 #[.int .i64 b, .agg #[.int .i64 a, .int .i64 h], .int .i64 r, .int .i64 m] w fun e w' => e = .returned (.tuple #[.agg #[.int .i64 A1, .int .i64 H1], .int .i64 0]) ∧ Below w.heap.size w w')
    (F2 : ∀ w, Calls Try.prog 10 #[.int .i64 b, .agg #[.int .i64 A1, .int .i64 H1], .int .i64 r, .int .i64 t] w fun e w' => e = .returned (.tuple #[.agg #[.int .i64 A2, .int .i64 H2], .int .i64 0]) ∧ Below w.heap.size w w')
    (F3 : ∀ w, Calls Try.prog 10 #[.int .i64 b, .agg #[.int .i64 a, .int .i64 h], .int .i64 r, .int .i64 t] w fun e w' => e = .returned (.tuple #[.agg #[.int .i64 A2, .int .i64 H2], .int .i64 0]) ∧ Below w.heap.size w w')
    (n0 : 0 ≤ n) (n1 : n ≤ 4611686018427387904)
    (WT : ∀ w, Calls Try.prog 17 #[.agg #[.int .i64 a, .int .i64 h], .int .i64 r, .int .i64 s] w fun e w' => e = .returned (.int .i64 n) ∧ Below w.heap.size w w') (c : s ≤ 0) (w : World) :
    Calls Try.prog 7 #[.int .i64 b, .agg #[.int .i64 a, .int .i64 h], .int .i64 r, .int .i64 m, .int .i64 t, .int .i64 s] w fun e w' => e = .returned (.bool true) ∧ Below w.heap.size w w' := by
  go_enter Try.func7, Try.ntmps7
  go_wp2_with fail
  refine (F1 _).mono ?_
  rintro e w1 ⟨rfl, hw1⟩
  have A : At2 w1 w.heap.size (.int .i64 (a)) (.int .i64 (h)) := At2.below (by constructor <;> simp [go_sem]) hw1 (by simp <;> omega)
  have hb : Below w.heap.size w w1 := Below.call (by go_grown) (by simp <;> omega) hw1
  clear hw1
  have hs := hb.size
  obtain ⟨zA0, zA1, zA2, zA3, zA4⟩ := id A
  go_wp2_with fail
  refine (F2 _).mono ?_
  rintro e w2 ⟨rfl, hw2⟩
  replace A := (A.alloc _).below hw2 (by have := A.lt; simp <;> omega)
  have X1 : At2 w2 w1.heap.size (.int .i64 (A1)) (.int .i64 (H1)) := At2.after_fresh' hw2
  replace hb : Below w.heap.size w w2 := Below.call (show Below w.heap.size w _ by have := hb.size; go_grown) (by have := hb.size; simp <;> omega) hw2
  clear hw2 zA0 zA1 zA2 zA3 zA4
  have hs := hb.size
  obtain ⟨zA0, zA1, zA2, zA3, zA4⟩ := id A
  obtain ⟨zX10, zX11, zX12, zX13, zX14⟩ := id X1
  go_wp2_with fail
  refine (F3 _).mono ?_
  rintro e w3 ⟨rfl, hw3⟩
  replace A := (A.alloc _).below hw3 (by have := A.lt; simp <;> omega)
  replace X1 := (X1.alloc _).below hw3 (by have := X1.lt; simp <;> omega)
  have X2 : At2 w3 w2.heap.size (.int .i64 (A2)) (.int .i64 (H2)) := At2.after_fresh' hw3
  replace hb : Below w.heap.size w w3 := Below.call (show Below w.heap.size w _ by have := hb.size; go_grown) (by have := hb.size; simp <;> omega) hw3
  clear hw3 zA0 zA1 zA2 zA3 zA4 zX10 zX11 zX12 zX13 zX14
  have hs := hb.size
  obtain ⟨zA0, zA1, zA2, zA3, zA4⟩ := id A
  obtain ⟨zX10, zX11, zX12, zX13, zX14⟩ := id X1
  obtain ⟨zX20, zX21, zX22, zX23, zX24⟩ := id X2
  go_wp2_with fail
  refine (WT _).mono ?_
  rintro e w4 ⟨rfl, hw4⟩
  replace A := (A.alloc _).below hw4 (by have := A.lt; simp <;> omega)
  replace X1 := (X1.alloc _).below hw4 (by have := X1.lt; simp <;> omega)
  replace X2 := (X2.alloc _).below hw4 (by have := X2.lt; simp <;> omega)
  have X3 : At2 w4 w3.heap.size (.int .i64 (A2)) (.int .i64 (H2)) := At2.after_fresh' hw4
  replace hb : Below w.heap.size w w4 := Below.call (show Below w.heap.size w _ by have := hb.size; go_grown) (by have := hb.size; simp <;> omega) hw4
  clear hw4 zA0 zA1 zA2 zA3 zA4 zX10 zX11 zX12 zX13 zX14 zX20 zX21 zX22 zX23 zX24
  have hs := hb.size
  obtain ⟨zA0, zA1, zA2, zA3, zA4⟩ := id A
  obtain ⟨zX10, zX11, zX12, zX13, zX14⟩ := id X1
  obtain ⟨zX20, zX21, zX22, zX23, zX24⟩ := id X2
  obtain ⟨zX30, zX31, zX32, zX33, zX34⟩ := id X3
  go_wp2_with fail
  refine (credited_any _).mono ?_
  rintro e w5 ⟨rfl, hw5⟩
  replace A := (A).below hw5 (by have := A.lt; simp <;> omega)
  replace X1 := (X1).below hw5 (by have := X1.lt; simp <;> omega)
  replace X2 := (X2).below hw5 (by have := X2.lt; simp <;> omega)
  replace X3 := (X3).below hw5 (by have := X3.lt; simp <;> omega)
  replace hb : Below w.heap.size w w5 := Below.call (show Below w.heap.size w _ by have := hb.size; go_grown) (by have := hb.size; simp <;> omega) hw5
  clear hw5 zA0 zA1 zA2 zA3 zA4 zX10 zX11 zX12 zX13 zX14 zX20 zX21 zX22 zX23 zX24 zX30 zX31 zX32 zX33 zX34
  have hs := hb.size
  obtain ⟨zA0, zA1, zA2, zA3, zA4⟩ := id A
  obtain ⟨zX10, zX11, zX12, zX13, zX14⟩ := id X1
  obtain ⟨zX20, zX21, zX22, zX23, zX24⟩ := id X2
  obtain ⟨zX30, zX31, zX32, zX33, zX34⟩ := id X3
  go_wp2
  go_ret
  exact ⟨rfl, by go_grown⟩
set_option maxHeartbeats 4000000 in
set_option maxRecDepth 100000 in
theorem walk_splits_c1 (b a h r m t s A1 H1 A2 H2 n : Int) (b_0 : -9223372036854775808 ≤ b) (b_1 : b ≤ 9223372036854775807) (a_0 : -9223372036854775808 ≤ a) (a_1 : a ≤ 9223372036854775807) (h_0 : -9223372036854775808 ≤ h) (h_1 : h ≤ 9223372036854775807) (r_0 : -9223372036854775808 ≤ r) (r_1 : r ≤ 9223372036854775807) (m_0 : -9223372036854775808 ≤ m) (m_1 : m ≤ 9223372036854775807) (t_0 : -9223372036854775808 ≤ t) (t_1 : t ≤ 9223372036854775807) (s_0 : -9223372036854775808 ≤ s) (s_1 : s ≤ 9223372036854775807) (H1_0 : -9223372036854775808 ≤ H1) (H1_1 : H1 ≤ 9223372036854775807)  (F1 : ∀ w, Calls Try.prog 10 #[.int .i64 b, .agg #[.int .i64 a, .int .i64 h], .int .i64 r, .int .i64 m] w fun e w' => e = .returned (.tuple #[.agg #[.int .i64 A1, .int .i64 H1], .int .i64 0]) ∧ Below w.heap.size w w')
    (F2 : ∀ w, Calls Try.prog 10 #[.int .i64 b, .agg #[.int .i64 A1, .int .i64 H1], .int .i64 r, .int .i64 t] w fun e w' => e = .returned (.tuple #[.agg #[.int .i64 A2, .int .i64 H2], .int .i64 0]) ∧ Below w.heap.size w w')
    (F3 : ∀ w, Calls Try.prog 10 #[.int .i64 b, .agg #[.int .i64 a, .int .i64 h], .int .i64 r, .int .i64 t] w fun e w' => e = .returned (.tuple #[.agg #[.int .i64 A2, .int .i64 H2], .int .i64 0]) ∧ Below w.heap.size w w')
    (n0 : 0 ≤ n) (n1 : n ≤ 4611686018427387904)
    (WT : ∀ w, Calls Try.prog 17 #[.agg #[.int .i64 a, .int .i64 h], .int .i64 r, .int .i64 s] w fun e w' => e = .returned (.int .i64 n) ∧ Below w.heap.size w w') (e1 : 0 < s) (c : r ≤ 0) (w : World) :
    Calls Try.prog 7 #[.int .i64 b, .agg #[.int .i64 a, .int .i64 h], .int .i64 r, .int .i64 m, .int .i64 t, .int .i64 s] w fun e w' => e = .returned (.bool true) ∧ Below w.heap.size w w' := by
  have d0 : decide (s ≤ 0) = false := decide_eq_false (by omega)
  go_enter Try.func7, Try.ntmps7
  go_wp2_with fail
  refine (F1 _).mono ?_
  rintro e w1 ⟨rfl, hw1⟩
  have A : At2 w1 w.heap.size (.int .i64 (a)) (.int .i64 (h)) := At2.below (by constructor <;> simp [go_sem]) hw1 (by simp <;> omega)
  have hb : Below w.heap.size w w1 := Below.call (by go_grown) (by simp <;> omega) hw1
  clear hw1
  have hs := hb.size
  obtain ⟨zA0, zA1, zA2, zA3, zA4⟩ := id A
  go_wp2_with fail
  refine (F2 _).mono ?_
  rintro e w2 ⟨rfl, hw2⟩
  replace A := (A.alloc _).below hw2 (by have := A.lt; simp <;> omega)
  have X1 : At2 w2 w1.heap.size (.int .i64 (A1)) (.int .i64 (H1)) := At2.after_fresh' hw2
  replace hb : Below w.heap.size w w2 := Below.call (show Below w.heap.size w _ by have := hb.size; go_grown) (by have := hb.size; simp <;> omega) hw2
  clear hw2 zA0 zA1 zA2 zA3 zA4
  have hs := hb.size
  obtain ⟨zA0, zA1, zA2, zA3, zA4⟩ := id A
  obtain ⟨zX10, zX11, zX12, zX13, zX14⟩ := id X1
  go_wp2_with fail
  refine (F3 _).mono ?_
  rintro e w3 ⟨rfl, hw3⟩
  replace A := (A.alloc _).below hw3 (by have := A.lt; simp <;> omega)
  replace X1 := (X1.alloc _).below hw3 (by have := X1.lt; simp <;> omega)
  have X2 : At2 w3 w2.heap.size (.int .i64 (A2)) (.int .i64 (H2)) := At2.after_fresh' hw3
  replace hb : Below w.heap.size w w3 := Below.call (show Below w.heap.size w _ by have := hb.size; go_grown) (by have := hb.size; simp <;> omega) hw3
  clear hw3 zA0 zA1 zA2 zA3 zA4 zX10 zX11 zX12 zX13 zX14
  have hs := hb.size
  obtain ⟨zA0, zA1, zA2, zA3, zA4⟩ := id A
  obtain ⟨zX10, zX11, zX12, zX13, zX14⟩ := id X1
  obtain ⟨zX20, zX21, zX22, zX23, zX24⟩ := id X2
  go_wp2_with fail
  refine (WT _).mono ?_
  rintro e w4 ⟨rfl, hw4⟩
  replace A := (A.alloc _).below hw4 (by have := A.lt; simp <;> omega)
  replace X1 := (X1.alloc _).below hw4 (by have := X1.lt; simp <;> omega)
  replace X2 := (X2.alloc _).below hw4 (by have := X2.lt; simp <;> omega)
  have X3 : At2 w4 w3.heap.size (.int .i64 (A2)) (.int .i64 (H2)) := At2.after_fresh' hw4
  replace hb : Below w.heap.size w w4 := Below.call (show Below w.heap.size w _ by have := hb.size; go_grown) (by have := hb.size; simp <;> omega) hw4
  clear hw4 zA0 zA1 zA2 zA3 zA4 zX10 zX11 zX12 zX13 zX14 zX20 zX21 zX22 zX23 zX24
  have hs := hb.size
  obtain ⟨zA0, zA1, zA2, zA3, zA4⟩ := id A
  obtain ⟨zX10, zX11, zX12, zX13, zX14⟩ := id X1
  obtain ⟨zX20, zX21, zX22, zX23, zX24⟩ := id X2
  obtain ⟨zX30, zX31, zX32, zX33, zX34⟩ := id X3
  go_wp2_with fail
  refine (credited_any _).mono ?_
  rintro e w5 ⟨rfl, hw5⟩
  replace A := (A).below hw5 (by have := A.lt; simp <;> omega)
  replace X1 := (X1).below hw5 (by have := X1.lt; simp <;> omega)
  replace X2 := (X2).below hw5 (by have := X2.lt; simp <;> omega)
  replace X3 := (X3).below hw5 (by have := X3.lt; simp <;> omega)
  replace hb : Below w.heap.size w w5 := Below.call (show Below w.heap.size w _ by have := hb.size; go_grown) (by have := hb.size; simp <;> omega) hw5
  clear hw5 zA0 zA1 zA2 zA3 zA4 zX10 zX11 zX12 zX13 zX14 zX20 zX21 zX22 zX23 zX24 zX30 zX31 zX32 zX33 zX34
  have hs := hb.size
  obtain ⟨zA0, zA1, zA2, zA3, zA4⟩ := id A
  obtain ⟨zX10, zX11, zX12, zX13, zX14⟩ := id X1
  obtain ⟨zX20, zX21, zX22, zX23, zX24⟩ := id X2
  obtain ⟨zX30, zX31, zX32, zX33, zX34⟩ := id X3
  go_wp2
  go_ret
  exact ⟨rfl, by go_grown⟩
set_option maxHeartbeats 4000000 in
set_option maxRecDepth 100000 in
theorem walk_splits_c2 (b a h r m t s A1 H1 A2 H2 n : Int) (b_0 : -9223372036854775808 ≤ b) (b_1 : b ≤ 9223372036854775807) (a_0 : -9223372036854775808 ≤ a) (a_1 : a ≤ 9223372036854775807) (h_0 : -9223372036854775808 ≤ h) (h_1 : h ≤ 9223372036854775807) (r_0 : -9223372036854775808 ≤ r) (r_1 : r ≤ 9223372036854775807) (m_0 : -9223372036854775808 ≤ m) (m_1 : m ≤ 9223372036854775807) (t_0 : -9223372036854775808 ≤ t) (t_1 : t ≤ 9223372036854775807) (s_0 : -9223372036854775808 ≤ s) (s_1 : s ≤ 9223372036854775807) (H1_0 : -9223372036854775808 ≤ H1) (H1_1 : H1 ≤ 9223372036854775807)  (F1 : ∀ w, Calls Try.prog 10 #[.int .i64 b, .agg #[.int .i64 a, .int .i64 h], .int .i64 r, .int .i64 m] w fun e w' => e = .returned (.tuple #[.agg #[.int .i64 A1, .int .i64 H1], .int .i64 0]) ∧ Below w.heap.size w w')
    (F2 : ∀ w, Calls Try.prog 10 #[.int .i64 b, .agg #[.int .i64 A1, .int .i64 H1], .int .i64 r, .int .i64 t] w fun e w' => e = .returned (.tuple #[.agg #[.int .i64 A2, .int .i64 H2], .int .i64 0]) ∧ Below w.heap.size w w')
    (F3 : ∀ w, Calls Try.prog 10 #[.int .i64 b, .agg #[.int .i64 a, .int .i64 h], .int .i64 r, .int .i64 t] w fun e w' => e = .returned (.tuple #[.agg #[.int .i64 A2, .int .i64 H2], .int .i64 0]) ∧ Below w.heap.size w w')
    (n0 : 0 ≤ n) (n1 : n ≤ 4611686018427387904)
    (WT : ∀ w, Calls Try.prog 17 #[.agg #[.int .i64 a, .int .i64 h], .int .i64 r, .int .i64 s] w fun e w' => e = .returned (.int .i64 n) ∧ Below w.heap.size w w') (e1 : 0 < s) (e2 : 0 < r) (c : h < 0) (w : World) :
    Calls Try.prog 7 #[.int .i64 b, .agg #[.int .i64 a, .int .i64 h], .int .i64 r, .int .i64 m, .int .i64 t, .int .i64 s] w fun e w' => e = .returned (.bool true) ∧ Below w.heap.size w w' := by
  have d0 : decide (s ≤ 0) = false := decide_eq_false (by omega)
  have d1 : decide (r ≤ 0) = false := decide_eq_false (by omega)
  go_enter Try.func7, Try.ntmps7
  go_wp2_with fail
  refine (F1 _).mono ?_
  rintro e w1 ⟨rfl, hw1⟩
  have A : At2 w1 w.heap.size (.int .i64 (a)) (.int .i64 (h)) := At2.below (by constructor <;> simp [go_sem]) hw1 (by simp <;> omega)
  have hb : Below w.heap.size w w1 := Below.call (by go_grown) (by simp <;> omega) hw1
  clear hw1
  have hs := hb.size
  obtain ⟨zA0, zA1, zA2, zA3, zA4⟩ := id A
  go_wp2_with fail
  refine (F2 _).mono ?_
  rintro e w2 ⟨rfl, hw2⟩
  replace A := (A.alloc _).below hw2 (by have := A.lt; simp <;> omega)
  have X1 : At2 w2 w1.heap.size (.int .i64 (A1)) (.int .i64 (H1)) := At2.after_fresh' hw2
  replace hb : Below w.heap.size w w2 := Below.call (show Below w.heap.size w _ by have := hb.size; go_grown) (by have := hb.size; simp <;> omega) hw2
  clear hw2 zA0 zA1 zA2 zA3 zA4
  have hs := hb.size
  obtain ⟨zA0, zA1, zA2, zA3, zA4⟩ := id A
  obtain ⟨zX10, zX11, zX12, zX13, zX14⟩ := id X1
  go_wp2_with fail
  refine (F3 _).mono ?_
  rintro e w3 ⟨rfl, hw3⟩
  replace A := (A.alloc _).below hw3 (by have := A.lt; simp <;> omega)
  replace X1 := (X1.alloc _).below hw3 (by have := X1.lt; simp <;> omega)
  have X2 : At2 w3 w2.heap.size (.int .i64 (A2)) (.int .i64 (H2)) := At2.after_fresh' hw3
  replace hb : Below w.heap.size w w3 := Below.call (show Below w.heap.size w _ by have := hb.size; go_grown) (by have := hb.size; simp <;> omega) hw3
  clear hw3 zA0 zA1 zA2 zA3 zA4 zX10 zX11 zX12 zX13 zX14
  have hs := hb.size
  obtain ⟨zA0, zA1, zA2, zA3, zA4⟩ := id A
  obtain ⟨zX10, zX11, zX12, zX13, zX14⟩ := id X1
  obtain ⟨zX20, zX21, zX22, zX23, zX24⟩ := id X2
  go_wp2_with fail
  refine (WT _).mono ?_
  rintro e w4 ⟨rfl, hw4⟩
  replace A := (A.alloc _).below hw4 (by have := A.lt; simp <;> omega)
  replace X1 := (X1.alloc _).below hw4 (by have := X1.lt; simp <;> omega)
  replace X2 := (X2.alloc _).below hw4 (by have := X2.lt; simp <;> omega)
  have X3 : At2 w4 w3.heap.size (.int .i64 (A2)) (.int .i64 (H2)) := At2.after_fresh' hw4
  replace hb : Below w.heap.size w w4 := Below.call (show Below w.heap.size w _ by have := hb.size; go_grown) (by have := hb.size; simp <;> omega) hw4
  clear hw4 zA0 zA1 zA2 zA3 zA4 zX10 zX11 zX12 zX13 zX14 zX20 zX21 zX22 zX23 zX24
  have hs := hb.size
  obtain ⟨zA0, zA1, zA2, zA3, zA4⟩ := id A
  obtain ⟨zX10, zX11, zX12, zX13, zX14⟩ := id X1
  obtain ⟨zX20, zX21, zX22, zX23, zX24⟩ := id X2
  obtain ⟨zX30, zX31, zX32, zX33, zX34⟩ := id X3
  go_wp2_with fail
  refine (credited_any _).mono ?_
  rintro e w5 ⟨rfl, hw5⟩
  replace A := (A).below hw5 (by have := A.lt; simp <;> omega)
  replace X1 := (X1).below hw5 (by have := X1.lt; simp <;> omega)
  replace X2 := (X2).below hw5 (by have := X2.lt; simp <;> omega)
  replace X3 := (X3).below hw5 (by have := X3.lt; simp <;> omega)
  replace hb : Below w.heap.size w w5 := Below.call (show Below w.heap.size w _ by have := hb.size; go_grown) (by have := hb.size; simp <;> omega) hw5
  clear hw5 zA0 zA1 zA2 zA3 zA4 zX10 zX11 zX12 zX13 zX14 zX20 zX21 zX22 zX23 zX24 zX30 zX31 zX32 zX33 zX34
  have hs := hb.size
  obtain ⟨zA0, zA1, zA2, zA3, zA4⟩ := id A
  obtain ⟨zX10, zX11, zX12, zX13, zX14⟩ := id X1
  obtain ⟨zX20, zX21, zX22, zX23, zX24⟩ := id X2
  obtain ⟨zX30, zX31, zX32, zX33, zX34⟩ := id X3
  go_wp2
  go_ret
  exact ⟨rfl, by go_grown⟩
set_option maxHeartbeats 4000000 in
set_option maxRecDepth 100000 in
theorem walk_splits_c3 (b a h r m t s A1 H1 A2 H2 n : Int) (b_0 : -9223372036854775808 ≤ b) (b_1 : b ≤ 9223372036854775807) (a_0 : -9223372036854775808 ≤ a) (a_1 : a ≤ 9223372036854775807) (h_0 : -9223372036854775808 ≤ h) (h_1 : h ≤ 9223372036854775807) (r_0 : -9223372036854775808 ≤ r) (r_1 : r ≤ 9223372036854775807) (m_0 : -9223372036854775808 ≤ m) (m_1 : m ≤ 9223372036854775807) (t_0 : -9223372036854775808 ≤ t) (t_1 : t ≤ 9223372036854775807) (s_0 : -9223372036854775808 ≤ s) (s_1 : s ≤ 9223372036854775807) (H1_0 : -9223372036854775808 ≤ H1) (H1_1 : H1 ≤ 9223372036854775807)  (F1 : ∀ w, Calls Try.prog 10 #[.int .i64 b, .agg #[.int .i64 a, .int .i64 h], .int .i64 r, .int .i64 m] w fun e w' => e = .returned (.tuple #[.agg #[.int .i64 A1, .int .i64 H1], .int .i64 0]) ∧ Below w.heap.size w w')
    (F2 : ∀ w, Calls Try.prog 10 #[.int .i64 b, .agg #[.int .i64 A1, .int .i64 H1], .int .i64 r, .int .i64 t] w fun e w' => e = .returned (.tuple #[.agg #[.int .i64 A2, .int .i64 H2], .int .i64 0]) ∧ Below w.heap.size w w')
    (F3 : ∀ w, Calls Try.prog 10 #[.int .i64 b, .agg #[.int .i64 a, .int .i64 h], .int .i64 r, .int .i64 t] w fun e w' => e = .returned (.tuple #[.agg #[.int .i64 A2, .int .i64 H2], .int .i64 0]) ∧ Below w.heap.size w w')
    (n0 : 0 ≤ n) (n1 : n ≤ 4611686018427387904)
    (WT : ∀ w, Calls Try.prog 17 #[.agg #[.int .i64 a, .int .i64 h], .int .i64 r, .int .i64 s] w fun e w' => e = .returned (.int .i64 n) ∧ Below w.heap.size w w') (e1 : 0 < s) (e2 : 0 < r) (e3 : 0 ≤ h) (c : (n == 4611686018427387904) = true) (w : World) :
    Calls Try.prog 7 #[.int .i64 b, .agg #[.int .i64 a, .int .i64 h], .int .i64 r, .int .i64 m, .int .i64 t, .int .i64 s] w fun e w' => e = .returned (.bool true) ∧ Below w.heap.size w w' := by
  have d0 : decide (s ≤ 0) = false := decide_eq_false (by omega)
  have d1 : decide (r ≤ 0) = false := decide_eq_false (by omega)
  have d2 : decide (h < 0) = false := decide_eq_false (by omega)
  go_enter Try.func7, Try.ntmps7
  go_wp2_with fail
  refine (F1 _).mono ?_
  rintro e w1 ⟨rfl, hw1⟩
  have A : At2 w1 w.heap.size (.int .i64 (a)) (.int .i64 (h)) := At2.below (by constructor <;> simp [go_sem]) hw1 (by simp <;> omega)
  have hb : Below w.heap.size w w1 := Below.call (by go_grown) (by simp <;> omega) hw1
  clear hw1
  have hs := hb.size
  obtain ⟨zA0, zA1, zA2, zA3, zA4⟩ := id A
  go_wp2_with fail
  refine (F2 _).mono ?_
  rintro e w2 ⟨rfl, hw2⟩
  replace A := (A.alloc _).below hw2 (by have := A.lt; simp <;> omega)
  have X1 : At2 w2 w1.heap.size (.int .i64 (A1)) (.int .i64 (H1)) := At2.after_fresh' hw2
  replace hb : Below w.heap.size w w2 := Below.call (show Below w.heap.size w _ by have := hb.size; go_grown) (by have := hb.size; simp <;> omega) hw2
  clear hw2 zA0 zA1 zA2 zA3 zA4
  have hs := hb.size
  obtain ⟨zA0, zA1, zA2, zA3, zA4⟩ := id A
  obtain ⟨zX10, zX11, zX12, zX13, zX14⟩ := id X1
  go_wp2_with fail
  refine (F3 _).mono ?_
  rintro e w3 ⟨rfl, hw3⟩
  replace A := (A.alloc _).below hw3 (by have := A.lt; simp <;> omega)
  replace X1 := (X1.alloc _).below hw3 (by have := X1.lt; simp <;> omega)
  have X2 : At2 w3 w2.heap.size (.int .i64 (A2)) (.int .i64 (H2)) := At2.after_fresh' hw3
  replace hb : Below w.heap.size w w3 := Below.call (show Below w.heap.size w _ by have := hb.size; go_grown) (by have := hb.size; simp <;> omega) hw3
  clear hw3 zA0 zA1 zA2 zA3 zA4 zX10 zX11 zX12 zX13 zX14
  have hs := hb.size
  obtain ⟨zA0, zA1, zA2, zA3, zA4⟩ := id A
  obtain ⟨zX10, zX11, zX12, zX13, zX14⟩ := id X1
  obtain ⟨zX20, zX21, zX22, zX23, zX24⟩ := id X2
  go_wp2_with fail
  refine (WT _).mono ?_
  rintro e w4 ⟨rfl, hw4⟩
  replace A := (A.alloc _).below hw4 (by have := A.lt; simp <;> omega)
  replace X1 := (X1.alloc _).below hw4 (by have := X1.lt; simp <;> omega)
  replace X2 := (X2.alloc _).below hw4 (by have := X2.lt; simp <;> omega)
  have X3 : At2 w4 w3.heap.size (.int .i64 (A2)) (.int .i64 (H2)) := At2.after_fresh' hw4
  replace hb : Below w.heap.size w w4 := Below.call (show Below w.heap.size w _ by have := hb.size; go_grown) (by have := hb.size; simp <;> omega) hw4
  clear hw4 zA0 zA1 zA2 zA3 zA4 zX10 zX11 zX12 zX13 zX14 zX20 zX21 zX22 zX23 zX24
  have hs := hb.size
  obtain ⟨zA0, zA1, zA2, zA3, zA4⟩ := id A
  obtain ⟨zX10, zX11, zX12, zX13, zX14⟩ := id X1
  obtain ⟨zX20, zX21, zX22, zX23, zX24⟩ := id X2
  obtain ⟨zX30, zX31, zX32, zX33, zX34⟩ := id X3
  go_wp2_with fail
  refine (credited_any _).mono ?_
  rintro e w5 ⟨rfl, hw5⟩
  replace A := (A).below hw5 (by have := A.lt; simp <;> omega)
  replace X1 := (X1).below hw5 (by have := X1.lt; simp <;> omega)
  replace X2 := (X2).below hw5 (by have := X2.lt; simp <;> omega)
  replace X3 := (X3).below hw5 (by have := X3.lt; simp <;> omega)
  replace hb : Below w.heap.size w w5 := Below.call (show Below w.heap.size w _ by have := hb.size; go_grown) (by have := hb.size; simp <;> omega) hw5
  clear hw5 zA0 zA1 zA2 zA3 zA4 zX10 zX11 zX12 zX13 zX14 zX20 zX21 zX22 zX23 zX24 zX30 zX31 zX32 zX33 zX34
  have hs := hb.size
  obtain ⟨zA0, zA1, zA2, zA3, zA4⟩ := id A
  obtain ⟨zX10, zX11, zX12, zX13, zX14⟩ := id X1
  obtain ⟨zX20, zX21, zX22, zX23, zX24⟩ := id X2
  obtain ⟨zX30, zX31, zX32, zX33, zX34⟩ := id X3
  go_wp2
  go_ret
  exact ⟨rfl, by go_grown⟩
set_option maxHeartbeats 4000000 in
set_option maxRecDepth 100000 in
theorem walk_splits_c4 (b a h r m t s A1 H1 A2 H2 n : Int) (b_0 : -9223372036854775808 ≤ b) (b_1 : b ≤ 9223372036854775807) (a_0 : -9223372036854775808 ≤ a) (a_1 : a ≤ 9223372036854775807) (h_0 : -9223372036854775808 ≤ h) (h_1 : h ≤ 9223372036854775807) (r_0 : -9223372036854775808 ≤ r) (r_1 : r ≤ 9223372036854775807) (m_0 : -9223372036854775808 ≤ m) (m_1 : m ≤ 9223372036854775807) (t_0 : -9223372036854775808 ≤ t) (t_1 : t ≤ 9223372036854775807) (s_0 : -9223372036854775808 ≤ s) (s_1 : s ≤ 9223372036854775807) (H1_0 : -9223372036854775808 ≤ H1) (H1_1 : H1 ≤ 9223372036854775807)  (F1 : ∀ w, Calls Try.prog 10 #[.int .i64 b, .agg #[.int .i64 a, .int .i64 h], .int .i64 r, .int .i64 m] w fun e w' => e = .returned (.tuple #[.agg #[.int .i64 A1, .int .i64 H1], .int .i64 0]) ∧ Below w.heap.size w w')
    (F2 : ∀ w, Calls Try.prog 10 #[.int .i64 b, .agg #[.int .i64 A1, .int .i64 H1], .int .i64 r, .int .i64 t] w fun e w' => e = .returned (.tuple #[.agg #[.int .i64 A2, .int .i64 H2], .int .i64 0]) ∧ Below w.heap.size w w')
    (F3 : ∀ w, Calls Try.prog 10 #[.int .i64 b, .agg #[.int .i64 a, .int .i64 h], .int .i64 r, .int .i64 t] w fun e w' => e = .returned (.tuple #[.agg #[.int .i64 A2, .int .i64 H2], .int .i64 0]) ∧ Below w.heap.size w w')
    (n0 : 0 ≤ n) (n1 : n ≤ 4611686018427387904)
    (WT : ∀ w, Calls Try.prog 17 #[.agg #[.int .i64 a, .int .i64 h], .int .i64 r, .int .i64 s] w fun e w' => e = .returned (.int .i64 n) ∧ Below w.heap.size w w') (e1 : 0 < s) (e2 : 0 < r) (e3 : 0 ≤ h) (c : (n == 4611686018427387904) = false) (g : s * 1000000 ≤ r * n + h) (w : World) :
    Calls Try.prog 7 #[.int .i64 b, .agg #[.int .i64 a, .int .i64 h], .int .i64 r, .int .i64 m, .int .i64 t, .int .i64 s] w fun e w' => e = .returned (.bool true) ∧ Below w.heap.size w w' := by
  have d0 : decide (s ≤ 0) = false := decide_eq_false (by omega)
  have d1 : decide (r ≤ 0) = false := decide_eq_false (by omega)
  have d2 : decide (h < 0) = false := decide_eq_false (by omega)
  have p0 := Int.mul_nonneg (show 0 ≤ r by omega) n0
  have p1 := Int.mul_le_mul (show r ≤ 9223372036854775807 by omega) n1 n0 (by omega)
  have K : 0 ≤ cmpv (r * n + h) (s * 1000000) := by unfold cmpv; (repeat split) <;> omega
  go_enter Try.func7, Try.ntmps7
  go_wp2_with fail
  refine (F1 _).mono ?_
  rintro e w1 ⟨rfl, hw1⟩
  have A : At2 w1 w.heap.size (.int .i64 (a)) (.int .i64 (h)) := At2.below (by constructor <;> simp [go_sem]) hw1 (by simp <;> omega)
  have hb : Below w.heap.size w w1 := Below.call (by go_grown) (by simp <;> omega) hw1
  clear hw1
  have hs := hb.size
  obtain ⟨zA0, zA1, zA2, zA3, zA4⟩ := id A
  go_wp2_with fail
  refine (F2 _).mono ?_
  rintro e w2 ⟨rfl, hw2⟩
  replace A := (A.alloc _).below hw2 (by have := A.lt; simp <;> omega)
  have X1 : At2 w2 w1.heap.size (.int .i64 (A1)) (.int .i64 (H1)) := At2.after_fresh' hw2
  replace hb : Below w.heap.size w w2 := Below.call (show Below w.heap.size w _ by have := hb.size; go_grown) (by have := hb.size; simp <;> omega) hw2
  clear hw2 zA0 zA1 zA2 zA3 zA4
  have hs := hb.size
  obtain ⟨zA0, zA1, zA2, zA3, zA4⟩ := id A
  obtain ⟨zX10, zX11, zX12, zX13, zX14⟩ := id X1
  go_wp2_with fail
  refine (F3 _).mono ?_
  rintro e w3 ⟨rfl, hw3⟩
  replace A := (A.alloc _).below hw3 (by have := A.lt; simp <;> omega)
  replace X1 := (X1.alloc _).below hw3 (by have := X1.lt; simp <;> omega)
  have X2 : At2 w3 w2.heap.size (.int .i64 (A2)) (.int .i64 (H2)) := At2.after_fresh' hw3
  replace hb : Below w.heap.size w w3 := Below.call (show Below w.heap.size w _ by have := hb.size; go_grown) (by have := hb.size; simp <;> omega) hw3
  clear hw3 zA0 zA1 zA2 zA3 zA4 zX10 zX11 zX12 zX13 zX14
  have hs := hb.size
  obtain ⟨zA0, zA1, zA2, zA3, zA4⟩ := id A
  obtain ⟨zX10, zX11, zX12, zX13, zX14⟩ := id X1
  obtain ⟨zX20, zX21, zX22, zX23, zX24⟩ := id X2
  go_wp2_with fail
  refine (WT _).mono ?_
  rintro e w4 ⟨rfl, hw4⟩
  replace A := (A.alloc _).below hw4 (by have := A.lt; simp <;> omega)
  replace X1 := (X1.alloc _).below hw4 (by have := X1.lt; simp <;> omega)
  replace X2 := (X2.alloc _).below hw4 (by have := X2.lt; simp <;> omega)
  have X3 : At2 w4 w3.heap.size (.int .i64 (A2)) (.int .i64 (H2)) := At2.after_fresh' hw4
  replace hb : Below w.heap.size w w4 := Below.call (show Below w.heap.size w _ by have := hb.size; go_grown) (by have := hb.size; simp <;> omega) hw4
  clear hw4 zA0 zA1 zA2 zA3 zA4 zX10 zX11 zX12 zX13 zX14 zX20 zX21 zX22 zX23 zX24
  have hs := hb.size
  obtain ⟨zA0, zA1, zA2, zA3, zA4⟩ := id A
  obtain ⟨zX10, zX11, zX12, zX13, zX14⟩ := id X1
  obtain ⟨zX20, zX21, zX22, zX23, zX24⟩ := id X2
  obtain ⟨zX30, zX31, zX32, zX33, zX34⟩ := id X3
  go_upto_region 9 with fail
  refine wp_forget (fun W => At2 W w.heap.size (.int .i64 a) (.int .i64 h) ∧ Below w.heap.size w W) ⟨A, by have := hb.size; go_grown⟩ ?_
  clear A hb zA0 zA1 zA2 zA3 zA4 hs
  rintro w5 ⟨A, hb⟩
  have hs := hb.size
  obtain ⟨zA0, zA1, zA2, zA3, zA4⟩ := id A
  clear F1 F2 F3 WT zX10 zX11 zX12 zX13 zX14 zX20 zX21 zX22 zX23 zX24 zX30 zX31 zX32 zX33 zX34 X1 X2 X3
  go_cut [20, 21] (fun v20 v21 wc => ∃ b20 : Nat, v20 = .pointer (some ⟨b20, 0, none⟩) ∧ v21 = .int .u64 0 ∧ At2 wc b20 (.int .u64 (hiw (r * n + h))) (.int .u64 (low (r * n + h))) ∧ Below w.heap.size w wc)
  case first =>
    go_wp2_with fail
    have LD : ∀ w', Below w5.heap.size w5 w' → w'.cell? ⟨w.heap.size, 1, none⟩ = some (.int .i64 h) := fun w' hw' => (hw'.cell (p := ⟨w.heap.size, 1, none⟩) zA4).trans zA1
    clear A zA0 zA1 zA2 zA3 K
    have wr : IntKind.u64.wrap r = r := by rw [IntKind.wrap_u64]; omega
    have wn : IntKind.u64.wrap n = n := by rw [IntKind.wrap_u64]; omega
    have wh : IntKind.u64.wrap h = h := by rw [IntKind.wrap_u64]; omega
    go_region_held3 (fun w' => Below w5.heap.size w5 w')
      (first | with_reducible exact k_new (by assumption) | with_reducible exact k_old (by assumption) | with_reducible exact Below.refl _ _ | go_grown)
      (first
        | (go_at_call 20; refine (mul_any r n (by omega) (by omega) (by omega) (by omega) _).mono ?_; rintro e w7 ⟨rfl, hw7⟩; have g2 : Below w5.heap.size w5 w7 := Below.call (by go_grown) (by simp) hw7; have l2 := g2.size; try (have P := At2.after_fresh hw7; obtain ⟨p0', p1', p2', p3', p4'⟩ := id P))
        | (go_at_call 19; refine (addw_any (r * n) h p0 (by omega) (by omega) (by omega) _).mono ?_; rintro e w8 ⟨rfl, hw8⟩; have g3 : Below w5.heap.size w5 w8 := Below.call (by go_grown) (by have := g2.size; simp <;> omega) hw8; first | (have P2 := P.below hw8 P.lt; obtain ⟨s0', s1', s2', s3', s4'⟩ := id P2) | (have P2 := At2.after_fresh' hw8; obtain ⟨s0', s1', s2', s3', s4'⟩ := id P2) | skip))
    all_goals
      go_wp2_with fail
      go_meet
      case rel =>
        have hbw3 : Below w.heap.size w w8 := hb.trans (g3.mono hb.size)
        have l3 := hbw3.size
        first
          | exact ⟨w8.heap.size, rfl, rfl, At2.fresh _ _ _ _, by go_grown⟩
          | exact ⟨_, rfl, rfl, P2.put _ _, by go_grown⟩
  case rest =>
    obtain ⟨b20, rfl, rfl, P, hbc⟩ := hcut
    have hne : Nonempty (Later wc) := Later.ne wc
    obtain ⟨q0, q1, q2, q3, q4⟩ := id P
    have hs' := hbc.size
    have M1 := fun w => mul_any s 1000000 (by omega) (by omega) (by omega) (by omega) w
    have C1 := fun w => cmp_any (r * n + h) (s * 1000000) ⟨by omega, by omega⟩ ⟨by omega, by omega⟩ w
    go_wp2_with fail
    refine wp_region_later (by kernel_rfl) (by kernel_rfl) ?_
    repeat (go_big_quiet_step (first | (go_at_call 14; exact Later.call _ (credited_any _)) | (go_at_call 20; exact Later.call _ (M1 _)) | (go_at_call 21; exact Later.call _ (C1 _))))
    refine wpQuiet_nil ?_
    rintro w9 ⟨⟨_, hw9⟩, rfl⟩
    go_wp2
    go_ret
    exact ⟨rfl, Below.call hbc hbc.size hw9⟩
end Go.Proofs.Ytahlphbgnhklaaa
