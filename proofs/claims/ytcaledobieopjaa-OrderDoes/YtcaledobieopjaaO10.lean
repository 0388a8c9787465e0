/-
  The document's rows of orders are told. No conditions.
-/
import Derived.Test.YtcaledobieopjaaO8
import Derived.Test.YtcaledobieopjaaO9
namespace Go.Proofs.Ytcaledobieopjaa
open Go.RowKit
set_option linter.unusedVariables false
theorem four_2 (w : World) : Calls Try.prog 8 #[.int .i64 2] w fun e w' => e = .returned (.tuple #[.agg #[.bool true, .bool false, .bool false, .bool true], .int .i64 0]) ∧ Below w.heap.size w w' :=
  four_in 2 (by omega) (by omega) w
theorem rank_0 (w : World) : Calls Try.prog 10 #[.agg #[.bool false, .bool false, .bool false, .bool false]] w fun e w' => e = .returned (.tuple #[.int .i64 0, .int .i64 14]) ∧ Below w.heap.size w w' :=
  rank_any false false false false w
theorem permN_wf {k s i p : Int} {zs : List Int} {n j : Nat} (hj : j < n) (hn : n ≤ 64) : ∀ x ∈ permN k s i p zs n j, (Lit.int .i64 x).wf = true := by
  intro x hx
  have P := permN_places k s i p zs n j hj
  obtain ⟨t, ht, rfl⟩ := List.mem_iff_getElem.1 hx
  have := P.bd t (by rw [← P.len]; exact ht)
  have e : (permN k s i p zs n j).getD t 0 = (permN k s i p zs n j)[t] := by simp [List.getD, ht]
  rw [e] at this
  exact WalkArith.wf_i64 (by omega)
theorem perm_row (k s i p : Int) (ao : Option Addr) (n c : Nat) (zs : List Int) (m : Nat) (h0 : 0 ≤ s) (h1 : s ≤ 18446744073709551615) (i0 : 0 ≤ i) (i1 : i ≤ 18446744073709551615) (m0 : 1 ≤ m) (m1 : m ≤ 64) (w : World) (hz : Row .u64 w ao n c zs) :
    Calls Try.prog 16 #[.agg #[.int .i64 k, .int .u64 s, .int .u64 i, .slice ao n c, .int .i64 p], .int .i64 m] w fun e w' => ∃ bo d, e = .returned (.tuple #[.slice bo m d, .agg #[.int .i64 k, .int .u64 (sN k s i (m - 1)), .int .u64 i, .slice ao n c, .int .i64 (pN k p zs (m - 1))]]) ∧
      Row .i64 w' bo m d (permN k s i p zs m (m - 1)) ∧ Below w.heap.size w w' := by
  refine (perm_yes k s i p ao n c zs m h0 h1 i0 i1 m0 m1 w hz).mono ?_
  rintro e w' ⟨g, rfl, own, hb⟩
  obtain ⟨ao', c', e', R⟩ := Row.own own (permN_wf (by omega) m1)
  simp only [Value.slice.injEq, true_and] at e'
  obtain ⟨rfl, rfl⟩ := e'
  exact ⟨_, _, rfl, R, hb⟩
theorem refPerm_row (k s i p : Int) (ao : Option Addr) (n c : Nat) (zs : List Int) (m : Nat) (h0 : 0 ≤ s) (h1 : s ≤ 18446744073709551615) (i0 : 0 ≤ i) (i1 : i ≤ 18446744073709551615) (m0 : 1 ≤ m) (m1 : m ≤ 64) (w : World) (hz : Row .u64 w ao n c zs) :
    Calls Try.prog 17 #[.agg #[.int .i64 k, .int .u64 s, .int .u64 i, .slice ao n c, .int .i64 p], .int .i64 m] w fun e w' => ∃ bo d, e = .returned (.tuple #[.slice bo m d, .agg #[.int .i64 k, .int .u64 (sN k s i (m - 1)), .int .u64 i, .slice ao n c, .int .i64 (pN k p zs (m - 1))]]) ∧
      Row .i64 w' bo m d (permN k s i p zs m (m - 1)) ∧ Below w.heap.size w w' := by
  refine (refPerm_yes k s i p ao n c zs m h0 h1 i0 i1 m0 m1 w hz).mono ?_
  rintro e w' ⟨g, d, rfl, own, hb⟩
  obtain ⟨ao', c', e', R⟩ := Row.own own (permN_wf (by omega) m1)
  simp only [Value.slice.injEq, true_and] at e'
  obtain ⟨rfl, rfl⟩ := e'
  exact ⟨_, _, rfl, R, hb⟩
theorem perm_4 (ao : Option Addr) (w : World) (hz : Row .u64 w ao 3 3 [0, 0, 0]) :
    Calls Try.prog 16 #[.agg #[.int .i64 2, .int .u64 0, .int .u64 0, .slice ao 3 3, .int .i64 0], .int .i64 4] w fun e w' => ∃ bo d, e = .returned (.tuple #[.slice bo 4 d, .agg #[.int .i64 2, .int .u64 0, .int .u64 0, .slice ao 3 3, .int .i64 3]]) ∧
      Row .i64 w' bo 4 d [1, 2, 3, 0] ∧ Below w.heap.size w w' := by
  refine (perm_row 2 0 0 0 ao 3 3 [0, 0, 0] 4 (by omega) (by omega) (by omega) (by omega) (by omega) (by omega) w hz).mono ?_
  rintro e w' ⟨bo, d, rfl, R, hb⟩
  rw [show (4 : Nat) - 1 = 3 from rfl] at *
  rw [permN_told] at R
  rw [pN_told.1, pN_told.2]
  exact ⟨bo, d, rfl, R, hb⟩
set_option maxHeartbeats 2000000 in
set_option maxRecDepth 100000 in
theorem ordered_any (w : World) : Calls Try.prog 18 #[] w fun e w' => e = .returned (.bool true) ∧ Below w.heap.size w w' := by
  go_enter Try.func18, Try.ntmps18
  go_wp2_with fail
  refine (four_2 _).mono ?_
  rintro e w1 ⟨rfl, hw1⟩
  go_wp2_with fail
  have T0 : Row .u64 ((w1.alloc (.cells #[.bool true, .bool false, .bool false, .bool true] 22)).alloc (.cells #[.int .u64 0, .int .u64 0, .int .u64 0] 23)) (some ⟨w1.heap.size + 1, 0, none⟩) 3 3 [0, 0, 0] :=
    Row.made' [0, 0, 0] (by simp) rfl rfl (by unfold maxLen; omega) (by decide)
  have A0 : At4 ((w1.alloc (.cells #[.bool true, .bool false, .bool false, .bool true] 22)).alloc (.cells #[.int .u64 0, .int .u64 0, .int .u64 0] 23)) w1.heap.size (.bool true) (.bool false) (.bool false) (.bool true) := (At4.fresh _ _ _ _ _ _).alloc _
  refine (tape_any _ _ _ [0, 0, 0] _ T0).mono ?_
  rintro e w2 ⟨rfl, hw2⟩
  have T := T0.below hw2
  have A := At4.of hw2 A0
  have g2 : Below w.heap.size w w2 := Below.call (by have := hw1.size; go_grown) (by have := hw1.size; simp; omega) hw2
  clear hw2 T0 A0
  go_wp2_with fail
  refine (perm_4 _ _ T).mono ?_
  rintro e w3 ⟨bo, d, rfl, RP, hw3⟩
  have A' := At4.of hw3 A
  have g3 := Below.call g2 g2.size hw3
  have hlt := A'.lt
  clear T A hw3 g2 hw1
  generalize w1.heap.size = x1 at *
  go_wp2_with fail
  refine (rank_0 _).mono ?_
  rintro e w4 ⟨rfl, hw4⟩
  have A := At4.of hw4 (A'.alloc _)
  have U : At5 w4 w3.heap.size (.int .i64 2) (.int .u64 0) (.int .u64 0) (.slice (some ⟨x1 + 1, 0, none⟩) 3 3) (.int .i64 3) := At5.of hw4 (At5.fresh _ _ _ _ _ _ _)
  have R4 := (RP.alloc _).below hw4
  have g4 : Below w.heap.size w w4 := Below.call (by have := g3.size; go_grown) (by have := g3.size; simp; omega) hw4
  clear hw4 g3 RP A' hlt
  generalize w3.heap.size = x3 at *
  have heq := eq4_same true false false true
  obtain ⟨a0, a1, a2, a3, fa, fb, fc, fd, al⟩ := id A
  go_wp2_with fail
  have RM : Row .i64 (w4.alloc (.cells #[.int .i64 1, .int .i64 2, .int .i64 3, .int .i64 0] 3)) (some ⟨w4.heap.size, 0, none⟩) 4 4 [1, 2, 3, 0] := Row.made' _ rfl rfl rfl (by unfold maxLen; omega) (by decide)
  refine (ints_same _ _ 4 _ 4 _ _ (R4.alloc _) RM).mono ?_
  rintro e w5 ⟨rfl, hw5⟩
  have g5 : Below w.heap.size w w5 := Below.call (by have := g4.size; go_grown) (by have := g4.size; simp; omega) hw5
  have U5 := At5.of hw5 (U.alloc _)
  obtain ⟨u0, u1, u2, u3, u4, ua, ub, uc, ud, ue, ul⟩ := id U5
  go_wp2
  go_ret
  exact ⟨rfl, g5⟩
end Go.Proofs.Ytcaledobieopjaa
