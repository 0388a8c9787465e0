/-
  The document's rows of draws are told. No conditions.
-/
import Derived.Test.YtfpchofihofojaaQ11
namespace Go.Proofs.Ytfpchofihofojaa
open Go.RowKit
set_option linter.unusedVariables false
theorem Row.made (k : IntKind) (w : World) (zs : List Int) (t : TypeId) (hm : zs.length ≤ maxLen) (hw : ∀ x ∈ zs, (Lit.int k x).wf = true) :
    Row k (w.alloc (.cells (zs.map (Value.int k)).toArray t)) (some ⟨w.heap.size, 0, none⟩) zs.length zs.length zs := by
  refine ⟨rfl, Nat.le_refl _, hm, fun h => by simp at h, hw, fun _ => ⟨w.heap.size, 0, rfl, fun i hi => ?_⟩⟩
  simp [go_sem, hi, List.getD]
theorem Row.made' {k : IntKind} {w : World} {b n : Nat} {cs : Array Value} (zs : List Int) {t : TypeId} (hb : b = w.heap.size) (hc : cs = (zs.map (Value.int k)).toArray) (hn : zs.length = n) (hm : n ≤ maxLen) (hw : ∀ x ∈ zs, (Lit.int k x).wf = true) :
    Row k (w.alloc (.cells cs t)) (some ⟨b, 0, none⟩) n n zs := by
  subst hb hc hn; exact Row.made k w zs t hm hw
theorem Row.alloc2 {k : IntKind} {w : World} {ao : Option Addr} {n c : Nat} {zs : List Int} (h : Row k w ao n c zs) (o o' : Obj) : Row k ((w.alloc o).alloc o') ao n c zs :=
  h.below (((Below.refl _ _).alloc (Nat.le_refl _) o).alloc (by simp) o')
theorem Row.alloc {k : IntKind} {w : World} {ao : Option Addr} {n c : Nat} {zs : List Int} (h : Row k w ao n c zs) (o : Obj) : Row k (w.alloc o) ao n c zs := h.below ((Below.refl _ _).alloc (Nat.le_refl _) o)
theorem wf_small {x : Int} (h : 0 ≤ x ∧ x ≤ 9223372036854775807) : (Lit.int .i64 x).wf = true := WalkArith.wf_i64 (by omega)
theorem told_pcg : dN 1 (seedv 42 54) (incv 54) 0 [] 6 = [2707161783, 2068313097, 3122475824, 2211639955, 3215226955, 3421331566] := by decide +kernel
theorem told_tape : dN 2 0 0 0 [7, 4294967297] 3 = [7, 1, 0] := by decide +kernel
theorem seedv_bd (s t : Int) : 0 ≤ seedv s t ∧ seedv s t ≤ 18446744073709551615 := by unfold seedv; omega
theorem many_six (w : World) : Calls Try.prog 17 #[.agg #[.int .i64 1, .int .u64 (seedv 42 54), .int .u64 (incv 54), .slice none 0 0, .int .i64 0], .int .i64 6] w fun e w' => ∃ bo d u, e = .returned (.tuple #[.slice bo 6 d, .agg #[.int .i64 1, .int .u64 u, .int .u64 (incv 54), .slice none 0 0, .int .i64 0]]) ∧
      Row .i64 w' bo 6 d [2707161783, 2068313097, 3122475824, 2211639955, 3215226955, 3421331566] ∧ Below w.heap.size w w' := by
  refine (many_any 1 (seedv 42 54) (incv 54) 0 6 none 0 0 [] (seedv_bd _ _).1 (seedv_bd _ _).2 (incv_bd _).1 (incv_bd _).2 w (row_nil _ _)).mono ?_
  rintro e w' ⟨bo, d, rfl, R, hb⟩
  have e6 : manyN 6 = 6 := rfl
  rw [e6] at R ⊢
  rw [told_pcg] at R
  have ep : pN 1 0 [] 6 = 0 := by decide +kernel
  rw [ep]
  exact ⟨bo, d, _, rfl, R, hb⟩
theorem many_three (w : World) (ao : Option Addr) (hz : Row .u64 w ao 2 2 [7, 4294967297]) : Calls Try.prog 17 #[.agg #[.int .i64 2, .int .u64 0, .int .u64 0, .slice ao 2 2, .int .i64 0], .int .i64 3] w fun e w' => ∃ bo d u, e = .returned (.tuple #[.slice bo 3 d, .agg #[.int .i64 2, .int .u64 0, .int .u64 0, .slice ao 2 2, .int .i64 u]]) ∧
      Row .i64 w' bo 3 d [7, 1, 0] ∧ Below w.heap.size w w' := by
  refine (many_any 2 0 0 0 3 ao 2 2 [7, 4294967297] (by omega) (by omega) (by omega) (by omega) w hz).mono ?_
  rintro e w' ⟨bo, d, rfl, R, hb⟩
  have e3 : manyN 3 = 3 := rfl
  rw [e3] at R ⊢
  rw [told_tape] at R
  have es : sN 2 0 0 3 = 0 := by decide +kernel
  rw [es]
  exact ⟨bo, d, _, rfl, R, hb⟩
set_option maxHeartbeats 1000000 in
set_option maxRecDepth 100000 in
theorem drawn_any (w : World) : Calls Try.prog 11 #[] w fun e w' => e = .returned (.bool true) ∧ Below w.heap.size w w' := by
  have P := fun w => pcg_any 42 54 (by omega) (by omega) (by omega) (by omega) w
  have M6 := many_six
  generalize seedv 42 54 = q at *
  generalize incv 54 = i at *
  go_enter Try.func11, Try.ntmps11
  go_wp2_with fail
  refine (P _).mono ?_
  rintro e w1 ⟨rfl, hw1⟩
  go_wp2_with fail
  refine (M6 _).mono ?_
  rintro e w2 ⟨bo, d, u, rfl, R6, hw2⟩
  have g2 := Below.call hw1 hw1.size hw2
  clear P M6 hw2 hw1
  go_wp2_with fail
  have T0 : Row .u64 ((w2.alloc (.cells #[.int .i64 1, .int .u64 u, .int .u64 i, .slice none 0 0, .int .i64 0] 25)).alloc (.cells #[.int .u64 7, .int .u64 4294967297] 22)) (some ⟨w2.heap.size + 1, 0, none⟩) 2 2 [7, 4294967297] :=
    Row.made' [7, 4294967297] (by simp) rfl rfl (by unfold maxLen; omega) (by decide)
  refine (tape_any _ _ _ [7, 4294967297] _ T0).mono ?_
  rintro e w3 ⟨rfl, hw3⟩
  have R6a := (R6.alloc2 _ _).below hw3
  have T := T0.below hw3
  have g3 : Below w.heap.size w w3 := Below.call (by have := g2.size; go_grown) (by have := g2.size; simp; omega) hw3
  clear hw3 R6 T0
  go_wp2_with fail
  refine (many_three _ _ T).mono ?_
  rintro e w4 ⟨bo2, d2, u2, rfl, R3, hw4⟩
  have g4 := Below.call g3 g3.size hw4
  have R6b := R6a.below hw4
  clear R6a T hw4 g3 g2
  go_wp2_with fail
  refine (ints_same _ _ 6 _ 6 _ _ (R6b.alloc2 _ _) (Row.made' _ (by simp) rfl rfl (by unfold maxLen; omega) (by decide))).mono ?_
  rintro e w5 ⟨rfl, hw5⟩
  have R3a := (R3.alloc2 _ _).below hw5
  have g5 : Below w.heap.size w w5 := Below.call (by have := g4.size; go_grown) (by have := g4.size; simp; omega) hw5
  clear hw5 R6b R3 g4
  go_wp2_with fail
  refine (ints_same _ _ 3 _ 3 _ _ (R3a.alloc _) (Row.made' _ (by simp) rfl rfl (by unfold maxLen; omega) (by decide))).mono ?_
  rintro e w6 ⟨rfl, hw6⟩
  have g6 : Below w.heap.size w w6 := Below.call (by have := g5.size; go_grown) (by have := g5.size; simp; omega) hw6
  go_wp2
  go_ret
  exact ⟨rfl, g6⟩
end Go.Proofs.Ytfpchofihofojaa
