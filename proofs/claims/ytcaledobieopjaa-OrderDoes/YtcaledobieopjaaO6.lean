/-
  The program's row of the numbers 0 to n less 1. No conditions but the number's own range.
-/
import Derived.Test.YtcaledobieopjaaO1
import Derived.Test.YtcaledobieopjaaQ10
import Derived.Test.YtcaledobieopjaaQ12
import Derived.OwnWalk
namespace Go.Proofs.Ytcaledobieopjaa
open Go.RowKit
set_option linter.unusedVariables false
/-- 0 to j less 1, and zeros behind. -/
def fillN (n j : Nat) : List Int := (List.range n).map (fun v : Nat => if v < j then (v : Int) else 0)
theorem fillN_length (n j : Nat) : (fillN n j).length = n := by simp [fillN]
theorem fillN_zero (n : Nat) : (fillN n 0) = List.replicate n 0 := by
  apply List.ext_getElem <;> simp [fillN]
theorem fillN_full (n : Nat) : fillN n n = countup n := by
  unfold fillN countup
  apply List.map_congr_left
  intro v hv
  rw [if_pos (List.mem_range.1 hv)]
theorem fillN_succ {n j : Nat} (h : j < n) : (fillN n j).set j j = fillN n (j + 1) := by
  apply List.ext_getElem
  · simp [fillN]
  · intro i h1 h2
    rw [List.getElem_set]
    simp [fillN] at *
    split
    · rename_i e; subst e; simp
    · rename_i e
      by_cases hi : i < j
      · simp [hi, show i < j + 1 by omega]
      · simp [hi, show ¬ i < j + 1 by omega]
theorem made_zeros (n : Nat) : (madeCells (Value.cells (.int .i64 0)) (n * 1)).toList = (fillN n 0).map (Value.int .i64) := by
  rw [fillN_zero]
  simp only [madeCells, Value.cells, Nat.mul_one]
  apply List.ext_getElem
  · simp
  · intro i h1 h2
    simp [Nat.mod_one]
theorem map_set_int (L : List Int) (j : Nat) (x : Int) : (L.map (Value.int .i64)).set j (.int .i64 x) = (L.set j x).map (Value.int .i64) := by
  rw [List.map_set]
theorem own_cell {w : World} {base : Nat} {e : TypeId} {g n c : Nat} {L : List Int} (h : w.ownsRow base e 1 (.slice (some ⟨g, 0, none⟩) n c) n (L.map (Value.int .i64))) {j : Nat} (hj : j < n) : w.cell? ⟨g, j, none⟩ = some (.int .i64 (L.getD j 0)) := by
  have hl : L.length = n := by have := h.1; simpa using this
  rw [h.cellAt j (by omega)]
  simp [List.getD, show j < L.length by omega]
set_option maxHeartbeats 2000000 in
set_option maxRecDepth 100000 in
theorem inOrder_any (n : Nat) (h : n ≤ 64) (w : World) : Calls Try.prog 28 #[.int .i64 n] w fun e w' => e = .returned (.slice (some ⟨w.heap.size, 0, none⟩) n n) ∧
    w'.ownsRow w.heap.size 3 1 (.slice (some ⟨w.heap.size, 0, none⟩) n n) n ((countup n).map (Value.int .i64)) ∧ Below w.heap.size w w' := by
  obtain ⟨i9, hi, hz0, hz1, hz2⟩ := info_parts info_int
  go_enter Try.func28, Try.ntmps28
  go_wp2_with (at_make; refine wpList_make_full _ rfl (.tmp 5) (.tmp 5) 38 rfl w.heap.size 3 i9 (.int .i64 0) 1 Try.underlying38 hi hz0 hz1 .i64 .i64 n n n rfl rfl rfl rfl (by rw [hz2]; omega) (by unfold maxLen; omega) (Nat.le_refl _) ?_; intro w1 own1 gr1)
  have own1' : w1.ownsRow w.heap.size 3 1 (.slice (some ⟨w.heap.size, 0, none⟩) n n) n ((fillN n 0).map (Value.int .i64)) := by rw [← made_zeros]; exact own1
  have g1 : Below w.heap.size w w1 := Below.grown (Below.refl _ _) gr1 (Nat.le_refl _) (by simp)
  clear own1 gr1
  go_wp2
  go_loopw [9] (fun i' wr => ∃ j : Nat, j ≤ n ∧ i' = .int .i64 j ∧ wr.ownsRow w.heap.size 3 1 (.slice (some ⟨w.heap.size, 0, none⟩) n n) n ((fillN n j).map (Value.int .i64)) ∧ Below w.heap.size w wr) (fun i' _ => n - (intOf i').toNat)
  case atStart => exact ⟨0, Nat.zero_le _, rfl, own1', g1⟩
  case round =>
    obtain ⟨j, hj, rfl, own, hb⟩ := hrel
    clear own1' g1
    by_cases hlt : j < n
    · have hc := own_cell own hlt
      have hf := own.frozenAt j
      have own2 := (own.stored j (.int .i64 j)).1
      rw [map_set_int, fillN_succ hlt] at own2
      go_wp2
      go_roundw
      case rel => exact ⟨j + 1, by omega, by go_num, own2, by go_grown⟩
      case measure => simp [intOf]; omega
    · obtain rfl : j = n := by omega
      rw [fillN_full] at own
      go_wp2
      go_ret
      exact ⟨rfl, own, hb⟩
end Go.Proofs.Ytcaledobieopjaa
