/-
  The statements' own example; two arrays of eight that are the same. No conditions.
-/
import Derived.Test.YtmiljpfljnjkpaaJ8
import Derived.Test.YtmiljpfljnjkpaaJ4
import Derived.ChangeKeysEq
namespace Go.Proofs.Ytmiljpfljnjkpaa
open Go.RowKit
set_option linter.unusedVariables false
theorem info_int : ∃ i, Try.prog.info? 3 = some i := by
  cases h : Try.prog.info? 3 with
  | none => exact absurd h (by intro h; have : (Try.prog.info? 3).isSome = true := by kernel_rfl
                               rw [h] at this; cases this)
  | some i => exact ⟨i, rfl⟩
theorem cells_int : Try.prog.cellsOf 3 = 1 := by kernel_rfl
theorem part_int (xs : Array Value) (i : Nat) (b : Int) (w : World) (h : xs[i]? = some (.int .i64 b)) : (part 3 xs i).run Try.prog w = .ok (.int .i64 b) w := by
  simp [part, isAgg, run_underlying Try.underlying3, h]
theorem eq8_same (x0 x1 x2 x3 x4 x5 x6 x7 : Int) (w : World) : (Op.equalIn 10000 33 (.agg #[.int .i64 x0, .int .i64 x1, .int .i64 x2, .int .i64 x3, .int .i64 x4, .int .i64 x5, .int .i64 x6, .int .i64 x7]) (.agg #[.int .i64 x0, .int .i64 x1, .int .i64 x2, .int .i64 x3, .int .i64 x4, .int .i64 x5, .int .i64 x6, .int .i64 x7])).run Try.prog w = .ok true w := by
  obtain ⟨i, hi⟩ := info_int
  rw [run_equalIn_array w 9999 _ _ Try.underlying33 hi, cells_int]
  show (Op.eqItems 9999 3 1 _ _ [0, 1, 2, 3, 4, 5, 6, 7]).run Try.prog w = _
  have e := fun a b w => run_equalIn_int (P := Try.prog) w 9998 3 .i64 .i64 a b Try.underlying3
  generalize hA : (#[.int .i64 x0, .int .i64 x1, .int .i64 x2, .int .i64 x3, .int .i64 x4, .int .i64 x5, .int .i64 x6, .int .i64 x7] : Array Value) = A
  have p0 := fun w => part_int A 0 x0 w (by rw [← hA]; rfl)
  have p1 := fun w => part_int A 1 x1 w (by rw [← hA]; rfl)
  have p2 := fun w => part_int A 2 x2 w (by rw [← hA]; rfl)
  have p3 := fun w => part_int A 3 x3 w (by rw [← hA]; rfl)
  have p4 := fun w => part_int A 4 x4 w (by rw [← hA]; rfl)
  have p5 := fun w => part_int A 5 x5 w (by rw [← hA]; rfl)
  have p6 := fun w => part_int A 6 x6 w (by rw [← hA]; rfl)
  have p7 := fun w => part_int A 7 x7 w (by rw [← hA]; rfl)
  simp only [Op.eqItems, Sem.run_bind, Nat.mul_one, p0, p1, p2, p3, p4, p5, p6, p7, Result.andThen_ok, e, beq_self_eq_true, Bool.not_true, Bool.false_eq_true, if_false]
  rfl
theorem eqv_same (f : Nat → Stp) (n : Nat) (w : World) : (Op.equalIn 10000 33 (cnv f n) (cnv f n)).run Try.prog w = .ok true w := eq8_same _ _ _ _ _ _ _ _ w
/-- Rows out of literals. -/
theorem Ops.lit1 (w : World) (x : Stp) (t : TypeId) : Ops (w.alloc (.cells #[.int .i64 x.k, .int .i64 x.h, .int .i64 x.v] t)) (some ⟨w.heap.size, 0, none⟩) 1 1 (fun _ => x) := by
  refine ⟨Nat.le_refl _, by unfold maxLen; omega, fun _ => ⟨w.heap.size, 0, rfl, by simp, fun i hi => ?_⟩⟩
  obtain rfl : i = 0 := by omega
  refine ⟨?_, ?_, ?_⟩ <;> simp [go_sem]
theorem Ops.lit2 (w : World) (x y : Stp) (t : TypeId) : Ops (w.alloc (.cells #[.int .i64 x.k, .int .i64 x.h, .int .i64 x.v, .int .i64 y.k, .int .i64 y.h, .int .i64 y.v] t)) (some ⟨w.heap.size, 0, none⟩) 2 2 (fun i => if i = 0 then x else y) := by
  refine ⟨Nat.le_refl _, by unfold maxLen; omega, fun _ => ⟨w.heap.size, 0, rfl, by simp, fun i hi => ?_⟩⟩
  rcases (by omega : i = 0 ∨ i = 1) with rfl | rfl
  · refine ⟨?_, ?_, ?_⟩ <;> simp [go_sem]
  · refine ⟨?_, ?_, ?_⟩ <;> simp [go_sem]
def exs : ByteArray := { data := #[9, 5, 7, 16] }
def exf : Nat → Stp := fun i => if i = 0 then ⟨1, 1, 7⟩ else ⟨0, 0, 0⟩
theorem ex_steps : ∀ i, i < 2 → dc 2 exs i = exf i := fun i hi => by
  rcases (by omega : i = 0 ∨ i = 1) with rfl | rfl
  · rfl
  · rfl
theorem ex_decode (w : World) : Calls Try.prog 10 #[.int .i64 2, .string { data := #[9, 5, 7, 16] }] w fun e w' => (∃ ao c, e = .returned (.slice ao 2 c) ∧ Ops w' ao 2 c exf) ∧ Below w.heap.size w w' := by
  refine (decode_any 2 exs (by decide) w).mono ?_
  rintro e w' ⟨⟨ao, c, he, own⟩, hw⟩
  have h2 : dn exs = 2 := rfl
  rw [h2] at he own
  exact ⟨⟨ao, c, he, (Ops.own own).ext ex_steps⟩, hw⟩
theorem ex_encode (w : World) (b : Nat) (E : Ops w (some ⟨b, 0, none⟩) 1 1 (fun _ => ⟨8, 0, 0⟩)) : Calls Try.prog 7 #[.slice (some ⟨b, 0, none⟩) 1 1] w fun e w' => e = .returned (.tuple #[.string { data := #[] }, .int .i64 1]) ∧ Below w.heap.size w w' :=
  encode_any (some ⟨b, 0, none⟩) 1 1 0 (fun _ => ⟨8, 0, 0⟩) (by omega) (by omega) (fun j h => by omega) (fun _ => rfl) w E
theorem ex_count (w : World) (ao : Option Addr) (c : Nat) (E : Ops w ao 2 c exf) : Calls Try.prog 19 #[.slice ao 2 c] w fun e w' => e = .returned (.agg #[.int .i64 1, .int .i64 1, .int .i64 0, .int .i64 0, .int .i64 0, .int .i64 0, .int .i64 0, .int .i64 0]) ∧ Below w.heap.size w w' :=
  count_any ao 2 c exf (by omega) w E
set_option maxHeartbeats 4000000 in
set_option maxRecDepth 100000 in
theorem scripted_any (w : World) : Calls Try.prog 14 #[] w fun e w' => e = .returned (.bool true) ∧ Below w.heap.size w w' := by
  have SP : ∀ w, Calls Try.prog 15 #[.agg #[.int .i64 0, .int .i64 0, .int .i64 9]] w fun e w' => e = .returned (.int .i64 100) ∧ Below w.heap.size w w' := fun w => span_any ⟨0, 0, 9⟩ w
  have SZ : ∀ w, Calls Try.prog 17 #[.agg #[.int .i64 1, .int .i64 0, .int .i64 255]] w fun e w' => e = .returned (.int .i64 8989) ∧ Below w.heap.size w w' := fun w => size_any ⟨1, 0, 255⟩ w
  have EQ := fun w => eq8_same 1 1 0 0 0 0 0 0 w
  go_enter Try.func14, Try.ntmps14
  go_wp2_with fail
  refine (ex_decode _).mono ?_
  rintro e w1 ⟨⟨ao, c, rfl, E1⟩, hB⟩
  go_wp2_with fail
  refine (ex_encode _ _ (Ops.lit1 w1 ⟨8, 0, 0⟩ _)).mono ?_
  rintro e w2 ⟨rfl, hw2⟩
  have E2 := (E1.alloc (.cells #[.int .i64 8, .int .i64 0, .int .i64 0] 24)).below hw2
  have hs1 := hB.size
  replace hB : Below w.heap.size w w2 := Below.call (show Below w.heap.size w _ by go_grown) (by simp; omega) hw2
  clear hw2 E1
  have hs2 := hB.size
  go_wp2_with fail
  have L := Ops.lit2 w2 ⟨1, 1, 7⟩ ⟨0, 0, 0⟩ 24
  have E3 := E2.alloc (.cells #[.int .i64 1, .int .i64 1, .int .i64 7, .int .i64 0, .int .i64 0, .int .i64 0] 24)
  refine (same_any ao _ 2 c 2 exf _ E3 L).mono ?_
  rintro e w3 ⟨rfl, hw3⟩
  replace E3 := E3.below hw3
  replace hB : Below w.heap.size w w3 := Below.call (show Below w.heap.size w _ by go_grown) (by simp; omega) hw3
  clear hw3 E2 L
  go_wp2_with fail
  refine (SP _).mono ?_
  rintro e w4 ⟨rfl, hw4⟩
  replace E3 := E3.below hw4
  replace hB := Below.call hB hB.size hw4
  clear hw4
  go_wp2_with fail
  refine (SZ _).mono ?_
  rintro e w5 ⟨rfl, hw5⟩
  replace E3 := E3.below hw5
  replace hB := Below.call hB hB.size hw5
  clear hw5
  go_wp2_with fail
  refine (ex_count _ ao c E3).mono ?_
  rintro e w6 ⟨rfl, hw6⟩
  replace hB := Below.call hB hB.size hw6
  clear hw6 E3
  go_wp2_with fail
  go_ret
  exact ⟨rfl, hB⟩
end Go.Proofs.Ytmiljpfljnjkpaa
