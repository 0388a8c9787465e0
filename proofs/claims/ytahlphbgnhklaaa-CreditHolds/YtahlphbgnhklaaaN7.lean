/-
  The chapter's rows hold of the program. No conditions.
-/
import Derived.Test.YtahlphbgnhklaaaN4
namespace Go.Proofs.Ytahlphbgnhklaaa
open Go.RowKit
set_option linter.unusedVariables false

theorem cr_c1 (w : World) : Calls Try.prog 8 #[.int .i64 3000, .int .i64 0] w fun e w' => e = .returned (.tuple #[.agg #[.int .i64 0, .int .i64 3000000000], .int .i64 0]) ∧ Below w.heap.size w w' := new_any 3000 0 (by omega) w
theorem cr_c2 (w : World) : Calls Try.prog 12 #[.int .i64 3000, .agg #[.int .i64 0, .int .i64 3000000000], .int .i64 1500] w fun e w' => e = .returned (.tuple #[.agg #[.int .i64 0, .int .i64 1500000000], .int .i64 0]) ∧ Below w.heap.size w w' := take_any 3000 0 3000000000 1500 (by omega) (by omega) w
theorem cr_c3 (w : World) : Calls Try.prog 12 #[.int .i64 3000, .agg #[.int .i64 0, .int .i64 1500000000], .int .i64 1500] w fun e w' => e = .returned (.tuple #[.agg #[.int .i64 0, .int .i64 0], .int .i64 0]) ∧ Below w.heap.size w w' := take_any 3000 0 1500000000 1500 (by omega) (by omega) w
theorem cr_c4 (w : World) : Calls Try.prog 12 #[.int .i64 3000, .agg #[.int .i64 0, .int .i64 0], .int .i64 1] w fun e w' => e = .returned (.tuple #[.agg #[.int .i64 0, .int .i64 0], .int .i64 13]) ∧ Below w.heap.size w w' := take_any 3000 0 0 1 (by omega) (by omega) w
theorem cr_c5 (w : World) : Calls Try.prog 10 #[.int .i64 3000, .agg #[.int .i64 0, .int .i64 0], .int .i64 1000000, .int .i64 1500] w fun e w' => e = .returned (.tuple #[.agg #[.int .i64 1500, .int .i64 1500000000], .int .i64 0]) ∧ Below w.heap.size w w' := fill_any 3000 0 0 1000000 1500 (by omega) (by omega) w
theorem cr_c6 (w : World) : Calls Try.prog 17 #[.agg #[.int .i64 0, .int .i64 0], .int .i64 1000000, .int .i64 1500] w fun e w' => e = .returned (.int .i64 1500) ∧ Below w.heap.size w w' := wait_any 0 0 1000000 1500 (by omega) (by omega) (by omega) (by omega) w
theorem cr_c7 (w : World) : Calls Try.prog 15 #[.int .i64 3000, .agg #[.int .i64 1500, .int .i64 1500000000]] w fun e w' => e = .returned (.bool true) ∧ Below w.heap.size w w' := is_any 3000 1500 1500000000 (by omega) (by omega) true (isv_iff.2 (by omega)) w
set_option maxHeartbeats 1000000 in
theorem credited_any (w : World) : Calls Try.prog 14 #[] w fun e w' => e = .returned (.bool true) ∧ Below w.heap.size w w' := by
  go_enter Try.func14, Try.ntmps14
  go_wp2_with fail
  refine (cr_c1 _).mono ?_
  rintro e w1 ⟨rfl, hw1⟩
  have hb : Below w.heap.size w w1 := Below.call (by go_grown) (by simp <;> omega) hw1
  clear hw1
  have hs := hb.size
  go_wp2_with fail
  refine (cr_c2 _).mono ?_
  rintro e w2 ⟨rfl, hw2⟩
  have B1 : At2 w2 w1.heap.size (.int .i64 0) (.int .i64 3000000000) := At2.after_fresh' hw2
  replace hb : Below w.heap.size w w2 := Below.call (show Below w.heap.size w _ by have := hb.size; go_grown) (by have := hb.size; simp <;> omega) hw2
  clear hw2
  have hs := hb.size
  obtain ⟨zB10, zB11, zB12, zB13, zB14⟩ := id B1
  go_wp2_with fail
  refine (cr_c3 _).mono ?_
  rintro e w3 ⟨rfl, hw3⟩
  replace B1 := (B1.alloc _).below hw3 (by have := B1.lt; simp <;> omega)
  have B2 : At2 w3 w2.heap.size (.int .i64 0) (.int .i64 1500000000) := At2.after_fresh' hw3
  replace hb : Below w.heap.size w w3 := Below.call (show Below w.heap.size w _ by have := hb.size; go_grown) (by have := hb.size; simp <;> omega) hw3
  clear hw3 zB10 zB11 zB12 zB13 zB14
  have hs := hb.size
  obtain ⟨zB10, zB11, zB12, zB13, zB14⟩ := id B1
  obtain ⟨zB20, zB21, zB22, zB23, zB24⟩ := id B2
  go_wp2_with fail
  refine (cr_c4 _).mono ?_
  rintro e w4 ⟨rfl, hw4⟩
  replace B1 := (B1.alloc _).below hw4 (by have := B1.lt; simp <;> omega)
  replace B2 := (B2.alloc _).below hw4 (by have := B2.lt; simp <;> omega)
  have B3 : At2 w4 w3.heap.size (.int .i64 0) (.int .i64 0) := At2.after_fresh' hw4
  replace hb : Below w.heap.size w w4 := Below.call (show Below w.heap.size w _ by have := hb.size; go_grown) (by have := hb.size; simp <;> omega) hw4
  clear hw4 zB10 zB11 zB12 zB13 zB14 zB20 zB21 zB22 zB23 zB24
  have hs := hb.size
  obtain ⟨zB10, zB11, zB12, zB13, zB14⟩ := id B1
  obtain ⟨zB20, zB21, zB22, zB23, zB24⟩ := id B2
  obtain ⟨zB30, zB31, zB32, zB33, zB34⟩ := id B3
  go_wp2_with fail
  refine (cr_c5 _).mono ?_
  rintro e w5 ⟨rfl, hw5⟩
  replace B1 := (B1.alloc _).below hw5 (by have := B1.lt; simp <;> omega)
  replace B2 := (B2.alloc _).below hw5 (by have := B2.lt; simp <;> omega)
  replace B3 := (B3.alloc _).below hw5 (by have := B3.lt; simp <;> omega)
  have B4 : At2 w5 w4.heap.size (.int .i64 0) (.int .i64 0) := At2.after_fresh' hw5
  replace hb : Below w.heap.size w w5 := Below.call (show Below w.heap.size w _ by have := hb.size; go_grown) (by have := hb.size; simp <;> omega) hw5
  clear hw5 zB10 zB11 zB12 zB13 zB14 zB20 zB21 zB22 zB23 zB24 zB30 zB31 zB32 zB33 zB34
  have hs := hb.size
  obtain ⟨zB10, zB11, zB12, zB13, zB14⟩ := id B1
  obtain ⟨zB20, zB21, zB22, zB23, zB24⟩ := id B2
  obtain ⟨zB30, zB31, zB32, zB33, zB34⟩ := id B3
  obtain ⟨zB40, zB41, zB42, zB43, zB44⟩ := id B4
  go_wp2_with fail
  refine (cr_c6 _).mono ?_
  rintro e w6 ⟨rfl, hw6⟩
  replace B1 := (B1.alloc _).below hw6 (by have := B1.lt; simp <;> omega)
  replace B2 := (B2.alloc _).below hw6 (by have := B2.lt; simp <;> omega)
  replace B3 := (B3.alloc _).below hw6 (by have := B3.lt; simp <;> omega)
  replace B4 := (B4.alloc _).below hw6 (by have := B4.lt; simp <;> omega)
  have B5 : At2 w6 w5.heap.size (.int .i64 1500) (.int .i64 1500000000) := At2.after_fresh' hw6
  replace hb : Below w.heap.size w w6 := Below.call (show Below w.heap.size w _ by have := hb.size; go_grown) (by have := hb.size; simp <;> omega) hw6
  clear hw6 zB10 zB11 zB12 zB13 zB14 zB20 zB21 zB22 zB23 zB24 zB30 zB31 zB32 zB33 zB34 zB40 zB41 zB42 zB43 zB44
  have hs := hb.size
  obtain ⟨zB10, zB11, zB12, zB13, zB14⟩ := id B1
  obtain ⟨zB20, zB21, zB22, zB23, zB24⟩ := id B2
  obtain ⟨zB30, zB31, zB32, zB33, zB34⟩ := id B3
  obtain ⟨zB40, zB41, zB42, zB43, zB44⟩ := id B4
  obtain ⟨zB50, zB51, zB52, zB53, zB54⟩ := id B5
  go_wp2_with fail
  refine (cr_c7 _).mono ?_
  rintro e w7 ⟨rfl, hw7⟩
  replace B1 := (B1).below hw7 (by have := B1.lt; simp <;> omega)
  replace B2 := (B2).below hw7 (by have := B2.lt; simp <;> omega)
  replace B3 := (B3).below hw7 (by have := B3.lt; simp <;> omega)
  replace B4 := (B4).below hw7 (by have := B4.lt; simp <;> omega)
  replace B5 := (B5).below hw7 (by have := B5.lt; simp <;> omega)
  replace hb : Below w.heap.size w w7 := Below.call (show Below w.heap.size w _ by have := hb.size; go_grown) (by have := hb.size; simp <;> omega) hw7
  clear hw7 zB10 zB11 zB12 zB13 zB14 zB20 zB21 zB22 zB23 zB24 zB30 zB31 zB32 zB33 zB34 zB40 zB41 zB42 zB43 zB44 zB50 zB51 zB52 zB53 zB54
  have hs := hb.size
  obtain ⟨zB10, zB11, zB12, zB13, zB14⟩ := id B1
  obtain ⟨zB20, zB21, zB22, zB23, zB24⟩ := id B2
  obtain ⟨zB30, zB31, zB32, zB33, zB34⟩ := id B3
  obtain ⟨zB40, zB41, zB42, zB43, zB44⟩ := id B4
  obtain ⟨zB50, zB51, zB52, zB53, zB54⟩ := id B5
  go_wp2
  go_ret
  exact ⟨rfl, by go_grown⟩
end Go.Proofs.Ytahlphbgnhklaaa
