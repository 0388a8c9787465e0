/-
  Seeds and tapes, the program's and the document's; a tape that is too long. No conditions but the numbers' own ranges.
-/
import Derived.Test.YtfpchofihofojaaQ6
import Derived.Test.YtfpchofihofojaaQ7
namespace Go.Proofs.Ytfpchofihofojaa
open Go.RowKit
set_option linter.unusedVariables false
def incv (t : Int) : Int := (2 * t + 1) % 18446744073709551616
def seedv (s t : Int) : Int := (6364136223846793005 * ((incv t + s) % 18446744073709551616) + incv t) % 18446744073709551616
theorem incv_bd (t : Int) : 0 ≤ incv t ∧ incv t ≤ 18446744073709551615 := by unfold incv; omega
theorem incv_wrap (t : Int) : IntKind.u64.wrap (IntKind.u64.wrap (2 * t) + 1) = incv t := by rw [IntKind.wrap_u64, IntKind.wrap_u64]; unfold incv; omega
theorem lcg_0 (t : Int) : (6364136223846793005 * 0 + incv t) % 18446744073709551616 = incv t := by have := incv_bd t; omega
theorem row_nil (k : IntKind) (w : World) : Row k w none 0 0 [] := ⟨rfl, Nat.le_refl _, by unfold maxLen; omega, fun _ => rfl, fun x h => (List.not_mem_nil h).elim, fun h => absurd h (Nat.lt_irrefl _)⟩

set_option maxHeartbeats 1600000 in
set_option maxRecDepth 100000 in
theorem pcg_any (s t : Int) (s0 : 0 ≤ s) (s1 : s ≤ 18446744073709551615) (t0 : 0 ≤ t) (t1 : t ≤ 18446744073709551615) (w : World) :
    Calls Try.prog 13 #[.int .u64 s, .int .u64 t] w fun e w' => e = .returned (.agg #[.int .i64 1, .int .u64 (seedv s t), .int .u64 (incv t), .slice none 0 0, .int .i64 0]) ∧ Below w.heap.size w w' := by
  obtain ⟨b0, b1⟩ := incv_bd t
  have e1 := incv_wrap t
  have C1 := fun w => next_pcg 0 (incv t) 0 none 0 0 (by omega) (by omega) b0 b1 w
  rw [lcg_0] at C1
  have C2 := fun s h0 h1 w => next_pcg s (incv t) 0 none 0 0 h0 h1 b0 b1 w
  unfold seedv
  generalize incv t = q at *
  have D2 := fun w => C2 ((q + s) % 18446744073709551616) (by omega) (by omega) w
  have e2 : IntKind.u64.wrap (q + s) = (q + s) % 18446744073709551616 := by rw [IntKind.wrap_u64]
  clear C2
  generalize (6364136223846793005 * ((q + s) % 18446744073709551616) + q) % 18446744073709551616 = V at *
  generalize (q + s) % 18446744073709551616 = U at *
  go_enter Try.func13, Try.ntmps13
  go_wp2_with fail
  refine (C1 _).mono ?_
  rintro e w1 ⟨rfl, hw1⟩
  have g1 : Below w.heap.size w w1 := Below.call (by go_grown) (by simp) hw1
  have Z : At5 w1 w.heap.size (.int .i64 0) (.int .u64 0) (.int .u64 0) (.slice none 0 0) (.int .i64 0) := At5.of hw1 (by constructor <;> simp [go_sem])
  clear hw1
  obtain ⟨z0, z1, z2, z3, z4, za, zb, zc, zd, ze, zl⟩ := id Z
  go_wp2_with fail
  refine (D2 _).mono ?_
  rintro e w2 ⟨rfl, hw2⟩
  have hne : w1.heap.size ≠ w.heap.size := by omega
  have g2 : Below w.heap.size w w2 := Below.call (by have := g1.size; go_grown) (by simp; omega) hw2
  have Z2 : At5 w2 w.heap.size (.int .i64 0) (.int .u64 0) (.int .u64 0) (.slice none 0 0) (.int .i64 0) := At5.of hw2 (Z.alloc _)
  have T : At5 w2 w1.heap.size (.int .i64 1) (.int .u64 U) (.int .u64 q) (.slice none 0 0) (.int .i64 0) := At5.of hw2 (At5.fresh w1 _ _ _ _ _ _)
  have hq : w.heap.size ≤ w1.heap.size := g1.size
  clear hw2 Z z0 z1 z2 z3 z4 za zb zc zd ze zl g1
  generalize w1.heap.size = b at *
  obtain ⟨z0, z1, z2, z3, z4, za, zb, zc, zd, ze, zl⟩ := id Z2
  obtain ⟨y0, y1, y2, y3, y4, ya, yb, yc, yd, ye, yl⟩ := id T
  obtain ⟨r0, r1, r2, r3, r4⟩ := T.outs (.int .i64 1) (.int .u64 (V)) (.int .u64 q) (.slice none 0 0) (.int .i64 0)
  obtain ⟨u0, u1, u2, u3, u4⟩ := (Z2.others hne (.int .i64 1) (.int .u64 (V)) (.int .u64 q) (.slice none 0 0) (.int .i64 0)).outs (.int .i64 1) (.int .u64 (V)) (.int .u64 q) (.slice none 0 0) (.int .i64 0)
  have hne' : w.heap.size ≠ b := fun e => hne e.symm
  go_wp2_with (exact bodyPost_ret (v := .agg #[.int .i64 1, .int .u64 V, .int .u64 q, .slice none 0 0, .int .i64 0]) (by simp [results, Try.results13, go_sem, u0, u1, u2, u3, u4]) rfl ⟨rfl, by go_grown⟩)
set_option maxHeartbeats 1600000 in
set_option maxRecDepth 100000 in
theorem refPcg_any (s t : Int) (s0 : 0 ≤ s) (s1 : s ≤ 18446744073709551615) (t0 : 0 ≤ t) (t1 : t ≤ 18446744073709551615) (w : World) :
    Calls Try.prog 14 #[.int .u64 s, .int .u64 t] w fun e w' => e = .returned (.agg #[.int .i64 1, .int .u64 (seedv s t), .int .u64 (incv t), .slice none 0 0, .int .i64 0]) ∧ Below w.heap.size w w' := by
  obtain ⟨b0, b1⟩ := incv_bd t
  have e1 := incv_wrap t
  have C1 := fun w => step_any 1 0 (incv t) 0 none 0 0 w
  rw [lcg_0] at C1
  have C2 := fun s w => step_any 1 s (incv t) 0 none 0 0 w
  unfold seedv
  generalize incv t = q at *
  have e2 : IntKind.u64.wrap (q + s) = (q + s) % 18446744073709551616 := by rw [IntKind.wrap_u64]
  go_enter Try.func14, Try.ntmps14
  go_wp2_with fail
  refine (C1 _).mono ?_
  rintro e w1 ⟨rfl, hw1⟩
  have g1 : Below w.heap.size w w1 := Below.call (by go_grown) (by simp; omega) hw1
  have Z : At5 w1 w.heap.size (.int .i64 0) (.int .u64 0) (.int .u64 0) (.slice none 0 0) (.int .i64 0) := At5.of hw1 (by constructor <;> simp [go_sem])
  have T : At5 w1 (w.heap.size + 1) (.int .i64 1) (.int .u64 0) (.int .u64 q) (.slice none 0 0) (.int .i64 0) := At5.of hw1 (by constructor <;> simp [go_sem])
  clear hw1
  obtain ⟨z0, z1, z2, z3, z4, za, zb, zc, zd, ze, zl⟩ := id Z
  obtain ⟨y0, y1, y2, y3, y4, ya, yb, yc, yd, ye, yl⟩ := id T
  obtain ⟨r0, r1, r2, r3, r4⟩ := T.outs (.int .i64 1) (.int .u64 q) (.int .u64 q) (.slice none 0 0) (.int .i64 0)
  go_wp2_with fail
  refine (C2 ((q + s) % 18446744073709551616) _).mono ?_
  rintro e w2 ⟨rfl, hw2⟩
  have Z2 : At5 w2 w.heap.size (.int .i64 0) (.int .u64 0) (.int .u64 0) (.slice none 0 0) (.int .i64 0) := At5.of hw2 ((Z.others (by omega) _ _ _ _ _).other (by simp) _)
  have g2 : Below w.heap.size w w2 := Below.call (by go_grown) (by have := g1.size; simp [World.size_setCell]; omega) hw2
  clear hw2 Z T z0 z1 z2 z3 z4 za zb zc zd ze zl g1 y0 y1 y2 y3 y4 ya yb yc yd ye yl r0 r1 r2 r3 r4
  obtain ⟨z0, z1, z2, z3, z4, za, zb, zc, zd, ze, zl⟩ := id Z2
  obtain ⟨u0, u1, u2, u3, u4⟩ := Z2.outs (.int .i64 1) (.int .u64 ((6364136223846793005 * ((q + s) % 18446744073709551616) + q) % 18446744073709551616)) (.int .u64 q) (.slice none 0 0) (.int .i64 0)
  go_wp2
  exact bodyPost_ret (v := .agg #[.int .i64 1, .int .u64 ((6364136223846793005 * ((q + s) % 18446744073709551616) + q) % 18446744073709551616), .int .u64 q, .slice none 0 0, .int .i64 0]) (by simp [results, Try.results14, go_sem, u0, u1, u2, u3, u4]) rfl ⟨rfl, by go_grown⟩
set_option maxHeartbeats 1600000 in
set_option maxRecDepth 100000 in
theorem tape_any (ao : Option Addr) (n c : Nat) (zs : List Int) (w : World) (hz : Row .u64 w ao n c zs) :
    Calls Try.prog 15 #[.slice ao n c] w fun e w' => e = .returned (.agg #[.int .i64 2, .int .u64 0, .int .u64 0, .slice ao n n, .int .i64 0]) ∧ Below w.heap.size w w' := by
  have hc := hz.cap
  go_enter Try.func15, Try.ntmps15
  go_wp2
  go_returns
  exact ⟨rfl, by go_grown⟩
set_option maxHeartbeats 1600000 in
set_option maxRecDepth 100000 in
theorem refTape_any (ao : Option Addr) (n c : Nat) (w : World) :
    Calls Try.prog 16 #[.slice ao n c] w fun e w' => e = .returned (.agg #[.int .i64 2, .int .u64 0, .int .u64 0, .slice ao n c, .int .i64 0]) ∧ Below w.heap.size w w' := by
  go_enter Try.func16, Try.ntmps16
  go_wp2
  go_returns
  exact ⟨rfl, by go_grown⟩
set_option maxHeartbeats 1600000 in
set_option maxRecDepth 100000 in
theorem big_any (k s i p : Int) (ao : Option Addr) (n c : Nat) (w : World) :
    Calls Try.prog 8 #[.agg #[.int .i64 k, .int .u64 s, .int .u64 i, .slice ao n c, .int .i64 p]] w fun e w' => e = .returned (.bool (decide (2000 < (n : Int)))) ∧ Below w.heap.size w w' := by
  go_enter Try.func8, Try.ntmps8
  go_wp2
  go_ret
  exact ⟨rfl, by go_grown⟩
end Go.Proofs.Ytfpchofihofojaa
