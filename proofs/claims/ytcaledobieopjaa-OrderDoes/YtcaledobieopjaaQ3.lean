/-
  The program's Next: any source's draw, and the source behind it. No conditions but the numbers' own ranges.
-/
import Derived.Test.YtcaledobieopjaaQ2
namespace Go.Proofs.Ytcaledobieopjaa
open Go.RowKit
set_option linter.unusedVariables false
set_option maxHeartbeats 800000 in
set_option maxRecDepth 100000 in
theorem which_pcg (s i p : Int) (ao : Option Addr) (n c : Nat) (w : World) :
    Calls Try.prog 29 #[.agg #[.int .i64 1, .int .u64 s, .int .u64 i, .slice ao n c, .int .i64 p]] w fun e w' => e = .returned (.iface 61 (.agg #[.int .i64 1, .int .u64 s, .int .u64 i, .slice ao n c, .int .i64 p])) ∧ Below w.heap.size w w' := by
  go_enter Try.func29, Try.ntmps29
  go_wp2
  go_ret
  exact ⟨rfl, by go_grown⟩
set_option maxHeartbeats 800000 in
set_option maxRecDepth 100000 in
theorem which_tape (s i p : Int) (ao : Option Addr) (n c : Nat) (w : World) :
    Calls Try.prog 29 #[.agg #[.int .i64 2, .int .u64 s, .int .u64 i, .slice ao n c, .int .i64 p]] w fun e w' => e = .returned (.iface 62 (.agg #[.int .i64 2, .int .u64 s, .int .u64 i, .slice ao n c, .int .i64 p])) ∧ Below w.heap.size w w' := by
  go_enter Try.func29, Try.ntmps29
  go_wp2
  go_ret
  exact ⟨rfl, by go_grown⟩
set_option maxHeartbeats 800000 in
set_option maxRecDepth 100000 in
theorem which_dry (k s i p : Int) (ao : Option Addr) (n c : Nat) (h1 : k ≠ 1) (h2 : k ≠ 2) (w : World) :
    Calls Try.prog 29 #[.agg #[.int .i64 k, .int .u64 s, .int .u64 i, .slice ao n c, .int .i64 p]] w fun e w' => e = .returned (.iface 63 (.agg #[.int .i64 k, .int .u64 s, .int .u64 i, .slice ao n c, .int .i64 p])) ∧ Below w.heap.size w w' := by
  go_enter Try.func29, Try.ntmps29
  go_wp2
  go_ret
  exact ⟨rfl, by go_grown⟩
set_option maxHeartbeats 800000 in
set_option maxRecDepth 100000 in
theorem next_pcg (s i p : Int) (ao : Option Addr) (n c : Nat) (h0 : 0 ≤ s) (h1 : s ≤ 18446744073709551615) (i0 : 0 ≤ i) (i1 : i ≤ 18446744073709551615) (w : World) :
    Calls Try.prog 21 #[.agg #[.int .i64 1, .int .u64 s, .int .u64 i, .slice ao n c, .int .i64 p]] w fun e w' => e = .returned (.tuple #[.int .i64 (pcgv s), .agg #[.int .i64 1, .int .u64 ((6364136223846793005 * s + i) % 18446744073709551616), .int .u64 i, .slice ao n c, .int .i64 p]]) ∧ Below w.heap.size w w' := by
  go_enter Try.func21, Try.ntmps21
  go_wp2_with fail
  refine (which_pcg _ _ _ _ _ _ _).mono ?_
  rintro e w1 ⟨rfl, hw1⟩
  have g1 : Below w.heap.size w w1 := Below.call (by go_grown) (by simp; omega) hw1
  have Z1 : At5 w1 (w.heap.size + 1) (.int .i64 0) (.int .u64 0) (.int .u64 0) (.slice none 0 0) (.int .i64 0) := At5.of hw1 (by constructor <;> simp [go_sem])
  go_wp2_with fail
  refine (gen_any _ _ _ _ _ _ _ h0 h1 i0 i1 _).mono ?_
  rintro e w2 ⟨rfl, hw2⟩
  have g2 := Below.call g1 g1.size hw2
  have Z := At5.of hw2 Z1
  clear Z1 hw1 hw2 g1
  obtain ⟨z0, z1, z2, z3, z4, y0, y1, y2, y3, y4, zl⟩ := id Z
  obtain ⟨r0, r1, r2, r3, r4⟩ := Z.outs (.int .i64 1) (.int .u64 ((6364136223846793005 * s + i) % 18446744073709551616)) (.int .u64 i) (.slice ao n c) (.int .i64 (p))
  go_wp2
  exact bodyPost_ret (v := .tuple #[.int .i64 (pcgv s), .agg #[.int .i64 1, .int .u64 ((6364136223846793005 * s + i) % 18446744073709551616), .int .u64 i, .slice ao n c, .int .i64 p]]) (by simp [results, Try.results21, go_sem, r0, r1, r2, r3, r4]) rfl ⟨rfl, by go_grown⟩
set_option maxHeartbeats 800000 in
set_option maxRecDepth 100000 in
theorem next_in (s i p : Int) (ao : Option Addr) (n c : Nat) (zs : List Int) (p0 : 0 ≤ p) (p1 : p < n) (w : World) (hz : Row .u64 w ao n c zs) :
    Calls Try.prog 21 #[.agg #[.int .i64 2, .int .u64 s, .int .u64 i, .slice ao n c, .int .i64 p]] w fun e w' => e = .returned (.tuple #[.int .i64 (zs.getD p.toNat 0 % 4294967296), .agg #[.int .i64 2, .int .u64 s, .int .u64 i, .slice ao n c, .int .i64 (p + 1)]]) ∧ Below w.heap.size w w' := by
  go_enter Try.func21, Try.ntmps21
  go_wp2_with fail
  refine (which_tape _ _ _ _ _ _ _).mono ?_
  rintro e w1 ⟨rfl, hw1⟩
  have g1 : Below w.heap.size w w1 := Below.call (by go_grown) (by simp; omega) hw1
  have Z1 : At5 w1 (w.heap.size + 1) (.int .i64 0) (.int .u64 0) (.int .u64 0) (.slice none 0 0) (.int .i64 0) := At5.of hw1 (by constructor <;> simp [go_sem])
  go_wp2_with fail
  refine (tape_in _ _ _ _ _ _ _ zs w1 (hz.below g1) p0 p1).mono ?_
  rintro e w2 ⟨rfl, hw2⟩
  have g2 := Below.call g1 g1.size hw2
  have Z := At5.of hw2 Z1
  clear Z1 hw1 hw2 g1
  obtain ⟨z0, z1, z2, z3, z4, y0, y1, y2, y3, y4, zl⟩ := id Z
  obtain ⟨r0, r1, r2, r3, r4⟩ := Z.outs (.int .i64 2) (.int .u64 (s)) (.int .u64 i) (.slice ao n c) (.int .i64 (p + 1))
  go_wp2
  exact bodyPost_ret (v := .tuple #[.int .i64 (zs.getD p.toNat 0 % 4294967296), .agg #[.int .i64 2, .int .u64 s, .int .u64 i, .slice ao n c, .int .i64 (p + 1)]]) (by simp [results, Try.results21, go_sem, r0, r1, r2, r3, r4]) rfl ⟨rfl, by go_grown⟩
set_option maxHeartbeats 800000 in
set_option maxRecDepth 100000 in
theorem next_out (s i p : Int) (ao : Option Addr) (n c : Nat) (hp : p < 0 ∨ (n : Int) ≤ p) (w : World) :
    Calls Try.prog 21 #[.agg #[.int .i64 2, .int .u64 s, .int .u64 i, .slice ao n c, .int .i64 p]] w fun e w' => e = .returned (.tuple #[.int .i64 0, .agg #[.int .i64 2, .int .u64 s, .int .u64 i, .slice ao n c, .int .i64 p]]) ∧ Below w.heap.size w w' := by
  go_enter Try.func21, Try.ntmps21
  go_wp2_with fail
  refine (which_tape _ _ _ _ _ _ _).mono ?_
  rintro e w1 ⟨rfl, hw1⟩
  have g1 : Below w.heap.size w w1 := Below.call (by go_grown) (by simp; omega) hw1
  have Z1 : At5 w1 (w.heap.size + 1) (.int .i64 0) (.int .u64 0) (.int .u64 0) (.slice none 0 0) (.int .i64 0) := At5.of hw1 (by constructor <;> simp [go_sem])
  go_wp2_with fail
  refine (tape_out _ _ _ _ _ _ _ _ hp).mono ?_
  rintro e w2 ⟨rfl, hw2⟩
  have g2 := Below.call g1 g1.size hw2
  have Z := At5.of hw2 Z1
  clear Z1 hw1 hw2 g1
  obtain ⟨z0, z1, z2, z3, z4, y0, y1, y2, y3, y4, zl⟩ := id Z
  obtain ⟨r0, r1, r2, r3, r4⟩ := Z.outs (.int .i64 2) (.int .u64 (s)) (.int .u64 i) (.slice ao n c) (.int .i64 (p))
  go_wp2
  exact bodyPost_ret (v := .tuple #[.int .i64 0, .agg #[.int .i64 2, .int .u64 s, .int .u64 i, .slice ao n c, .int .i64 p]]) (by simp [results, Try.results21, go_sem, r0, r1, r2, r3, r4]) rfl ⟨rfl, by go_grown⟩
set_option maxHeartbeats 800000 in
set_option maxRecDepth 100000 in
theorem next_dry (k s i p : Int) (ao : Option Addr) (n c : Nat) (h1 : k ≠ 1) (h2 : k ≠ 2) (w : World) :
    Calls Try.prog 21 #[.agg #[.int .i64 k, .int .u64 s, .int .u64 i, .slice ao n c, .int .i64 p]] w fun e w' => e = .returned (.tuple #[.int .i64 0, .agg #[.int .i64 k, .int .u64 s, .int .u64 i, .slice ao n c, .int .i64 p]]) ∧ Below w.heap.size w w' := by
  go_enter Try.func21, Try.ntmps21
  go_wp2_with fail
  refine (which_dry _ _ _ _ _ _ _ h1 h2 _).mono ?_
  rintro e w1 ⟨rfl, hw1⟩
  have g1 : Below w.heap.size w w1 := Below.call (by go_grown) (by simp; omega) hw1
  have Z1 : At5 w1 (w.heap.size + 1) (.int .i64 0) (.int .u64 0) (.int .u64 0) (.slice none 0 0) (.int .i64 0) := At5.of hw1 (by constructor <;> simp [go_sem])
  go_wp2_with fail
  refine (dry_any _ _ _ _ _ _ _ _).mono ?_
  rintro e w2 ⟨rfl, hw2⟩
  have g2 := Below.call g1 g1.size hw2
  have Z := At5.of hw2 Z1
  clear Z1 hw1 hw2 g1
  obtain ⟨z0, z1, z2, z3, z4, y0, y1, y2, y3, y4, zl⟩ := id Z
  obtain ⟨r0, r1, r2, r3, r4⟩ := Z.outs (.int .i64 k) (.int .u64 (s)) (.int .u64 i) (.slice ao n c) (.int .i64 (p))
  go_wp2
  exact bodyPost_ret (v := .tuple #[.int .i64 0, .agg #[.int .i64 k, .int .u64 s, .int .u64 i, .slice ao n c, .int .i64 p]]) (by simp [results, Try.results21, go_sem, r0, r1, r2, r3, r4]) rfl ⟨rfl, by go_grown⟩
/-- Any source's next draw. -/
theorem next_any (k s i p : Int) (ao : Option Addr) (n c : Nat) (zs : List Int) (h0 : 0 ≤ s) (h1 : s ≤ 18446744073709551615) (i0 : 0 ≤ i) (i1 : i ≤ 18446744073709551615) (w : World) (hz : Row .u64 w ao n c zs) :
    Calls Try.prog 21 #[.agg #[.int .i64 k, .int .u64 s, .int .u64 i, .slice ao n c, .int .i64 p]] w fun e w' => e = .returned (.tuple #[.int .i64 (drawv k s p zs), .agg #[.int .i64 k, .int .u64 (statev k s i), .int .u64 i, .slice ao n c, .int .i64 (atv k p zs)]]) ∧ Below w.heap.size w w' := by
  have hl := hz.len
  by_cases hk1 : k = 1
  · subst hk1
    have := next_pcg s i p ao n c h0 h1 i0 i1 w
    rw [drawv_pcg, statev_pcg, atv_pcg]; exact this
  by_cases hk2 : k = 2
  · subst hk2
    by_cases hp : 0 ≤ p ∧ p < n
    · have := next_in s i p ao n c zs hp.1 hp.2 w hz
      rw [drawv_tape hp.1 (by omega), statev_tape, atv_tape hp.1 (by omega)]; exact this
    · have := next_out s i p ao n c (by omega) w
      rw [drawv_out (by omega), statev_tape, atv_out (by omega)]; exact this
  · have := next_dry k s i p ao n c hk1 hk2 w
    rw [drawv_dry hk1 hk2, statev_dry hk1, atv_dry hk2]; exact this
end Go.Proofs.Ytcaledobieopjaa
