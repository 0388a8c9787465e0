/-
  Two sources that are the same, and two rows that are the same, are told to be so. No conditions but the numbers' own ranges.
-/
import Derived.Test.YtcaledobieopjaaQ1
import Derived.Test.YtcaledobieopjaaProg
import Derived.Deep.DeepCutAuto
import Derived.Deep.RegionWith
import Derived.Deep.QuietTactic
import Derived.BigQuiet
namespace Go.Proofs.Ytcaledobieopjaa
open Go.RowKit
set_option linter.unusedVariables false
theorem Below.drewN {B : Nat} {a w : World} (h : Below B a w) (n : Nat) : Below B a (w.drewN n) := ⟨h.os, h.tape, h.output, h.size, h.block⟩
theorem At5.drewN {w : World} {b : Nat} {x0 x1 x2 x3 x4 : Value} (h : At5 w b x0 x1 x2 x3 x4) (n : Nat) : At5 (w.drewN n) b x0 x1 x2 x3 x4 := ⟨h.c0, h.c1, h.c2, h.c3, h.c4, h.f0, h.f1, h.f2, h.f3, h.f4, h.lt⟩
set_option maxHeartbeats 1600000 in
set_option maxRecDepth 100000 in
theorem ints_same (ao bo : Option Addr) (n c d : Nat) (zs : List Int) (w : World) (ha : Row .i64 w ao n c zs) (hb : Row .i64 w bo n d zs) :
    Calls Try.prog 20 #[.slice ao n c, .slice bo n d] w fun e w' => e = .returned (.bool true) ∧ Below w.heap.size w w' := by
  have hn : (n : Int) ≤ 9223372036854775807 := by have := ha.cap; have := ha.max; unfold maxLen at this; omega
  go_enter Try.func20, Try.ntmps20
  go_wp2
  go_loopw [5] (fun i' wr => ∃ j : Nat, j ≤ n ∧ i' = .int .i64 j ∧ Below w.heap.size w wr) (fun i' _ => n - (intOf i').toNat)
  case atStart => exact ⟨0, Nat.zero_le _, rfl, Below.refl _ _⟩
  case round =>
    obtain ⟨j, hj, rfl, hbw⟩ := hrel
    by_cases hlt : j < n
    · obtain ⟨b1, o1, rfl, hc1⟩ := (ha.below hbw).at' (by omega)
      obtain ⟨b2, o2, rfl, hc2⟩ := (hb.below hbw).at' (by omega)
      have l1 := hc1 j hlt
      have l2 := hc2 j hlt
      clear hc1 hc2 ha hb
      generalize zs.getD j 0 = z at *
      go_wp2
      go_quiet (fail)
      all_goals go_wp2
      exact ⟨⟨j + 1, by omega, by go_num, Below.drewN hbw _⟩, by simp [intOf]; omega⟩
    · go_wp2
      go_ret
      exact ⟨rfl, hbw⟩
set_option maxHeartbeats 1600000 in
set_option maxRecDepth 100000 in
theorem same_any (k s i p : Int) (ao bo : Option Addr) (n c d : Nat) (zs : List Int) (w : World) (ha : Row .u64 w ao n c zs) (hb : Row .u64 w bo n d zs) :
    Calls Try.prog 19 #[.agg #[.int .i64 k, .int .u64 s, .int .u64 i, .slice ao n c, .int .i64 p], .agg #[.int .i64 k, .int .u64 s, .int .u64 i, .slice bo n d, .int .i64 p]] w fun e w' => e = .returned (.bool true) ∧ Below w.heap.size w w' := by
  have hn : (n : Int) ≤ 9223372036854775807 := by have := ha.cap; have := ha.max; unfold maxLen at this; omega
  go_enter Try.func19, Try.ntmps19
  go_wp2
  go_loopw [5] (fun i' wr => ∃ j : Nat, j ≤ n ∧ i' = .int .i64 j ∧ At5 wr w.heap.size (.int .i64 k) (.int .u64 s) (.int .u64 i) (.slice ao n c) (.int .i64 p) ∧ At5 wr (w.heap.size + 1) (.int .i64 k) (.int .u64 s) (.int .u64 i) (.slice bo n d) (.int .i64 p) ∧ Below w.heap.size w wr) (fun i' _ => n - (intOf i').toNat)
  case atStart => exact ⟨0, Nat.zero_le _, rfl, by constructor <;> simp [go_sem], by constructor <;> simp [go_sem], by go_grown⟩
  case round =>
    obtain ⟨j, hj, rfl, S, T, hbw⟩ := hrel
    obtain ⟨s0, s1, s2, s3, s4, sa, sb, sc, sd, se, sl⟩ := id S
    obtain ⟨t0, t1, t2, t3, t4, ta, tb, tc, td, te, tl⟩ := id T
    by_cases hlt : j < n
    · obtain ⟨b1, o1, rfl, hc1⟩ := (ha.below hbw).at' (by omega)
      obtain ⟨b2, o2, rfl, hc2⟩ := (hb.below hbw).at' (by omega)
      have l1 := hc1 j hlt
      have l2 := hc2 j hlt
      clear hc1 hc2 ha hb
      generalize zs.getD j 0 = z at *
      go_wp2
      go_quiet (fail)
      all_goals go_wp2
      exact ⟨⟨j + 1, by omega, by go_num, S.drewN _, T.drewN _, Below.drewN hbw _⟩, by simp [intOf]; omega⟩
    · go_wp2
      go_ret
      exact ⟨rfl, hbw⟩
end Go.Proofs.Ytcaledobieopjaa
