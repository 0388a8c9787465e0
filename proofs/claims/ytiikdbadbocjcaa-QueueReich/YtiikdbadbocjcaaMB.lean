/-
  Rows of fates as they are read; two rows that are the same are told to be so. No conditions.
-/
import Derived.Test.YtiikdbadbocjcaaM9
import Derived.Deep.QuietTactic
import Derived.BigQuiet
namespace Go.Proofs.Ytiikdbadbocjcaa
open Go.RowKit
set_option linter.unusedVariables false
theorem Below.drewN {B : Nat} {a w : World} (h : Below B a w) (n : Nat) : Below B a (w.drewN n) := ⟨h.os, h.tape, h.output, h.size, h.block⟩
/-- A row of fates in memory. -/
structure Fates (w : World) (ao : Option Addr) (n c : Nat) (f : Nat → Int × Bool) : Prop where
  cap : n ≤ c
  max : c ≤ maxLen
  at' : 0 < n → ∃ b, ao = some ⟨b, 0, none⟩ ∧ b < w.heap.size ∧ ∀ i, i < n → w.cell? ⟨b, i * 2, none⟩ = some (.int .i64 (f i).1) ∧ w.cell? ⟨b, i * 2 + 1, none⟩ = some (.bool (f i).2)
theorem Fates.below {w w1 : World} {ao : Option Addr} {n c : Nat} {f : Nat → Int × Bool} (h : Fates w ao n c f) (hb : Below w.heap.size w w1) : Fates w1 ao n c f := by
  refine ⟨h.cap, h.max, fun hn => ?_⟩
  obtain ⟨b, e, hl, hc⟩ := h.at' hn
  refine ⟨b, e, Nat.lt_of_lt_of_le hl hb.size, fun i hi => ?_⟩
  obtain ⟨c0, c1⟩ := hc i hi
  exact ⟨(hb.cell (p := ⟨b, _, none⟩) hl).trans c0, (hb.cell (p := ⟨b, _, none⟩) hl).trans c1⟩
theorem Fates.own {w : World} {base : Nat} {ao : Option Addr} {n c : Nat} {L : List (Int × Bool)} {f : Nat → Int × Bool} (h : w.ownsRow base 41 2 (.slice ao n c) n (fcs L)) (hf : ∀ i, i < n → L[i]? = some (f i)) : Fates w ao n c f := by
  rcases h.2 with ⟨e, rfl⟩ | ⟨g, cap, cur, e, hb, hg, h1, h2, h3, h4⟩
  · simp only [Value.slice.injEq] at e
    obtain ⟨rfl, _, rfl⟩ := e
    exact ⟨Nat.le_refl _, by unfold maxLen; omega, fun h => absurd h (Nat.lt_irrefl _)⟩
  · simp only [Value.slice.injEq, true_and] at e
    obtain ⟨rfl, rfl⟩ := e
    refine ⟨h1, h2, fun _ => ⟨g, rfl, (Array.getElem?_eq_some_iff.1 hg).1, fun i hi => ?_⟩⟩
    obtain ⟨k0, k1⟩ := fcs_get (hf i hi)
    rw [h.cellAt (i * 2) (by omega), h.cellAt (i * 2 + 1) (by omega)]
    exact ⟨k0, k1⟩
set_option maxHeartbeats 1600000 in
set_option maxRecDepth 100000 in
theorem same_any (ao bo : Option Addr) (n c d : Nat) (f : Nat → Int × Bool) (w : World) (ha : Fates w ao n c f) (hb : Fates w bo n d f) :
    Calls Try.prog 18 #[.slice ao n c, .slice bo n d] w fun e w' => e = .returned (.bool true) ∧ Below w.heap.size w w' := by
  have hn : (n : Int) ≤ 9223372036854775807 := by have := ha.cap; have := ha.max; unfold maxLen at this; omega
  go_enter Try.func18, Try.ntmps18
  go_wp2
  go_loopw [5] (fun i' wr => ∃ j : Nat, j ≤ n ∧ i' = .int .i64 j ∧ Below w.heap.size w wr) (fun i' _ => n - (intOf i').toNat)
  case atStart => exact ⟨0, Nat.zero_le _, rfl, Below.refl _ _⟩
  case round =>
    obtain ⟨j, hj, rfl, hbw⟩ := hrel
    by_cases hlt : j < n
    · obtain ⟨b1, rfl, _, hc1⟩ := (ha.below hbw).at' (by omega)
      obtain ⟨b2, rfl, _, hc2⟩ := (hb.below hbw).at' (by omega)
      obtain ⟨l1, l2⟩ := hc1 j hlt
      obtain ⟨l3, l4⟩ := hc2 j hlt
      clear hc1 hc2 ha hb
      generalize (f j).1 = x at *
      generalize (f j).2 = y at *
      go_wp2
      go_quiet (fail)
      all_goals go_wp2
      exact ⟨⟨j + 1, by omega, by go_num, Below.drewN hbw _⟩, by simp [intOf]; omega⟩
    · go_wp2
      go_ret
      exact ⟨rfl, hbw⟩
end Go.Proofs.Ytiikdbadbocjcaa
