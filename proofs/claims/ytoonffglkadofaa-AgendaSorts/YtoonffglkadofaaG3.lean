/-
  The program's swap of two entries. No conditions but the heap's own.
-/
import Derived.Test.YtoonffglkadofaaG2
import Derived.BigRegion
namespace Go.Proofs.Ytoonffglkadofaa
open Go.RowKit
set_option linter.unusedVariables false
set_option maxHeartbeats 4000000 in
set_option maxRecDepth 100000 in
theorem swap_any (b o g base n c i j : Nat) (L : List Ent) (hi : i < n) (hj : j < n) (hc : c ≤ maxLen) (hnc : n ≤ c) (w : World) (p0 : w.cell? ⟨b, o, none⟩ = some (.slice (some ⟨g, 0, none⟩) n c))
    (own : w.ownsRow base 60 5 (.slice (some ⟨g, 0, none⟩) n c) n (ncs L)) :
    Calls Try.prog 26 #[.pointer (some ⟨b, o, none⟩), .int .i64 i, .int .i64 j] w fun e w' => e = .returned (.tuple #[]) ∧
      w'.ownsRow base 60 5 (.slice (some ⟨g, 0, none⟩) n c) n (ncs (sw L i j)) ∧ Far [g] w w' := by
  have hmx : maxLen = 9223372036854775807 := rfl
  obtain ⟨a0, a1, a2, a3, a4⟩ := own_ent own hi
  obtain ⟨b0, b1, b2, b3, b4⟩ := own_ent own hj
  have fz := fun k => own.frozenAt k
  have own2 := own_sw own i j
  have hi1 : (i : Int) < n := by omega
  have hj1 : (j : Int) < n := by omega
  have far : Far [g] w (((w.putN g i (pl L j)).putN g j (pl L i)).drew) := (((Far.refl [g] w).putN (.inr (by simp)) i _).putN (.inr (by simp)) j _).drew
  by_cases hij : i = j
  · subst hij
    clear b0 b1 b2 b3 b4
    generalize pl L i = x at *
    go_enter Try.func26, Try.ntmps26
    go_wp2_with fail
    go_region
    all_goals go_wp2_with fail
    all_goals go_end0
    all_goals exact ⟨rfl, own2.drew, far⟩
  · have hji : ¬ j = i := fun e => hij e.symm
    have hij5 : ¬ i * 5 = j * 5 := by omega
    have hji5 : ¬ j * 5 = i * 5 := by omega
    generalize pl L i = x at *
    generalize pl L j = y at *
    go_enter Try.func26, Try.ntmps26
    go_wp2_with fail
    go_region
    all_goals go_wp2_with fail
    all_goals go_end0
    all_goals exact ⟨rfl, own2.drew, far⟩
end Go.Proofs.Ytoonffglkadofaa
