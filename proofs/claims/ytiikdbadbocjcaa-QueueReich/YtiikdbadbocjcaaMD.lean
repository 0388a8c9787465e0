/-
  Whether a row is short, as the layer's statements ask. No conditions.
-/
import Derived.Test.YtiikdbadbocjcaaMC
namespace Go.Proofs.Ytiikdbadbocjcaa
open Go.RowKit
set_option linter.unusedVariables false
theorem small_yes (ao : Option Addr) (n c : Nat) (hn : n ≤ 80) (w : World) : Calls Try.prog 14 #[.slice ao n c] w fun e w' => e = .returned (.bool true) ∧ w' = w := by
  have h : decide ((n : Int) ≤ 80) = true := decide_eq_true (by omega)
  go_enter Try.func14, Try.ntmps14
  go_wp2
  go_ret
  exact ⟨rfl, rfl⟩
theorem small_no (ao : Option Addr) (n c : Nat) (hn : 80 < n) (w : World) : Calls Try.prog 14 #[.slice ao n c] w fun e w' => e = .returned (.bool false) ∧ w' = w := by
  have h : decide ((n : Int) ≤ 80) = false := decide_eq_false (by omega)
  go_enter Try.func14, Try.ntmps14
  go_wp2
  go_ret
  exact ⟨rfl, rfl⟩
end Go.Proofs.Ytiikdbadbocjcaa
