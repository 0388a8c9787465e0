/-
  Many draws in a row, by the document; both as rows. No conditions but the numbers' own ranges.
-/
import Derived.Test.YtcaledobieopjaaQ10
namespace Go.Proofs.Ytcaledobieopjaa
open Go.RowKit
set_option linter.unusedVariables false
theorem manyN_is (m : Int) : Hid ((m ≤ 0 ∧ manyN m = 0) ∨ (0 < m ∧ m ≤ 1000 ∧ (manyN m : Int) = m) ∨ (1000 < m ∧ manyN m = 1000)) := by
  show _ ∨ _ ∨ _
  unfold manyN; omega
end Go.Proofs.Ytcaledobieopjaa
