/-
  The reference's products, bit by bit, are those of the numbers. No conditions but the numbers' own ranges.
-/
import Derived.Test.YtahlphbgnhklaaaC3
import Derived.Deep.RegionHeld3
import Derived.Deep.DeepCutAuto
namespace Go.Proofs.Ytahlphbgnhklaaa
open Go.RowKit
set_option linter.unusedVariables false

theorem refLeft_hl (h l n : Int) (a0 : 0 ≤ h) (a1 : h ≤ 18446744073709551615) (b0 : 0 ≤ l) (b1 : l ≤ 18446744073709551615) (w : World) :
    Calls Try.prog 46 #[.agg #[.int .u64 h, .int .u64 l], .int .i64 n] w fun e w' => e = .returned (.agg #[.int .u64 (hiw (leftv (vv h l) n)), .int .u64 (low (leftv (vv h l) n))]) ∧ Below w.heap.size w w' := by
  have := refLeft_any (vv h l) n (vv_W a0 a1 b0 b1) w
  rwa [hiw_vv b0 b1, low_vv b0 b1] at this
end Go.Proofs.Ytahlphbgnhklaaa
