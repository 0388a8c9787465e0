/-
  Seeds and tapes, the program's and the document's; a tape that is too long. No conditions but the numbers' own ranges.
-/
import Derived.Test.YtcaledobieopjaaQ6
import Derived.Test.YtcaledobieopjaaQ7
namespace Go.Proofs.Ytcaledobieopjaa
open Go.RowKit
set_option linter.unusedVariables false
def incv (t : Int) : Int := (2 * t + 1) % 18446744073709551616
def seedv (s t : Int) : Int := (6364136223846793005 * ((incv t + s) % 18446744073709551616) + incv t) % 18446744073709551616
theorem incv_bd (t : Int) : 0 ≤ incv t ∧ incv t ≤ 18446744073709551615 := by unfold incv; omega
theorem incv_wrap (t : Int) : IntKind.u64.wrap (IntKind.u64.wrap (2 * t) + 1) = incv t := by rw [IntKind.wrap_u64, IntKind.wrap_u64]; unfold incv; omega
theorem lcg_0 (t : Int) : (6364136223846793005 * 0 + incv t) % 18446744073709551616 = incv t := by have := incv_bd t; omega
theorem row_nil (k : IntKind) (w : World) : Row k w none 0 0 [] := ⟨rfl, Nat.le_refl _, by unfold maxLen; omega, fun _ => rfl, fun x h => (List.not_mem_nil h).elim, fun h => absurd h (Nat.lt_irrefl _)⟩

set_option maxHeartbeats 1600000 in
set_option maxRecDepth 100000 in
theorem tape_any (ao : Option Addr) (n c : Nat) (zs : List Int) (w : World) (hz : Row .u64 w ao n c zs) :
    Calls Try.prog 22 #[.slice ao n c] w fun e w' => e = .returned (.agg #[.int .i64 2, .int .u64 0, .int .u64 0, .slice ao n n, .int .i64 0]) ∧ Below w.heap.size w w' := by
  have hc := hz.cap
  go_enter Try.func22, Try.ntmps22
  go_wp2
  go_returns
  exact ⟨rfl, by go_grown⟩
set_option maxHeartbeats 1600000 in
set_option maxRecDepth 100000 in
theorem big_any (k s i p : Int) (ao : Option Addr) (n c : Nat) (w : World) :
    Calls Try.prog 7 #[.agg #[.int .i64 k, .int .u64 s, .int .u64 i, .slice ao n c, .int .i64 p]] w fun e w' => e = .returned (.bool (decide (2000 < (n : Int)))) ∧ Below w.heap.size w w' := by
  go_enter Try.func7, Try.ntmps7
  go_wp2
  go_ret
  exact ⟨rfl, by go_grown⟩
end Go.Proofs.Ytcaledobieopjaa
