/-
  What a step of a script makes of an account. No conditions but the numbers' own ranges.
-/
import Derived.Test.YtpaalpnoppblaaaU9
import Derived.Test.YtpaalpnoppblaaaU11
namespace Go.Proofs.Ytpaalpnoppblaaa
open Go.RowKit
set_option linter.unusedVariables false
def stepE (m : Mi) (k s x a : Int) : Int := if k = 0 then sendE m s else if k = 1 then ackE m s x a else if k = 2 then loseE m s else closeE m a
def stepV (m : Mi) (k s x a : Int) : Mi := if k = 0 then sendV m s else if k = 1 then ackV m s x a else if k = 2 then loseV m s else closeV m a
def kd (j : Nat) : Int := match j with | 0 => 0 | 1 => 0 | 2 => 1 | 3 => 2 | _ => 3
def sz (j : Nat) : Int := match j with | 0 => 1500 | 1 => 500 | 2 => 1500 | 3 => 500 | _ => 0
def sn (j : Nat) : Int := match j with | 2 => 110 | _ => 0
def aa (j : Nat) : Int := match j with | 2 => 160 | 4 => 200 | _ => 0
def cntM : Nat → Mi
  | 0 => ⟨3, 100, -1, 0, 0, 0, 0, 0, 0, 0, 0, 0, 0, 0, 0⟩
  | 1 => ⟨3, 100, -1, 1500, 0, 0, 1, 0, 0, 0, 0, 0, 0, 0, 0⟩
  | 2 => ⟨3, 100, -1, 2000, 0, 0, 2, 0, 0, 0, 0, 0, 0, 0, 0⟩
  | 3 => ⟨3, 100, -1, 2000, 1500, 0, 2, 1, 0, 1, 10, 50, 100, 500, 2500⟩
  | 4 => ⟨3, 100, -1, 2000, 1500, 500, 2, 1, 1, 1, 10, 50, 100, 500, 2500⟩
  | _ => ⟨3, 100, 200, 2000, 1500, 500, 2, 1, 1, 1, 10, 50, 100, 500, 2500⟩
theorem cnt_open : openV 3 100 = cntM 0 ∧ openE 3 100 = 0 := by decide +kernel
theorem cnt_step : ∀ j, j < 5 → stepV (cntM j) (kd j) (sz j) (sn j) (aa j) = cntM (j + 1) ∧ stepE (cntM j) (kd j) (sz j) (sn j) (aa j) = 0 := by decide +kernel
theorem cnt_end : sendE (cntM 5) 1 = 15 ∧ doneB (cntM 5) = true ∧ sendV (cntM 5) 1 = zeroM := by decide +kernel
end Go.Proofs.Ytpaalpnoppblaaa
