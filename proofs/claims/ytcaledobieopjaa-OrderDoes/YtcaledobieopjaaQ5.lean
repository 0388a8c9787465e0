/-
  Draws below a number and between two, as numbers; the program's and the document's seeds and tapes. No conditions but the numbers' own ranges.
-/
import Derived.Test.YtcaledobieopjaaQ1
namespace Go.Proofs.Ytcaledobieopjaa
set_option linter.unusedVariables false
def belowv (k s p : Int) (zs : List Int) (m : Int) : Int := if m ≤ 0 then 0 else drawv k s p zs % m
def belowS (k s i m : Int) : Int := if m ≤ 0 then s else statev k s i
def belowP (k p : Int) (zs : List Int) (m : Int) : Int := if m ≤ 0 then p else atv k p zs
def betweenv (k s p : Int) (zs : List Int) (l u : Int) : Int := if u ≤ l ∨ 4294967295 ≤ u - l then l else l + belowv k s p zs (u - l + 1)
def betweenS (k s i l u : Int) : Int := if u ≤ l ∨ 4294967295 ≤ u - l then s else belowS k s i (u - l + 1)
def betweenP (k p : Int) (zs : List Int) (l u : Int) : Int := if u ≤ l ∨ 4294967295 ≤ u - l then p else belowP k p zs (u - l + 1)
theorem belowv_bd {k s p m : Int} (zs : List Int) (h0 : 0 ≤ s) (h1 : s ≤ 18446744073709551615) (hm : 0 < m) : 0 ≤ belowv k s p zs m ∧ belowv k s p zs m < m := by
  unfold belowv
  rw [if_neg (by omega)]
  exact ⟨Int.emod_nonneg _ (by omega), Int.emod_lt_of_pos _ hm⟩
theorem belowv_le {k s p m : Int} (zs : List Int) (h0 : 0 ≤ s) (h1 : s ≤ 18446744073709551615) : 0 ≤ belowv k s p zs m ∧ belowv k s p zs m ≤ drawv k s p zs := by
  have b := drawv_bd (k := k) (p := p) zs h0 h1
  unfold belowv
  split
  · omega
  · rename_i h
    refine ⟨Int.emod_nonneg _ (by omega), ?_⟩
    rcases Int.lt_or_le (drawv k s p zs) m with h' | h'
    · rw [Int.emod_eq_of_lt b.1 h']; omega
    · have := Int.emod_lt_of_pos (drawv k s p zs) (show 0 < m by omega); omega
theorem belowS_bd {k s i m : Int} (h0 : 0 ≤ s) (h1 : s ≤ 18446744073709551615) : 0 ≤ belowS k s i m ∧ belowS k s i m ≤ 18446744073709551615 := by
  unfold belowS; split
  · exact ⟨h0, h1⟩
  · exact statev_bd h0 h1
theorem betweenv_bd {k s p l u : Int} (zs : List Int) (h0 : 0 ≤ s) (h1 : s ≤ 18446744073709551615) : l ≤ betweenv k s p zs l u ∧ (l ≤ u → betweenv k s p zs l u ≤ u) ∧ (u < l → betweenv k s p zs l u = l) := by
  unfold betweenv; split
  · omega
  · have := belowv_bd (k := k) (p := p) (m := u - l + 1) zs h0 h1 (by omega); omega
end Go.Proofs.Ytcaledobieopjaa
