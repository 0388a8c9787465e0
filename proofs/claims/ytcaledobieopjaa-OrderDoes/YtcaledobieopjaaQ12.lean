/-
  The document's rows of draws are told. No conditions.
-/
import Derived.Test.YtcaledobieopjaaQ11
namespace Go.Proofs.Ytcaledobieopjaa
open Go.RowKit
set_option linter.unusedVariables false
theorem Row.made (k : IntKind) (w : World) (zs : List Int) (t : TypeId) (hm : zs.length ≤ maxLen) (hw : ∀ x ∈ zs, (Lit.int k x).wf = true) :
    Row k (w.alloc (.cells (zs.map (Value.int k)).toArray t)) (some ⟨w.heap.size, 0, none⟩) zs.length zs.length zs := by
  refine ⟨rfl, Nat.le_refl _, hm, fun h => by simp at h, hw, fun _ => ⟨w.heap.size, 0, rfl, fun i hi => ?_⟩⟩
  simp [go_sem, hi, List.getD]
theorem Row.made' {k : IntKind} {w : World} {b n : Nat} {cs : Array Value} (zs : List Int) {t : TypeId} (hb : b = w.heap.size) (hc : cs = (zs.map (Value.int k)).toArray) (hn : zs.length = n) (hm : n ≤ maxLen) (hw : ∀ x ∈ zs, (Lit.int k x).wf = true) :
    Row k (w.alloc (.cells cs t)) (some ⟨b, 0, none⟩) n n zs := by
  subst hb hc hn; exact Row.made k w zs t hm hw
theorem Row.alloc2 {k : IntKind} {w : World} {ao : Option Addr} {n c : Nat} {zs : List Int} (h : Row k w ao n c zs) (o o' : Obj) : Row k ((w.alloc o).alloc o') ao n c zs :=
  h.below (((Below.refl _ _).alloc (Nat.le_refl _) o).alloc (by simp) o')
theorem Row.alloc {k : IntKind} {w : World} {ao : Option Addr} {n c : Nat} {zs : List Int} (h : Row k w ao n c zs) (o : Obj) : Row k (w.alloc o) ao n c zs := h.below ((Below.refl _ _).alloc (Nat.le_refl _) o)
theorem wf_small {x : Int} (h : 0 ≤ x ∧ x ≤ 9223372036854775807) : (Lit.int .i64 x).wf = true := WalkArith.wf_i64 (by omega)
theorem told_pcg : dN 1 (seedv 42 54) (incv 54) 0 [] 6 = [2707161783, 2068313097, 3122475824, 2211639955, 3215226955, 3421331566] := by decide +kernel
theorem told_tape : dN 2 0 0 0 [7, 4294967297] 3 = [7, 1, 0] := by decide +kernel
theorem seedv_bd (s t : Int) : 0 ≤ seedv s t ∧ seedv s t ≤ 18446744073709551615 := by unfold seedv; omega
end Go.Proofs.Ytcaledobieopjaa
