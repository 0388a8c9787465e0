/-
  An account appended to a row, as a statement of the program does it: built as a row of one, and appended. No program's function in this text. No conditions.
-/
import Derived.Test.YtpaalpnoppblaaaZ4
import Derived.Test.YtpaalpnoppblaaaY4
namespace Go.Proofs.Ytpaalpnoppblaaa
open Go.RowKit Go.Maps
set_option linter.unusedVariables false
set_option maxRecDepth 8000
/-- The building of a row of one account, left shut. -/
def bsM (n : Nat) (parts : Array (Nat × Value)) : Sem Value := Instr.buildSlice 36 n parts
theorem bsM_shut (n : Nat) (parts : Array (Nat × Value)) : Instr.buildSlice 36 n parts = bsM n parts := rfl
theorem bsM_run (m : Mi) (w : World) : (bsM 1 #[(0, .agg #[.int .i64 m.id, .int .i64 m.fr, .int .i64 m.to, .int .i64 m.se, .int .i64 m.ac, .int .i64 m.lo, .int .i64 m.pa, .int .i64 m.hi, .int .i64 m.dr, .int .i64 m.n, .int .i64 m.st, .int .i64 m.sr, .int .i64 m.tt, .int .i64 m.tr, .int .i64 m.rr])]).run Try.prog w = .ok (.slice (some ⟨w.heap.size, 0, none⟩) 1 1) (w.alloc (.cells #[.int .i64 m.id, .int .i64 m.fr, .int .i64 m.to, .int .i64 m.se, .int .i64 m.ac, .int .i64 m.lo, .int .i64 m.pa, .int .i64 m.hi, .int .i64 m.dr, .int .i64 m.n, .int .i64 m.st, .int .i64 m.sr, .int .i64 m.tt, .int .i64 m.tr, .int .i64 m.rr] 63)) := by
  obtain ⟨i0, hi, hz0, hz1, hz2⟩ := info_parts infoM
  have hf : Instr.fill (fun i => some (i * 15, 15)) (Array.map (fun x => (.agg #[.int .i64 zeroM.id, .int .i64 zeroM.fr, .int .i64 zeroM.to, .int .i64 zeroM.se, .int .i64 zeroM.ac, .int .i64 zeroM.lo, .int .i64 zeroM.pa, .int .i64 zeroM.hi, .int .i64 zeroM.dr, .int .i64 zeroM.n, .int .i64 zeroM.st, .int .i64 zeroM.sr, .int .i64 zeroM.tt, .int .i64 zeroM.tr, .int .i64 zeroM.rr] : Value).cells[x % (.agg #[.int .i64 zeroM.id, .int .i64 zeroM.fr, .int .i64 zeroM.to, .int .i64 zeroM.se, .int .i64 zeroM.ac, .int .i64 zeroM.lo, .int .i64 zeroM.pa, .int .i64 zeroM.hi, .int .i64 zeroM.dr, .int .i64 zeroM.n, .int .i64 zeroM.st, .int .i64 zeroM.sr, .int .i64 zeroM.tt, .int .i64 zeroM.tr, .int .i64 zeroM.rr] : Value).cells.size]!) (Array.range 15)) [(0, .agg #[.int .i64 m.id, .int .i64 m.fr, .int .i64 m.to, .int .i64 m.se, .int .i64 m.ac, .int .i64 m.lo, .int .i64 m.pa, .int .i64 m.hi, .int .i64 m.dr, .int .i64 m.n, .int .i64 m.st, .int .i64 m.sr, .int .i64 m.tt, .int .i64 m.tr, .int .i64 m.rr])] = some #[.int .i64 m.id, .int .i64 m.fr, .int .i64 m.to, .int .i64 m.se, .int .i64 m.ac, .int .i64 m.lo, .int .i64 m.pa, .int .i64 m.hi, .int .i64 m.dr, .int .i64 m.n, .int .i64 m.st, .int .i64 m.sr, .int .i64 m.tt, .int .i64 m.tr, .int .i64 m.rr] := by kernel_rfl
  simp [bsM, Instr.buildSlice, run_underlying Try.underlying36, sizeOf, typeInfo, zeroValue, hi, hz0, hz1]
  rw [hf]
  simp [newRow]
theorem one_src (w : World) (m : Mi) : Src Try.prog 15 36 (.slice (some ⟨w.heap.size, 0, none⟩) 1 1) 1 (mcs [m]) (w.alloc (.cells #[.int .i64 m.id, .int .i64 m.fr, .int .i64 m.to, .int .i64 m.se, .int .i64 m.ac, .int .i64 m.lo, .int .i64 m.pa, .int .i64 m.hi, .int .i64 m.dr, .int .i64 m.n, .int .i64 m.st, .int .i64 m.sr, .int .i64 m.tt, .int .i64 m.tr, .int .i64 m.rr] 63)) := by
  have e : mcs [m] = listM m := by simp [mcs]
  refine Src.ofSlice _ Try.underlying36 _ _ _ _ (by rw [e]; rfl) (fun j u hu => ?_) (fun u hu => listM_one m u (by rw [← e]; exact hu))
  rw [e] at hu
  rw [Addr.add_lit, Nat.zero_add]
  exact (Ob.fresh w #[.int .i64 m.id, .int .i64 m.fr, .int .i64 m.to, .int .i64 m.se, .int .i64 m.ac, .int .i64 m.lo, .int .i64 m.pa, .int .i64 m.hi, .int .i64 m.dr, .int .i64 m.n, .int .i64 m.st, .int .i64 m.sr, .int .i64 m.tt, .int .i64 m.tr, .int .i64 m.rr] 63).cell hu
theorem app_run {w : World} {ao : Option Addr} {g o n c : Nat} {L : List Mi} (ty : TypeId) (h : Mis w ao g o n c L) (hn : n + 1 ≤ 1000000) (m : Mi) :
    ∃ ao' g' o' c' w', (apx #[36, 36] ty #[.slice ao n c, .slice (some ⟨w.heap.size, 0, none⟩) 1 1]).run Try.prog (w.alloc (.cells #[.int .i64 m.id, .int .i64 m.fr, .int .i64 m.to, .int .i64 m.se, .int .i64 m.ac, .int .i64 m.lo, .int .i64 m.pa, .int .i64 m.hi, .int .i64 m.dr, .int .i64 m.n, .int .i64 m.st, .int .i64 m.sr, .int .i64 m.tt, .int .i64 m.tr, .int .i64 m.rr] 63)) = .ok (.slice ao' (n + 1) c') w' ∧ Mis w' ao' g' o' (n + 1) c' (L ++ [m]) ∧
      Far (if 0 < c then [g] else []) w w' ∧ (0 < c' → (g' = g ∧ 0 < c) ∨ w.heap.size ≤ g') := by
  have hA := h.below ((Below.refl _ w).alloc (Nat.le_refl _) (.cells #[.int .i64 m.id, .int .i64 m.fr, .int .i64 m.to, .int .i64 m.se, .int .i64 m.ac, .int .i64 m.lo, .int .i64 m.pa, .int .i64 m.hi, .int .i64 m.dr, .int .i64 m.n, .int .i64 m.st, .int .i64 m.sr, .int .i64 m.tt, .int .i64 m.tr, .int .i64 m.rr] 63))
  obtain ⟨ao', g', o', c', w', hr, hM, hF, hg⟩ := mi_append ty hA (one_src w m) rfl hn
  refine ⟨ao', g', o', c', w', hr, hM, ((Far.refl [] w).alloc _).mono (by simp) |>.trans hF, fun hc => ?_⟩
  rcases hg with h1 | h1
  · exact .inl (h1 hc)
  · right; rw [h1]; simp
end Go.Proofs.Ytpaalpnoppblaaa
