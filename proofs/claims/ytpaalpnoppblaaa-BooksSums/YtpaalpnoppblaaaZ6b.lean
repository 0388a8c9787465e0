/-
  Accounts appended to a row in a region that draws no order. No program's function in this text. No conditions.
-/
import Derived.Test.YtpaalpnoppblaaaZ6
namespace Go.Proofs.Ytpaalpnoppblaaa
open Go.RowKit Go.Maps
set_option linter.unusedVariables false
set_option maxRecDepth 8000
/-- Accounts appended, in a region that draws no order. -/
theorem wpM_append {w : World} {ops : Array Oper} {rest : List Oper} {op : Oper} {a : Act} {Q : Exit → Act → World → Prop} (hgd : op.guard = none) (s x : Operand)
    (ho : op.op = .call { callee := .builtin .append, args := #[s, x], argTypes := #[36, 36] })
    {ao : Option Addr} {g o n c k : Nat} {L N : List Mi} {v : Value} (hs : a.eval s = .slice ao n c) (hx : a.eval x = v) (h : Mis w ao g o n c L) (hsrc : Src Try.prog 15 36 v k (mcs N) w) (hk : N.length = k) (hn : n + k ≤ 1000000)
    (K : ∀ ao' g' o' c' w', Mis w' ao' g' o' (n + k) c' (L ++ N) → Far (if 0 < c then [g] else []) w w' → ((0 < c' → g' = g ∧ 0 < c) ∨ g' = w.heap.size) → wpList Try.prog ops Q rest (a.put op.dst (.slice ao' (n + k) c')) w') : wpList Try.prog ops Q (op :: rest) a w := by
  obtain ⟨ao', g', o', c', w', hrun, h2, h3, h4⟩ := mi_append op.type h hsrc hk hn
  refine wpList_plain hgd fun _ hK => ?_
  unfold Oper.wp execOp
  simp only [ho, resolve, invoke, builtin, Sem.run_bind, Sem.run_pure, Result.andThen_ok, List.map_toArray, List.map_cons, List.map_nil, hs, hx, hrun]
  exact hK _ _ (K ao' g' o' c' w' h2 h3 h4)
theorem Mis.src {w : World} {b : Addr} {g o n c : Nat} {L : List Mi} (h : Mis w (some b) g o n c L) : Src Try.prog 15 36 (.slice (some b) n c) n (mcs L) w := by
  refine Src.ofSlice _ Try.underlying36 b n c (mcs L) (by rw [mcs_length, h.len]) (fun j u hu => ?_) (fun u hu => ?_)
  · have hc : 0 < c := by
      have h1 := (List.getElem?_eq_some_iff.1 hu).1
      rw [mcs_length, h.len] at h1
      have := h.cap; omega
    have e := h.addr hc
    cases e
    rw [Addr.add_lit]
    exact h.olds j u hu
  · obtain ⟨m, _, hm⟩ := List.mem_flatMap.1 hu
    exact listM_one m u hm
end Go.Proofs.Ytpaalpnoppblaaa
