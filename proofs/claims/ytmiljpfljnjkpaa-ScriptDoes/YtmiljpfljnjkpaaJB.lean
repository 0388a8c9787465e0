/-
  A row of steps, empty or not, put behind one's own row of steps; eight cells of a block of one's own; steps of bytes behind one another. No conditions.
-/
import Derived.Test.YtmiljpfljnjkpaaJ9
import Derived.Laws.AppendOwnNone
namespace Go.Proofs.Ytmiljpfljnjkpaa
open Go.RowKit
set_option linter.unusedVariables false
theorem oapp_all {w : World} {base : Nat} {vo : Option Addr} {vc n : Nat} {L M : List Stp} (ty : TypeId) (h : w.ownsRow base 24 3 (.slice vo n vc) n (ocs L)) (hb : base ≤ w.heap.size) (hn : n ≤ 10000) {ao : Option Addr} {m c base2 : Nat} (hm : m ≤ 10000) (own : w.ownsRow base2 24 3 (.slice ao m c) m (ocs M)) :
    ∃ ao' c' w', (apx #[22, 22] ty #[.slice vo n vc, .slice ao m c]).run Try.prog w = .ok (.slice ao' (n + m) c') w' ∧ w'.ownsRow base 24 3 (.slice ao' (n + m) c') (n + m) (ocs (L ++ M)) ∧ w.grownBy w' (Value.slice vo n vc).ownBlock := by
  rcases own.2 with ⟨e, h0⟩ | ⟨g, cap, cur, e, hbg, hg, h1, h2, h3, h4⟩
  · simp only [Value.slice.injEq] at e
    obtain ⟨rfl, _, rfl⟩ := e
    subst h0
    obtain ⟨i0, hi, hz0, hz1, hz2⟩ := info_parts infoO
    have hM : M = [] := by
      have := own.1
      rw [ocs_len] at this
      exact List.eq_nil_of_length_eq_zero (by omega)
    subst hM
    refine ⟨vo, vc, w, run_append_owned_none (P := Try.prog) (w := w) base 22 ty 24 i0 3 Try.underlying22 hi _ n _ h, by rw [List.append_nil]; exact h, ⟨rfl, rfl, rfl, Nat.le_refl _, fun _ _ _ => rfl⟩⟩
  · simp only [Value.slice.injEq, true_and] at e
    obtain ⟨rfl, rfl⟩ := e
    have hl : (ocs M).length = m * 3 := own.1
    obtain ⟨v', w', hr, ho, hg, hv⟩ := app_own (ty := ty) Try.underlying22 infoO rfl (by decide) (by decide) h g m c (ocs M) hl (fun j u hj => by
      have hj2 : j < m * 3 := by have := (List.getElem?_eq_some_iff.1 hj).1; omega
      rw [own.cellAt j hj2]; exact hj) (oc_one _) (by omega) hb
    obtain ⟨ao', c', rfl⟩ := own_slice ho
    exact ⟨ao', c', w', hr, by rw [ocs_append]; exact ho, hg⟩
theorem Cells.fresh_cn (w : World) (t : TypeId) (f : Nat → Stp) (n : Nat) : Cells (w.alloc (.cells #[.int .i64 (cn f n 0), .int .i64 (cn f n 1), .int .i64 (cn f n 2), .int .i64 (cn f n 3), .int .i64 (cn f n 4), .int .i64 (cn f n 5), .int .i64 (cn f n 6), .int .i64 (cn f n 7)] t)) w.heap.size 8 (fun j => cn f n j) := by
  refine ⟨fun i hi => ?_, fun i hi => ?_, fun _ => by simp⟩
  · rcases (by omega : i = 0 ∨ i = 1 ∨ i = 2 ∨ i = 3 ∨ i = 4 ∨ i = 5 ∨ i = 6 ∨ i = 7) with rfl | rfl | rfl | rfl | rfl | rfl | rfl | rfl <;> simp [go_sem]
  · rcases (by omega : i = 0 ∨ i = 1 ∨ i = 2 ∨ i = 3 ∨ i = 4 ∨ i = 5 ∨ i = 6 ∨ i = 7) with rfl | rfl | rfl | rfl | rfl | rfl | rfl | rfl <;> simp [go_sem]
theorem count_row (ao : Option Addr) (n c : Nat) (f : Nat → Stp) (hn : n ≤ 10000) (w : World) (E : Ops w ao n c f) :
    Calls Try.prog 19 #[.slice ao n c] w fun e w' => e = .returned (.agg #[.int .i64 (cn f n 0), .int .i64 (cn f n 1), .int .i64 (cn f n 2), .int .i64 (cn f n 3), .int .i64 (cn f n 4), .int .i64 (cn f n 5), .int .i64 (cn f n 6), .int .i64 (cn f n 7)]) ∧ Below w.heap.size w w' := count_any ao n c f hn w E
theorem rw3_join (m : Int) (a b : ByteArray) (p q : Nat) (hp : a.size = 3 * p) : rw3 (dc m a) p ++ rw3 (dc m b) q = rw3 (dc m (a ++ b)) (p + q) := by
  rw [← rw3_add (dc m (a ++ b)) p q]
  congr 1
  · exact rw3_ext (fun i hi => by rw [dc_app m a b p i hp, if_pos hi])
  · exact rw3_ext (fun i hi => by rw [dc_app m a b p (p + i) hp, if_neg (by omega), Nat.add_sub_cancel_left])
theorem cn_join (m : Int) (a b : ByteArray) (p q : Nat) (hp : a.size = 3 * p) (j : Int) : cn (dc m (a ++ b)) (p + q) j = cn (dc m a) p j + cn (dc m b) q j := by
  rw [cn_add]
  congr 1
  · exact cn_ext (fun i hi => by rw [dc_app m a b p i hp, if_pos hi]) j
  · exact cn_ext (fun i hi => by rw [dc_app m a b p (p + i) hp, if_neg (by omega), Nat.add_sub_cancel_left]) j
end Go.Proofs.Ytmiljpfljnjkpaa
