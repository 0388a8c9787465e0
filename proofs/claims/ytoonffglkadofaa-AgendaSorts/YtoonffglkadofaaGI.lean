/-
  A row of truths of the call's own; which ones were seen. No program's function in this text. No conditions.
-/
import Derived.Test.YtoonffglkadofaaGH
namespace Go.Proofs.Ytoonffglkadofaa
open Go.RowKit
set_option linter.unusedVariables false
/-- n truths in a block of one's own. -/
structure Cbs (w : World) (b n : Nat) (f : Nat → Bool) : Prop where
  cell : ∀ i, i < n → w.cell? ⟨b, i, none⟩ = some (.bool (f i))
  froz : ∀ i, i < n → w.frozen? ⟨b, i, none⟩ = false
  lt : 0 < n → b < w.heap.size
theorem Cbs.far {S : List Nat} {w w1 : World} {b n : Nat} {f : Nat → Bool} (h : Cbs w b n f) (k : Far S w w1) (hb : b ∉ S) : Cbs w1 b n f :=
  ⟨fun i hi => (World.cell?_of_block (a := ⟨b, i, none⟩) (k.block b (h.lt (by omega)) hb)).trans (h.cell i hi), fun i hi => (World.frozen?_of_block (a := ⟨b, i, none⟩) (k.block b (h.lt (by omega)) hb)).trans (h.froz i hi), fun hn => Nat.lt_of_lt_of_le (h.lt hn) k.size⟩
theorem Cbs.of {w w1 : World} {b n : Nat} {f : Nat → Bool} (h : Cbs w b n f) (hb : Below w.heap.size w w1) : Cbs w1 b n f := h.far (Far.of_below hb) (by simp)
theorem Cbs.put {w : World} {b n : Nat} {f : Nat → Bool} (h : Cbs w b n f) {j : Nat} (hj : j < n) (x : Bool) : Cbs (w.setCell ⟨b, j, none⟩ (.bool x)) b n (fun i => if i = j then x else f i) := by
  refine ⟨fun i hi => ?_, fun i hi => (World.frozen?_setCell _ _ _ _).trans (h.froz i hi), by rw [World.size_setCell]; exact h.lt⟩
  by_cases e : i = j
  · subst e; rw [if_pos rfl]; exact World.cell?_setCell_same w _ _ (h.cell i hi)
  · rw [if_neg e]; exact (World.cell?_setCell_other w _ ⟨b, i, none⟩ _ (fun k => e (by simpa using k.symm))).trans (h.cell i hi)
theorem made_falses (n : Nat) : (madeCells (Value.cells (.bool false)) (n * 1)).toList = List.replicate n (.bool false) := by
  simp only [madeCells, Value.cells, Nat.mul_one]
  apply List.ext_getElem
  · simp
  · intro i h1 h2
    simp [Nat.mod_one]
theorem cbs_made {w : World} {base : Nat} {e : TypeId} {g n c : Nat} (h : w.ownsRow base e 1 (.slice (some ⟨g, 0, none⟩) n c) n (madeCells (Value.cells (.bool false)) (n * 1)).toList) : Cbs w g n (fun _ => false) := by
  rw [made_falses] at h
  have hc : ∀ i, i < n → w.cell? ⟨g, i, none⟩ = some (.bool false) := fun i hi => by rw [h.cellAt i (by omega)]; simp [hi]
  exact ⟨hc, fun i hi => h.frozenAt i, fun hn => World.block_lt_of_cell? _ _ (hc 0 hn)⟩
/-- Which ones were seen. -/
def sn (R : List Ent) : Nat → Nat → Bool
  | 0 => fun _ => false
  | k + 1 => fun i => if (i : Int) = (yt R k).t then true else sn R k i
theorem sn_yes (R : List Ent) {k i : Nat} (h : sn R k i = true) : ∃ j, j < k ∧ (yt R j).t = i := by
  induction k with
  | zero => cases h
  | succ k ih =>
    unfold sn at h
    by_cases e : (i : Int) = (yt R k).t
    · exact ⟨k, by omega, e.symm⟩
    · rw [if_neg e] at h
      obtain ⟨j, hj, e'⟩ := ih h
      exact ⟨j, by omega, e'⟩
theorem sn_no {R : List Ent} (up : R.Pairwise (fun x y => x.t < y.t)) {k i : Nat} (hk : k < R.length) (e : (yt R k).t = i) : sn R k i = false := by
  rw [Bool.eq_false_iff]
  intro h
  obtain ⟨j, hj, e'⟩ := sn_yes R h
  exact (yt_later up hj hk).1 (by rw [e, e'])
theorem sn_succ {R : List Ent} {k j : Nat} (e : (yt R k).t = j) : sn R (k + 1) = fun i => if i = j then true else sn R k i := by
  funext i
  show (if (i : Int) = (yt R k).t then true else sn R k i) = _
  rw [e]
  by_cases h : i = j
  · rw [if_pos h, if_pos (by omega)]
  · rw [if_neg h, if_neg (by omega)]
theorem er_yt (f : Nat → Ev) {n k : Nat} (h : k < n) : ∃ j : Nat, j < n ∧ (yt (er f n) k).t = j ∧ me (es (er f n)) k = f j := by
  have hl := er_len f n
  obtain ⟨j, hj, e⟩ := er_mem (yt_in (R := er f n) (k := k) (by omega))
  exact ⟨j, hj, by rw [e], by rw [← yt_me (by omega), e]⟩
end Go.Proofs.Ytoonffglkadofaa
