/-
  Sorting numbers in place: the row that is sorted, and what comes of a swap; the comparison. No conditions.
-/
import Derived.Test.YtjjojbmpjkcmaaaK
import Derived.Test.YtjjojbmpjkcmaaaProg
import Derived.Sort.Walk13a
import Derived.Sort.AssemblyPlain
import Derived.BigGuard
import Derived.BigCall
import Derived.CellFam
import Derived.Deep.Draws
import Derived.Deep.QuietTactic
import Derived.Deep.CutRange
import Derived.Deep.DeepCutAuto
namespace Go.Proofs.Ytjjojbmpjkcmaaa
open Go.RowKit Go.Sort
set_option linter.unusedVariables false
/-- A row in block g holds d; nothing else in that block has turned since W, and no other block of W's. -/
structure Rw {α : Type} [Inhabited α] (enc : α → Value) (W : World) (g off : Nat) (d : Array α) (w : World) : Prop where
  holds : Holds enc w g off d
  kept : W.grownBy w (some g)
  same : ∀ c e fr, W.heap[g]? = some (.cells c e fr) → ∃ c', w.heap[g]? = some (.cells c' e fr) ∧ c'.size = c.size ∧ ∀ k, (k < off ∨ off + d.size ≤ k) → c'[k]? = c[k]?
section
variable {α : Type} [Inhabited α] {enc : α → Value} {w wr w1 : World} {g off : Nat} {d d' d0 : Array α}
theorem Rw.refl (h : Holds enc w g off d) : Rw enc w g off d w := ⟨h, World.grownBy.refl _ _, fun c e fr hc => ⟨c, hc, rfl, fun _ _ => rfl⟩⟩
theorem Rw.lt (h : Rw enc w g off d wr) (hg : g < w.heap.size) : g < wr.heap.size := Nat.lt_of_lt_of_le hg h.kept.size
theorem Rw.trans (h : Rw enc w g off d wr) (hs : d'.size = d.size) (k : Rw enc wr g off d' w1) : Rw enc w g off d' w1 :=
  ⟨k.holds, ⟨k.kept.os.trans h.kept.os, k.kept.tape.trans h.kept.tape, k.kept.output.trans h.kept.output, Nat.le_trans h.kept.size k.kept.size, fun i hi hne => (k.kept.block i (Nat.lt_of_lt_of_le hi h.kept.size) hne).trans (h.kept.block i hi hne)⟩,
    fun c e fr hc => by
      obtain ⟨c1, h1, z1, o1⟩ := h.same c e fr hc
      obtain ⟨c2, h2, z2, o2⟩ := k.same c1 e fr h1
      exact ⟨c2, h2, z2.trans z1, fun t ht => (o2 t ht).trans (o1 t (by omega))⟩⟩
theorem Rw.below (h : Rw enc w g off d wr) (hg : g < w.heap.size) (hb : Below wr.heap.size wr w1) : Rw enc w g off d w1 := by
  refine h.trans rfl ⟨fun j hj => ?_, ⟨hb.os, hb.tape, hb.output, hb.size, fun i hi _ => hb.block i hi⟩, fun c e fr hc => ⟨c, (hb.block g (h.lt hg)).trans hc, rfl, fun _ _ => rfl⟩⟩
  have := h.lt hg
  exact ⟨(hb.cell (p := ⟨g, off + j, none⟩) this).trans (h.holds j hj).1, (hb.frozen (p := ⟨g, off + j, none⟩) this).trans (h.holds j hj).2⟩
theorem Rw.drewN (h : Rw enc w g off d wr) (hg : g < w.heap.size) (q : Nat) : Rw enc w g off d (wr.drewN q) := h.below hg ⟨rfl, rfl, rfl, Nat.le_refl _, fun _ _ => rfl⟩
/-- One element is written. -/
theorem Rw.put (h : Rw enc w g off d wr) {j : Nat} (hj : j < d.size) (x : α) : Rw enc w g off (d.setIfInBounds j x) (wr.setCell ⟨g, off + j, none⟩ (enc x)) := by
  refine h.trans (by simp) ⟨fun k hk => ?_, ⟨rfl, rfl, rfl, by rw [World.size_setCell]; exact Nat.le_refl _, fun i _ hne => Below.heap_setCell _ _ _ _ (fun e => hne (by rw [e]))⟩, fun c e fr hc => ?_⟩
  · rw [Array.size_setIfInBounds] at hk
    rw [World.frozen?_setCell]
    refine ⟨?_, (h.holds k hk).2⟩
    by_cases e : k = j
    · subst e
      rw [getElem!_set_same _ _ _ hk]
      exact World.cell?_setCell_same wr _ _ (h.holds k hk).1
    · rw [getElem!_set_other _ _ _ _ e]
      exact (World.cell?_setCell_other wr _ _ _ (by simp <;> omega)).trans (h.holds k hk).1
  · refine ⟨c.setIfInBounds (off + j) (enc x), ?_, by simp, fun k hk => ?_⟩
    · rw [setCell_eq]
      simp [mapBlock, Array.getElem?_modify, hc, onCells]
    · rw [Array.size_setIfInBounds] at hk
      rw [Array.getElem?_setIfInBounds_ne (by omega)]
/-- Two elements change places. -/
theorem Rw.swap (h : Rw enc w g off d wr) {j k : Nat} (hj : j < d.size) (hk : k < d.size) :
    Rw enc w g off (swp d j k) ((wr.setCell ⟨g, off + j, none⟩ (enc d[k]!)).setCell ⟨g, off + k, none⟩ (enc d[j]!)) := (h.put hj d[k]!).put (by simpa using hk) d[j]!
/-- What a walk reads in the row. -/
theorem Rw.family (h : Rw enc w g off d wr) {n : Nat} (hn : d.size = n) :
    (∀ t, t < n → wr.cell? ⟨g, off + t, none⟩ = some (enc d[t]!)) ∧ (∀ t, t < n → wr.frozen? ⟨g, off + t, none⟩ = false) :=
  ⟨fun t ht => (h.holds t (by omega)).1, fun t ht => (h.holds t (by omega)).2⟩
end
section
variable {α : Type} [Inhabited α] {lt : α → α → Bool}
theorem ins_go {a j : Nat} {d : Array α} (hj : a < j) (hl : lt d[j]! d[j - 1]! = true) : insInner lt a j d = insInner lt a (j - 1) (swp d j (j - 1)) := by
  cases j with
  | zero => omega
  | succ k => rw [insInner]; simp only [Nat.add_sub_cancel] at hl ⊢; simp [hj, hl]
theorem ins_stop {a j : Nat} {d : Array α} (h : j ≤ a ∨ lt d[j]! d[j - 1]! = false) : insInner lt a j d = d := by
  cases j with
  | zero => rw [insInner]
  | succ k =>
    rw [insInner]
    simp only [Nat.add_sub_cancel] at h
    rcases h with h | h
    · simp [show ¬ k + 1 > a by omega]
    · simp [h]
theorem outer_go {a b i : Nat} {d : Array α} (h : i < b) : insOuter lt a b i d = insOuter lt a b (i + 1) (insInner lt a i d) := by rw [insOuter, if_pos h]
theorem outer_stop {a b i : Nat} {d : Array α} (h : ¬ i < b) : insOuter lt a b i d = d := by rw [insOuter, if_neg h]
end
set_option maxHeartbeats 1000000 in
theorem nan_any (x : Int) (w : World) : Calls Try.prog 50 #[.int .u64 x] w fun e w' => e = .returned (.bool false) ∧ w' = w := by
  go_enter Try.func50, Try.ntmps50
  go_wp2
  go_ret
  exact ⟨by simp, rfl⟩
set_option maxHeartbeats 1000000 in
theorem less_any (x y : Int) (w : World) : Calls Try.prog 40 #[.int .u64 x, .int .u64 y] w fun e w' => e = .returned (.bool (ltInt x y)) ∧ w' = w := by
  go_enter Try.func40, Try.ntmps40
  go_wp2_with (go_at_call 50; refine (nan_any _ _).mono ?_; rintro e w' ⟨rfl, rfl⟩)
  go_ret
  exact ⟨rfl, rfl⟩
end Go.Proofs.Ytjjojbmpjkcmaaa
