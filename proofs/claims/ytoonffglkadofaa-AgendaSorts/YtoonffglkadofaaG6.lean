/-
  slices.Delete of the last one of a row of entries. No conditions but the row's own.
-/
import Derived.Test.YtoonffglkadofaaG5
namespace Go.Proofs.Ytoonffglkadofaa
open Go.RowKit
set_option linter.unusedVariables false
/-- A clear, left shut. -/
def clx (ats : Array TypeId) (ty : TypeId) (args : Array Value) : Sem Value := Builtin.clear_ ats ty args
theorem clear_shut (ats : Array TypeId) (ty : TypeId) (args : Array Value) : Builtin.clear_ ats ty args = clx ats ty args := rfl
theorem own_pre {w : World} {base g n c m : Nat} {L : List Ent} (h : w.ownsRow base 60 5 (.slice (some ⟨g, 0, none⟩) n c) n (ncs L)) (hm : m ≤ n) : w.ownsRow base 60 5 (.slice (some ⟨g, 0, none⟩) m c) m (ncs (L.take m)) := by
  have hl := own_len h
  refine ⟨by rw [ncs_len, List.length_take]; omega, ?_⟩
  rcases h.2 with ⟨h', _⟩ | ⟨g', cap', cur, h', hb, hg, hnc, hcm, hcs, htake⟩
  · simp at h'
  · simp only [Value.slice.injEq, Option.some.injEq, Addr.mk.injEq, and_true, true_and] at h'
    obtain ⟨rfl, rfl⟩ := h'
    refine .inr ⟨g, c, cur, rfl, hb, hg, by omega, hcm, hcs, ?_⟩
    rw [← ncs_take, ← htake, List.take_take]
    congr 1
    omega
theorem app_none {w : World} {base g n c : Nat} {L : List Ent} (h : w.ownsRow base 60 5 (.slice (some ⟨g, 0, none⟩) n c) n (ncs L)) (hnc : n ≤ c) :
    ∃ w', (∀ ty a d, (apx #[53, 53] ty #[.slice (some ⟨g, 0, none⟩) n c, .slice (some a) 0 d]).run Try.prog w = .ok (.slice (some ⟨g, 0, none⟩) n c) w') ∧ w'.ownsRow base 60 5 (.slice (some ⟨g, 0, none⟩) n c) n (ncs L) ∧ w.grownBy w' (some g) := by
  obtain ⟨i0, hi, hz0, hz1, hz2⟩ := info_parts infoN
  rcases h.2 with ⟨h', _⟩ | ⟨g', cap', cur, h', hb, hg, _, hcm, hcs, htake⟩
  · simp at h'
  · simp only [Value.slice.injEq, Option.some.injEq, Addr.mk.injEq, and_true, true_and] at h'
    obtain ⟨rfl, rfl⟩ := h'
    have hfit : n * i0.size + ([] : List Value).length ≤ cur.size := by rw [hcs, hz1, List.length_nil]; omega
    refine ⟨_, fun ty a d => run_append_room (P := Try.prog) w 53 ty 60 i0 Try.underlying53 hi g n c cur hg a 0 d [] (by simp) (by simp) (by simp) (by omega) hfit, ?_, ?_⟩
    · refine ⟨h.1, .inr ⟨g, c, _, rfl, hb, setRow_heap w g cur _ _ _ hg, hnc, hcm, ?_, ?_⟩⟩
      · simp; omega
      · rw [hz1] at *
        simp [htake]
        exact List.take_left' h.1
    · exact ⟨rfl, rfl, rfl, by simp, fun k _ hk => setRow_other w g k _ (fun e => hk (by simp [e]))⟩
/-- Zeros in a place. -/
theorem clear_run {w : World} {g o d ty : Nat} (hc : ∀ j, j < 5 → (w.cell? ⟨g, o + j, none⟩).isSome = true) (hf : ∀ j, w.frozen? ⟨g, j, none⟩ = false) :
    (clx #[53] ty #[.slice (some ⟨g, o, none⟩) 1 d]).run Try.prog w = .ok (.tuple #[]) (w.setCells g o [.int .i64 0, .int .i64 0, .int .i64 0, .int .u64 0, .int .i64 0]) := by
  have hst := run_storeCells_cells (P := Try.prog) g o [.int .i64 0, .int .i64 0, .int .i64 0, .int .u64 0, .int .i64 0] 0 w (by simpa using hc) (fun j _ => hf _) (by intro v hv; simp at hv; rcases hv with hv | hv | hv <;> (rw [hv]; rfl))
  have hz : (Builtin.zeroCells (Value.cells (.agg #[.int .i64 0, .int .i64 0, .int .i64 0, .int .u64 0, .int .i64 0])) 1).toList = [.int .i64 0, .int .i64 0, .int .i64 0, .int .u64 0, .int .i64 0] := by kernel_rfl
  simp only [Nat.add_zero] at hst
  unfold clx
  simp [Builtin.clear_, run_underlying Try.underlying53, hz, hst]
theorem own_cleared {w : World} {base g n c : Nat} {L : List Ent} (h : w.ownsRow base 60 5 (.slice (some ⟨g, 0, none⟩) n c) n (ncs L)) (vs : List Value) : ∀ o, n * 5 ≤ o → (w.setCells g o vs).ownsRow base 60 5 (.slice (some ⟨g, 0, none⟩) n c) n (ncs L) := by
  induction vs generalizing w with
  | nil => intro o _; exact h
  | cons v vs ih =>
    intro o ho
    have h1 := (h.stored o v).1
    rw [List.set_eq_of_length_le (by rw [ncs_len, own_len h]; exact ho)] at h1
    exact ih h1 (o + 1) (by omega)
theorem Far.setCells {S : List Nat} {w w1 : World} {g : Nat} (hg : w.heap.size ≤ g ∨ g ∈ S) (vs : List Value) (h : Far S w w1) : ∀ o, Far S w (w1.setCells g o vs) := by
  induction vs generalizing w1 with
  | nil => intro o; exact h
  | cons v vs ih => intro o; exact ih (h.setCell hg o v) (o + 1)
theorem own_cells {w : World} {base g n c : Nat} {L : List Ent} (h : w.ownsRow base 60 5 (.slice (some ⟨g, 0, none⟩) n c) n (ncs L)) {j : Nat} (hj : j < c * 5) : (w.cell? ⟨g, j, none⟩).isSome = true := by
  rcases h.2 with ⟨h', _⟩ | ⟨g', cap', cur, h', hb, hg, _, hcm, hcs, htake⟩
  · simp at h'
  · simp only [Value.slice.injEq, Option.some.injEq, Addr.mk.injEq, and_true, true_and] at h'
    obtain ⟨rfl, rfl⟩ := h'
    rw [cell_of_row w g j cur _ (0, 0) hg]
    simp; omega
section
attribute [local go_sem ↓] append_shut clear_shut
set_option maxHeartbeats 4000000 in
set_option maxRecDepth 100000 in
theorem delete_any (base g n c : Nat) (L : List Ent) (hn : n < 100000) (hc : c ≤ maxLen) (hnc : n + 1 ≤ c) (w : World) (own : w.ownsRow base 60 5 (.slice (some ⟨g, 0, none⟩) (n + 1) c) (n + 1) (ncs L)) :
    Calls Try.prog 27 #[.slice (some ⟨g, 0, none⟩) (n + 1) c, .int .i64 n, .int .i64 ((n : Int) + 1)] w fun e w' => e = .returned (.slice (some ⟨g, 0, none⟩) n c) ∧
      w'.ownsRow base 60 5 (.slice (some ⟨g, 0, none⟩) n c) n (ncs (L.take n)) ∧ Far [g] w w' := by
  have hmx : maxLen = 9223372036854775807 := rfl
  have hnc2 : n ≤ c := by omega
  obtain ⟨w1, hr, own1, hg⟩ := app_none (w := w.drew) (own_pre own.drew (show n ≤ n + 1 by omega)) hnc2
  have cr := fun ty d => clear_run (w := w1) (g := g) (o := n * 5) (d := d) (ty := ty) (fun j hj => own_cells own1 (by omega)) (fun j => own1.frozenAt j)
  have own2 := own_cleared own1 [.int .i64 0, .int .i64 0, .int .i64 0, .int .u64 0, .int .i64 0] (n * 5) (Nat.le_refl _)
  have far2 : Far [g] w (w1.setCells g (n * 5) [.int .i64 0, .int .i64 0, .int .i64 0, .int .u64 0, .int .i64 0]) := Far.setCells (.inr (by simp)) _ ((Far.refl [g] w).drew.grown hg (fun j hj => .inr (by simp at hj; simp [hj]))) _
  clear own own1 hg
  by_cases hcn : c = n + 1
  · subst hcn
    go_enter Try.func27, Try.ntmps27
    go_wp2_with fail
    go_region
    all_goals go_wp2_with fail
    all_goals go_ret
    all_goals exact ⟨rfl, own2, far2⟩
  · go_enter Try.func27, Try.ntmps27
    go_wp2_with fail
    go_region
    all_goals go_wp2_with fail
    all_goals go_ret
    all_goals exact ⟨rfl, own2, far2⟩
end
end Go.Proofs.Ytoonffglkadofaa
