/-
  Rows of packets in memory. No conditions but a ledger's own.
-/
import Derived.Test.YtpaalpnoppblaaaV18
import Derived.Test.YtpaalpnoppblaaaT
namespace Go.Proofs.Ytpaalpnoppblaaa
open Go.RowKit Go.Maps
set_option linter.unusedVariables false
set_option maxRecDepth 8000
def pc (p : Pt) : List Value := [.int .u64 p.seq, .int .i64 p.mi, .int .i64 p.size, .int .i64 p.sent]
def pcs (L : List Pt) : List Value := L.flatMap pc
theorem pcs_length (L : List Pt) : (pcs L).length = 4 * L.length := by
  induction L with
  | nil => rfl
  | cons p L ih => rw [pcs, List.flatMap_cons, List.length_append]; rw [pcs] at ih; rw [ih]; simp [pc]; omega
theorem pcs_append (L M : List Pt) : pcs (L ++ M) = pcs L ++ pcs M := by simp [pcs]
theorem pcs_one (p : Pt) : pcs [p] = pc p := by simp [pcs]
theorem infoP : (Try.prog.info? 57).map (fun i => (i.zero, i.size, i.bytes)) = some (some (pv ⟨0, 0, 0, 0⟩), 4, 32) := by kernel_rfl
theorem keys_up {s : Lg} (hs : s.ok) : (s.L.map Pt.seq).Pairwise (· < ·) := List.pairwise_map.2 hs.up
theorem keys_has {L : List Pt} (x : Int) : x ∈ L.map Pt.seq ↔ L.any (isq x) = true := by
  rw [List.mem_map, List.any_eq_true]
  constructor
  · rintro ⟨p, hp, rfl⟩; exact ⟨p, hp, by simp [isq]⟩
  · rintro ⟨p, hp, h⟩; exact ⟨p, hp, by simpa [isq] using h⟩
/-- The packet of a number is that packet. -/
theorem found_at {L : List Pt} (hu : L.Pairwise (fun p q => p.seq < q.seq)) {j : Nat} (hj : j < L.length) : foundP L (L[j]).seq = L[j] := by
  have h := find_any (L := L) (x := (L[j]).seq) (List.any_eq_true.2 ⟨L[j], List.getElem_mem hj, by simp [isq]⟩)
  obtain ⟨i, hi, e⟩ := List.getElem_of_mem h.1
  have h2 := h.2
  rw [← e] at h2
  rw [← e]
  have pw := List.pairwise_iff_getElem.1 hu
  rcases Nat.lt_trichotomy i j with h3 | h3 | h3
  · have := pw i j hi hj h3; omega
  · subst h3; rfl
  · have := pw j i hj hi h3; omega
theorem pc_new (w : World) (p : Pt) : ∀ j u, (pc p)[j]? = some u → (w.alloc (.cells #[.int .u64 p.seq, .int .i64 p.mi, .int .i64 p.size, .int .i64 p.sent] 57)).cell? (({ block := w.heap.size, off := 0, spot := none } : Addr).add j) = some u := by
  intro j u hu
  have hO := (Ob.fresh w #[.int .u64 p.seq, .int .i64 p.mi, .int .i64 p.size, .int .i64 p.sent] 57).cell (i := j) (v := u) hu
  rw [Go.WideShapes.add_plain, Nat.zero_add]
  exact hO
theorem pc_one (p : Pt) : ∀ u ∈ pc p, u.oneCell' = true := by
  intro u hu
  simp [pc] at hu
  rcases hu with rfl | rfl | rfl | rfl <;> rfl
end Go.Proofs.Ytpaalpnoppblaaa
