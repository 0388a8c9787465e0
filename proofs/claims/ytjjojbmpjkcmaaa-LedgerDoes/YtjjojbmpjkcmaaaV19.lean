/-
  Rows of packets in memory; the program's ledger told, by rising numbers. No conditions but a ledger's own.
-/
import Derived.Test.YtjjojbmpjkcmaaaV13
import Derived.Test.YtjjojbmpjkcmaaaV18
import Derived.Test.YtjjojbmpjkcmaaaT
namespace Go.Proofs.Ytjjojbmpjkcmaaa
open Go.RowKit Go.Maps
set_option linter.unusedVariables false
def pc (p : Pt) : List Value := [.int .u64 p.seq, .int .i64 p.mi, .int .i64 p.size, .int .i64 p.sent]
def pcs (L : List Pt) : List Value := L.flatMap pc
theorem pcs_length (L : List Pt) : (pcs L).length = 4 * L.length := by
  induction L with
  | nil => rfl
  | cons p L ih => rw [pcs, List.flatMap_cons, List.length_append]; rw [pcs] at ih; rw [ih]; simp [pc]; omega
theorem pcs_append (L M : List Pt) : pcs (L ++ M) = pcs L ++ pcs M := by simp [pcs]
theorem pcs_one (p : Pt) : pcs [p] = pc p := by simp [pcs]
theorem infoP : (Try.prog.info? 36).map (fun i => (i.zero, i.size, i.bytes)) = some (some (pv ⟨0, 0, 0, 0⟩), 4, 32) := by kernel_rfl
theorem keys_up {s : Lg} (hs : s.ok) : (s.L.map Pt.seq).Pairwise (· < ·) := List.pairwise_map.2 hs.up
theorem keys_has {L : List Pt} (x : Int) : x ∈ L.map Pt.seq ↔ L.any (isq x) = true := by
  rw [List.mem_map, List.any_eq_true]
  constructor
  · rintro ⟨p, hp, rfl⟩; exact ⟨p, hp, by simp [isq]⟩
  · rintro ⟨p, hp, h⟩; exact ⟨p, hp, by simpa [isq] using h⟩
/-- The packet of a number is that packet. -/
theorem found_at {L : List Pt} (hu : L.Pairwise (fun p q => p.seq < q.seq)) {j : Nat} (hj : j < L.length) : foundP L (L[j]).seq = L[j] := by
  have h := find_any (L := L) (x := (L[j]).seq) (List.any_eq_true.2 ⟨L[j], List.getElem_mem hj, by simp [isq]⟩)
  obtain ⟨i, hi, e⟩ := List.getElem_of_mem h.1
  have h2 := h.2
  rw [← e] at h2
  rw [← e]
  have pw := List.pairwise_iff_getElem.1 hu
  rcases Nat.lt_trichotomy i j with h3 | h3 | h3
  · have := pw i j hi hj h3; omega
  · subst h3; rfl
  · have := pw j i hj hi h3; omega
theorem pc_new (w : World) (p : Pt) : ∀ j u, (pc p)[j]? = some u → (w.alloc (.cells #[.int .u64 p.seq, .int .i64 p.mi, .int .i64 p.size, .int .i64 p.sent] 36)).cell? (({ block := w.heap.size, off := 0, spot := none } : Addr).add j) = some u := by
  intro j u hu
  have hO := (Ob.fresh w #[.int .u64 p.seq, .int .i64 p.mi, .int .i64 p.size, .int .i64 p.sent] 36).cell (i := j) (v := u) hu
  rw [Go.WideShapes.add_plain, Nat.zero_add]
  exact hO
theorem pc_one (p : Pt) : ∀ u ∈ pc p, u.oneCell' = true := by
  intro u hu
  simp [pc] at hu
  rcases hu with rfl | rfl | rfl | rfl <;> rfl
set_option maxHeartbeats 1000000 in
theorem open_any (lb mb : Nat) (s : Lg) (hs : s.ok) (w : World) (HL : Led w lb mb s) : Calls Try.prog 16 #[.pointer (some ⟨lb, 0, none⟩)] w fun e w' =>
    ∃ v, e = .returned v ∧ w'.ownsRow w.heap.size 36 4 v s.L.length (pcs s.L) ∧ Below w.heap.size w w' := by
  obtain ⟨c0, c1, c2, c3, c4, c5, fz⟩ := HL.cells
  have hlen := hs.len; have hr1 := hs.r1
  go_enter Try.func16, Try.ntmps16
  go_wp2_with (go_at_call 27; refine (keys_any _ _).mono ?_; rintro e w1 ⟨rfl, rfl⟩)
  have HL1 := HL.below ((Below.refl _ w).alloc (Nat.le_refl _) (.cells #[.map (some mb)] 53))
  have hb1 : Below w.heap.size w (w.alloc (.cells #[.map (some mb)] 53)) := (Below.refl _ w).alloc (Nat.le_refl _) _
  obtain ⟨D, hD, hh, ha, hz⟩ := HL1.map
  refine (sorted_any w.heap.size mb _ D (by omega) (s.L.map Pt.seq) (keys_up hs) (fun x => by rw [keys_has, hh]) (by simp; omega) _ (by simp) (by simp [go_sem]) hD).mono ?_
  rintro e w2 ⟨v, rfl, hown, hb2⟩
  rw [List.length_map] at hown
  have hwf : ∀ x ∈ s.L.map Pt.seq, (Lit.int .u64 x).wf = true := fun x hx => by
    obtain ⟨p, hp, rfl⟩ := List.mem_map.1 hx
    have := hs.inn p hp; have := hs.f0; have := hs.fo; have := hs.n1
    exact wf64 (by omega) (by omega)
  obtain ⟨ao, c, rfl, R⟩ := Row.own hown hwf
  have hb3 : Below w.heap.size w w2 := hb1.trans (hb2.mono (by simp))
  have HL2 := HL.below hb3
  obtain ⟨i0, hi, hz0, hz1, hz2⟩ := info_parts infoP
  obtain ⟨n, hn⟩ : ∃ n, s.L.length = n := ⟨_, rfl⟩
  rw [hn] at R hlen ⊢
  have HN : Hid (s.L.length = n) := hn
  clear hown hD hh ha hz hb2 hb1 HL1 c0 c1 c2 c3 c4 c5 fz hn
  go_wp2_with fail
  go_loopw [3, 15] (fun v3 v15 wr => ∃ j : Nat, j ≤ n ∧ v15 = .int .i64 j ∧ wr.ownsRow w2.heap.size 36 4 v3 j (pcs (s.L.take j)) ∧ Below w2.heap.size w2 wr) (fun _ v15 _ => n - (intOf v15).toNat)
  case atStart => exact ⟨0, Nat.zero_le _, rfl, World.ownsRow_nil _ _ _ _, Below.refl _ _⟩
  case round =>
    obtain ⟨j, hj, rfl, own, hb⟩ := hrel
    by_cases hjn : j < n
    · obtain ⟨b, o, hao, hc⟩ := R.at' (by omega)
      have hjl : j < s.L.length := by have := HN.out; omega
      obtain ⟨p, hp⟩ : ∃ p, s.L[j] = p := ⟨_, rfl⟩
      have hpm : p ∈ s.L := by rw [← hp]; exact List.getElem_mem hjl
      have HLr := HL2.below hb
      obtain ⟨c0, c1, c2, c3, c4, c5, fz⟩ := HLr.cells
      have hpi := hs.inn p hpm
      have hlk := look1_run HLr.map (k := p.seq) (by have := hs.f0; have := hs.fo; omega) (by have := hs.n1; omega)
      rw [show foundP s.L p.seq = p by rw [← hp]; exact found_at hs.up hjl] at hlk
      have hcj := hc j hjn
      have hk : (s.L.map Pt.seq).getD j 0 = p.seq := by simp [List.getD, hjl, hp]
      rw [hk] at hcj
      have hcw : wr.cell? ⟨b, o + j, none⟩ = some (.int .u64 p.seq) := (hb.cell (p := ⟨b, o + j, none⟩) (World.block_lt_of_cell? _ _ hcj)).trans hcj
      have HT : Hid (s.L.take (j + 1) = s.L.take j ++ [p]) := by
        show _ = _
        rw [List.take_succ_eq_append_getElem hjl, hp]
      clear hcj hk hp hc
      subst hao
      go_wp2_with (at_builtin; refine wpList_append_own _ rfl _ _ 40 rfl w2.heap.size 36 i0 (pv ⟨0, 0, 0, 0⟩) 4 32 Try.underlying40 hi hz0 hz1 hz2 rfl (by decide) _ _ _ rfl (own.alloc _) ⟨wr.heap.size, 0, none⟩ 1 1 (pc p) rfl rfl (pc_new _ p) (pc_one p) (by unfold maxLen; omega) (by omega) (by have := hb.size; simp; omega) ?_; intro v' w1 own1 gr1 _)
      have hb1 : Below w2.heap.size w2 w1 := (hb.alloc hb.size _).grown gr1 (by have := hb.size; simp; omega) (fun k e => (own.lt k e).1)
      rw [← pcs_one p, ← pcs_append, ← HT.out] at own1
      go_roundw
      case rel => exact ⟨j + 1, by omega, by go_num, own1, hb1⟩
      case measure => simp [intOf]; omega
    · obtain rfl : j = n := by omega
      have ht : s.L.take j = s.L := List.take_of_length_le (by have := HN.out; omega)
      rw [ht] at own
      go_wp2_with fail
      go_ret
      refine ⟨_, rfl, ?_, hb3.trans (hb.mono hb3.size)⟩
      rw [HN.out]
      rcases own.2 with ⟨h1, h2⟩ | ⟨g, cap, cur, h1, h2, r⟩
      · exact ⟨own.1, .inl ⟨h1, h2⟩⟩
      · exact ⟨own.1, .inr ⟨g, cap, cur, h1, Nat.le_trans hb3.size h2, r⟩⟩
end Go.Proofs.Ytjjojbmpjkcmaaa
