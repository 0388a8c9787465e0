/-
  Rows of packets that are read; two rows the same? No conditions but the rows'.
-/
import Derived.Test.YtpaalpnoppblaaaV20
namespace Go.Proofs.Ytpaalpnoppblaaa
open Go.RowKit Go.Maps
set_option linter.unusedVariables false
set_option maxRecDepth 8000
theorem pcs_get : ∀ (L : List Pt) (i : Nat) (h : i < L.length), (pcs L)[4 * i]? = some (.int .u64 (L[i]).seq) ∧ (pcs L)[4 * i + 1]? = some (.int .i64 (L[i]).mi) ∧ (pcs L)[4 * i + 2]? = some (.int .i64 (L[i]).size) ∧ (pcs L)[4 * i + 3]? = some (.int .i64 (L[i]).sent)
  | p :: L, 0, _ => ⟨rfl, rfl, rfl, rfl⟩
  | p :: L, i + 1, h => by
    have := pcs_get L i (by simpa using h)
    have e : pcs (p :: L) = pc p ++ pcs L := by simp [pcs]
    have s : (pc p).length = 4 := rfl
    rw [e]
    refine ⟨?_, ?_, ?_, ?_⟩
    · rw [List.getElem?_append_right (by omega), s, show 4 * (i + 1) - 4 = 4 * i by omega]; exact this.1
    · rw [List.getElem?_append_right (by omega), s, show 4 * (i + 1) + 1 - 4 = 4 * i + 1 by omega]; exact this.2.1
    · rw [List.getElem?_append_right (by omega), s, show 4 * (i + 1) + 2 - 4 = 4 * i + 2 by omega]; exact this.2.2.1
    · rw [List.getElem?_append_right (by omega), s, show 4 * (i + 1) + 3 - 4 = 4 * i + 3 by omega]; exact this.2.2.2
/-- A row of packets in memory. -/
structure Pks (w : World) (ao : Option Addr) (n c : Nat) (L : List Pt) : Prop where
  len : L.length = n
  cap : n ≤ c
  max : c ≤ maxLen
  nil : ao = none → c = 0
  at' : 0 < n → ∃ b, ao = some ⟨b, 0, none⟩ ∧ b < w.heap.size ∧ ∀ i (h : i < L.length), w.cell? ⟨b, i * 4, none⟩ = some (.int .u64 (L[i]).seq) ∧ w.cell? ⟨b, i * 4 + 1, none⟩ = some (.int .i64 (L[i]).mi) ∧ w.cell? ⟨b, i * 4 + 2, none⟩ = some (.int .i64 (L[i]).size) ∧ w.cell? ⟨b, i * 4 + 3, none⟩ = some (.int .i64 (L[i]).sent)
theorem Pks.own {w : World} {base : Nat} {v : Value} {n : Nat} {L : List Pt} (h : w.ownsRow base 57 4 v n (pcs L)) : ∃ ao c, v = .slice ao n c ∧ Pks w ao n c L := by
  have hl : L.length = n := by have := h.1; rw [pcs_length] at this; omega
  rcases h.2 with ⟨rfl, rfl⟩ | ⟨g, cap, cur, rfl, hb, hg, h1, h2, h3, h4⟩
  · exact ⟨none, 0, rfl, hl, Nat.le_refl _, by unfold maxLen; omega, fun _ => rfl, fun h => absurd h (by omega)⟩
  · refine ⟨some ⟨g, 0, none⟩, cap, rfl, hl, h1, h2, fun h => by simp at h, fun _ => ⟨g, rfl, (Array.getElem?_eq_some_iff.1 hg).1, fun i hi => ?_⟩⟩
    have key : ∀ j v, j < n * 4 → (pcs L)[j]? = some v → w.cell? ⟨g, j, none⟩ = some v := fun j v hj hv => by
      rw [← h4, List.getElem?_take, if_pos hj] at hv
      simp only [World.cell?, hg]
      simpa using hv
    obtain ⟨p0, p1, p2, p3⟩ := pcs_get L i hi
    exact ⟨key _ _ (by omega) (by rw [Nat.mul_comm]; exact p0), key _ _ (by omega) (by rw [Nat.mul_comm]; exact p1), key _ _ (by omega) (by rw [Nat.mul_comm]; exact p2), key _ _ (by omega) (by rw [Nat.mul_comm]; exact p3)⟩
theorem Pks.far {S : List Nat} {w w1 : World} {ao : Option Addr} {n c : Nat} {L : List Pt} (h : Pks w ao n c L) (k : Far S w w1) (hS : ∀ b o, ao = some ⟨b, o, none⟩ → b ∉ S) : Pks w1 ao n c L := by
  refine ⟨h.len, h.cap, h.max, h.nil, fun hn => ?_⟩
  obtain ⟨b, e, hl, hc⟩ := h.at' hn
  have hb := k.block b hl (hS b 0 e)
  exact ⟨b, e, Nat.lt_of_lt_of_le hl k.size, fun i hi => ⟨(World.cell?_of_block (a := ⟨b, _, none⟩) hb).trans (hc i hi).1, (World.cell?_of_block (a := ⟨b, _, none⟩) hb).trans (hc i hi).2.1, (World.cell?_of_block (a := ⟨b, _, none⟩) hb).trans (hc i hi).2.2.1, (World.cell?_of_block (a := ⟨b, _, none⟩) hb).trans (hc i hi).2.2.2⟩⟩
theorem Pks.below {w w1 : World} {ao : Option Addr} {n c : Nat} {L : List Pt} (h : Pks w ao n c L) (k : Below w.heap.size w w1) : Pks w1 ao n c L := h.far (Far.of_below k) (fun _ _ _ => by simp)
theorem eqPt (p q : Pt) (w : World) : (Op.equalIn 10000 57 (.agg #[.int .u64 p.seq, .int .i64 p.mi, .int .i64 p.size, .int .i64 p.sent]) (.agg #[.int .u64 q.seq, .int .i64 q.mi, .int .i64 q.size, .int .i64 q.sent])).run Try.prog w = .ok (decide (p = q)) w := by
  have u1 := Try.underlying22
  have u3 := Try.underlying3
  have a1 := Try.isAgg22
  have a3 := Try.isAgg3
  have z1 := Try.sizeOf22
  have z3 := Try.sizeOf3
  rw [run_equalIn_struct w 9999 _ _ _ (by simp [Program.fieldsOf, Try.underlying57]) (by kernel_rfl)]
  simp only [Program.fieldsOf, Try.underlying57]
  go_simp
  obtain ⟨a, b, c, d⟩ := p
  obtain ⟨a', b', c', d'⟩ := q
  by_cases h1 : a = a' <;> by_cases h2 : b = b' <;> by_cases h3 : c = c' <;> by_cases h4 : d = d' <;> simp [h1, h2, h3, h4]
set_option maxHeartbeats 1000000 in
theorem same_any (ao ao' : Option Addr) (n n' c c' : Nat) (A B : List Pt) (w : World) (hA : Pks w ao n c A) (hB : Pks w ao' n' c' B) :
    Calls Try.prog 29 #[.slice ao n c, .slice ao' n' c'] w fun e w' => e = .returned (.bool (decide (A = B))) ∧ Below w.heap.size w w' := by
  have hcap := hA.cap; have hmax := hA.max; have hcap' := hB.cap; have hmax' := hB.max
  have hmx : maxLen = 9223372036854775807 := rfl
  have hla := hA.len
  have hlb := hB.len
  go_enter Try.func29, Try.ntmps29
  by_cases hn : n = n'
  · subst hn
    go_wp2_with fail
    go_loopw [5] (fun vi wr => ∃ i : Nat, i ≤ n ∧ vi = .int .i64 i ∧ (∀ j (h1 : j < A.length) (h2 : j < B.length), j < i → A[j] = B[j]) ∧ Below w.heap.size w wr) (fun vi _ => n - (intOf vi).toNat)
    case atStart => exact ⟨0, Nat.zero_le _, rfl, fun j _ _ h => absurd h (Nat.not_lt_zero j), by go_grown⟩
    case round =>
      obtain ⟨i, hi, rfl, hsame, hb⟩ := hrel
      by_cases hin : i < n
      · obtain ⟨b, rfl, hbl, hc⟩ := (hA.below hb).at' (by omega)
        obtain ⟨b', rfl, hbl', hc'⟩ := (hB.below hb).at' (by omega)
        obtain ⟨a0, a1, a2, a3⟩ := hc i (by omega)
        obtain ⟨b0, b1, b2, b3⟩ := hc' i (by omega)
        obtain ⟨p, hp⟩ : ∃ p, A[i]'(by omega) = p := ⟨_, rfl⟩
        obtain ⟨q, hq⟩ : ∃ q, B[i]'(by omega) = q := ⟨_, rfl⟩
        rw [hp] at a0 a1 a2 a3
        rw [hq] at b0 b1 b2 b3
        clear hc hc'
        have hq1 : Hid ((∀ j (h1 : j < A.length) (h2 : j < B.length), j < i → A[j] = B[j]) ∧ A[i]'(by omega) = p ∧ B[i]'(by omega) = q) := ⟨hsame, hp, hq⟩
        clear hsame hp hq
        have EQ := fun w => eqPt p q w
        have hb2 : ∀ k, Below w.heap.size w (wr.drewN k) := fun k => hb.trans ⟨rfl, rfl, rfl, Nat.le_refl _, fun _ _ => rfl⟩
        by_cases hpq : p = q
        · have hd : decide (p = q) = true := by simp [hpq]
          simp only [hd] at EQ
          have hs2 : Hid (∀ j (h1 : j < A.length) (h2 : j < B.length), j < i + 1 → A[j] = B[j]) := fun j g1 g2 g3 => by
            rcases Nat.lt_or_ge j i with g | g
            · exact hq1.1 j g1 g2 g
            · obtain rfl : j = i := by omega
              exact hq1.2.1.trans (hpq.trans hq1.2.2.symm)
          go_wp2_with fail
          go_quiet (fail)
          go_wp2_with fail
          exact ⟨⟨i + 1, by omega, by simp, hs2, hb2 _⟩, by simp only [intOf]; omega⟩
        · have hd : decide (p = q) = false := by simp [hpq]
          simp only [hd] at EQ
          have hne : A ≠ B := fun h => by
            subst h
            exact hpq (hq1.2.1.symm.trans hq1.2.2)
          go_wp2_with fail
          go_quiet (fail)
          go_wp2_with fail
          go_ret
          exact ⟨by simp [hne], hb2 _⟩
      · have e : A = B := by
          refine List.ext_getElem (by omega) fun j h1 h2 => hsame j h1 h2 (by omega)
        go_wp2_with fail
        go_ret
        exact ⟨by simp [e], hb⟩
  · have hne : A ≠ B := fun h => hn (by rw [← hla, ← hlb, h])
    go_wp2_with fail
    go_ret
    exact ⟨by simp [hne], by go_grown⟩
end Go.Proofs.Ytpaalpnoppblaaa
