/-
  Rows of accounts in memory, wherever in its block a row begins: read, written in place, appended to, their first account left behind. No program's function in this text. No conditions.
-/
import Derived.Test.YtpaalpnoppblaaaX4b
import Derived.Test.YtpaalpnoppblaaaU11
import Derived.Deep.AppendSrc
namespace Go.Proofs.Ytpaalpnoppblaaa
open Go.RowKit Go.Maps
set_option linter.unusedVariables false
set_option maxRecDepth 8000
/-- A row of accounts. -/
structure Mis (w : World) (ao : Option Addr) (g o n c : Nat) (L : List Mi) : Prop where
  len : L.length = n
  cap : n ≤ c
  max : c ≤ maxLen
  addr : 0 < c → ao = some ⟨g, o, none⟩
  lt : 0 < c → g < w.heap.size
  els : ∀ i (h : i < L.length), w.rangeAt g (o + i * 15) (listM L[i])
  there : w.there g o (c * 15)
theorem listM_length (m : Mi) : (listM m).length = 15 := rfl
theorem Mis.nil (w : World) (g o : Nat) : Mis w none g o 0 0 [] :=
  ⟨rfl, Nat.le_refl _, by unfold maxLen; omega, fun h => absurd h (by omega), fun h => absurd h (by omega), fun i h => absurd h (Nat.not_lt_zero i), fun j hj => absurd hj (by omega)⟩
theorem Mis.far {S : List Nat} {w w1 : World} {ao : Option Addr} {g o n c : Nat} {L : List Mi} (h : Mis w ao g o n c L) (F : Far S w w1) (hg : 0 < c → g ∉ S) : Mis w1 ao g o n c L := by
  refine ⟨h.len, h.cap, h.max, h.addr, fun hc => Nat.lt_of_lt_of_le (h.lt hc) F.size, fun i hi => ?_, fun j hj => ?_⟩
  · have hc : 0 < c := by have := h.len; have := h.cap; omega
    have e := F.block g (h.lt hc) (hg hc)
    exact fun j v hv => (World.cell?_of_block (a := ⟨g, o + i * 15 + j, none⟩) e).trans (h.els i hi j v hv)
  · have hc : 0 < c := by omega
    have e := F.block g (h.lt hc) (hg hc)
    rw [World.cell?_of_block (a := ⟨g, o + j, none⟩) e, World.frozen?_of_block (a := ⟨g, o + j, none⟩) e]
    exact h.there j hj
theorem Mis.below {w w1 : World} {ao : Option Addr} {g o n c : Nat} {L : List Mi} (h : Mis w ao g o n c L) (k : Below w.heap.size w w1) : Mis w1 ao g o n c L := h.far (Far.of_below k) (fun _ => by simp)
theorem Far.setCells {S : List Nat} {w w1 : World} (h : Far S w w1) {b : Nat} (hb : w.heap.size ≤ b ∨ b ∈ S) : ∀ (vs : List Value) (o : Nat), Far S w (w1.setCells b o vs) := by
  intro vs
  induction vs generalizing w1 with
  | nil => intro o; exact h
  | cons v vs ih => intro o; exact ih (h.setCell hb o v) (o + 1)
/-- An account turned in its place. -/
theorem Mis.put {w : World} {ao : Option Addr} {g o n c : Nat} {L : List Mi} (h : Mis w ao g o n c L) {j : Nat} (hj : j < n) (m : Mi) : Mis (w.setCells g (o + j * 15) (listM m)) ao g o n c (L.set j m) := by
  have hlen := h.len; have hcap := h.cap
  refine ⟨by simp [hlen], hcap, h.max, h.addr, fun hc => by rw [setCells_size]; exact h.lt hc, fun i hi => ?_, World.there_setCells h.there _ _ _⟩
  have hi' : i < L.length := by simpa using hi
  rw [List.getElem_set]
  split
  · rename_i e
    subst e
    refine World.rangeAt_setCells_same _ _ _ _ (fun q hq => ?_)
    have := h.there (j * 15 + q) (by rw [listM_length] at hq; omega)
    rw [← Nat.add_assoc] at this
    exact this
  · rename_i e
    refine World.rangeAt_setCells_apart (h.els i hi') _ _ _ (.inr ?_)
    rw [listM_length, listM_length]
    omega
theorem Mis.value {w : World} {ao : Option Addr} {g o n c : Nat} {L : List Mi} (h : Mis w ao g o n c L) {j : Nat} (hj : j < L.length) : ao = some ⟨g, o, none⟩ ∧ g < w.heap.size := by
  have := h.len; have := h.cap
  exact ⟨h.addr (by omega), h.lt (by omega)⟩
theorem mi_run {w : World} {b o : Nat} {m : Mi} (h : w.rangeAt b o (listM m)) : (Instr.loadAt 63 (.pointer (some ⟨b, o, none⟩))).run Try.prog w = .ok (.agg #[.int .i64 m.id, .int .i64 m.fr, .int .i64 m.to, .int .i64 m.se, .int .i64 m.ac, .int .i64 m.lo, .int .i64 m.pa, .int .i64 m.hi, .int .i64 m.dr, .int .i64 m.n, .int .i64 m.st, .int .i64 m.sr, .int .i64 m.tt, .int .i64 m.tr, .int .i64 m.rr]) w := by
  obtain ⟨⟨d, hu, hd⟩, hs⟩ := mit63
  exact run_loadAt_mid w b o 63 (listM m) d h hu hd hs
theorem mi_store {w : World} {b o : Nat} {m : Mi} (h : w.there b o 15) : (Instr.storeAt 63 (.pointer (some ⟨b, o, none⟩)) (.agg #[.int .i64 m.id, .int .i64 m.fr, .int .i64 m.to, .int .i64 m.se, .int .i64 m.ac, .int .i64 m.lo, .int .i64 m.pa, .int .i64 m.hi, .int .i64 m.dr, .int .i64 m.n, .int .i64 m.st, .int .i64 m.sr, .int .i64 m.tt, .int .i64 m.tr, .int .i64 m.rr])).run Try.prog w = .ok () (w.setCells b o (listM m)) :=
  run_storeAt_mid w b o 63 (listM m).toArray h mit63.size (by kernel_rfl)
theorem Mis.there' {w : World} {ao : Option Addr} {g o n c : Nat} {L : List Mi} (h : Mis w ao g o n c L) {j : Nat} (hj : j < n) : w.there g (o + j * 15) 15 := fun q hq => by
  have hcap := h.cap
  have := h.there (j * 15 + q) (by omega)
  rw [← Nat.add_assoc] at this
  exact this
/-- The first account left behind. -/
theorem Mis.tail {w : World} {ao : Option Addr} {g o n c : Nat} {m : Mi} {L : List Mi} (h : Mis w ao g o n c (m :: L)) (bo : Option Addr) (hb : 1 < c → bo = some ⟨g, o + 15, none⟩) : Mis w bo g (o + 15) (n - 1) (c - 1) L := by
  have hlen := h.len; have hcap := h.cap; have hmax := h.max
  simp only [List.length_cons] at hlen
  refine ⟨by omega, by omega, by omega, fun hc => hb (by omega), fun hc => h.lt (by omega), fun i hi => ?_, fun j hj => ?_⟩
  · have := h.els (i + 1) (by simp only [List.length_cons]; omega)
    rw [List.getElem_cons_succ, show o + (i + 1) * 15 = o + 15 + i * 15 by omega] at this
    exact this
  · have := h.there (15 + j) (by omega)
    rw [← Nat.add_assoc] at this
    exact this
theorem infoM : (Try.prog.info? 63).map (fun i => (i.zero, i.size, i.bytes)) = some (some (.agg #[.int .i64 zeroM.id, .int .i64 zeroM.fr, .int .i64 zeroM.to, .int .i64 zeroM.se, .int .i64 zeroM.ac, .int .i64 zeroM.lo, .int .i64 zeroM.pa, .int .i64 zeroM.hi, .int .i64 zeroM.dr, .int .i64 zeroM.n, .int .i64 zeroM.st, .int .i64 zeroM.sr, .int .i64 zeroM.tt, .int .i64 zeroM.tr, .int .i64 zeroM.rr]), 15, 120) := by kernel_rfl
theorem listM_one (m : Mi) : ∀ u ∈ listM m, u.oneCell' = true := by
  intro u hu
  simp [listM] at hu
  rcases hu with rfl | rfl | rfl | rfl | rfl | rfl | rfl | rfl | rfl | rfl | rfl | rfl | rfl | rfl | rfl <;> rfl
def mcs (L : List Mi) : List Value := L.flatMap listM
theorem mcs_length (L : List Mi) : (mcs L).length = L.length * 15 := by
  induction L with
  | nil => rfl
  | cons p L ih => rw [mcs, List.flatMap_cons, List.length_append]; rw [mcs] at ih; rw [ih, listM_length, List.length_cons]; omega
theorem mcs_at {L : List Mi} {q : Nat} {v : Value} (h : (mcs L)[q]? = some v) : ∃ (i : Nat) (hi : i < L.length), i * 15 ≤ q ∧ q < i * 15 + 15 ∧ (listM L[i])[q - i * 15]? = some v := by
  induction L generalizing q with
  | nil => simp [mcs] at h
  | cons m L ih =>
    have e : mcs (m :: L) = listM m ++ mcs L := by simp [mcs]
    rw [e] at h
    by_cases hq : q < 15
    · rw [List.getElem?_append_left (by rw [listM_length]; exact hq)] at h
      exact ⟨0, by simp, by omega, by omega, by simpa using h⟩
    · rw [List.getElem?_append_right (by rw [listM_length]; omega), listM_length] at h
      obtain ⟨i, hi, h1, h2, h3⟩ := ih h
      refine ⟨i + 1, by simp; omega, by omega, by omega, ?_⟩
      rw [List.getElem_cons_succ, show q - (i + 1) * 15 = q - 15 - i * 15 by omega]; exact h3
theorem mcs_get (L : List Mi) {i : Nat} (hi : i < L.length) {j : Nat} (hj : j < 15) : (mcs L)[i * 15 + j]? = (listM L[i])[j]? := by
  induction L generalizing i with
  | nil => simp at hi
  | cons m L ih =>
    have e : mcs (m :: L) = listM m ++ mcs L := by simp [mcs]
    rw [e]
    cases i with
    | zero => rw [List.getElem?_append_left (by rw [listM_length]; omega)]; simp
    | succ i =>
      rw [List.getElem?_append_right (by rw [listM_length]; omega), listM_length, show (i + 1) * 15 + j - 15 = i * 15 + j by omega]
      simpa using ih (by simpa using hi)
theorem Mis.olds {w : World} {ao : Option Addr} {g o n c : Nat} {L : List Mi} (h : Mis w ao g o n c L) : ∀ j v, (mcs L)[j]? = some v → w.cell? ⟨g, o + j, none⟩ = some v := fun j v hv => by
  obtain ⟨i, hi, h1, h2, h3⟩ := mcs_at hv
  have := h.els i hi _ v h3
  rw [show o + i * 15 + (j - i * 15) = o + j by omega] at this
  exact this
/-- A row that was just made. -/
theorem Mis.fresh (w : World) (L : List Mi) (c : Nat) (hc : L.length ≤ c) (hm : c ≤ maxLen) (Z : Array Value) (hz : Z.size = (c - L.length) * 15) (t : TypeId) :
    Mis (w.alloc (.cells ((mcs L).toArray ++ Z) t)) (some ⟨w.heap.size, 0, none⟩) w.heap.size 0 L.length c L := by
  have hcell : ∀ j, (w.alloc (.cells ((mcs L).toArray ++ Z) t)).cell? ⟨w.heap.size, j, none⟩ = ((mcs L).toArray ++ Z)[j]? := fun j => World.cell?_alloc_new w _ _ j
  refine ⟨rfl, hc, hm, fun _ => rfl, fun _ => by simp, fun i hi j v hv => ?_, fun j hj => ⟨?_, by rw [Nat.zero_add]; exact World.frozen?_alloc_new w _ _ j⟩⟩
  · have hj : j < 15 := by have := (List.getElem?_eq_some_iff.1 hv).1; rwa [listM_length] at this
    rw [hcell, Array.getElem?_append_left (by simp [mcs_length]; omega), List.getElem?_toArray, Nat.zero_add, mcs_get L hi hj]
    exact hv
  · rw [hcell, Nat.zero_add, Array.getElem?_eq_getElem (by simp [mcs_length]; omega)]; rfl
/-- Accounts appended. -/
theorem mi_append {w : World} {ao : Option Addr} {g o n c : Nat} {L : List Mi} (ty : TypeId) (h : Mis w ao g o n c L) {x : Value} {k : Nat} {N : List Mi} (hs : Src Try.prog 15 36 x k (mcs N) w) (hk : N.length = k) (hn : n + k ≤ 1000000) :
    ∃ ao' g' o' c' w', (Builtin.append_ #[36, 36] ty #[.slice ao n c, x]).run Try.prog w = .ok (.slice ao' (n + k) c') w' ∧ Mis w' ao' g' o' (n + k) c' (L ++ N) ∧ Far (if 0 < c then [g] else []) w w' ∧ ((0 < c' → g' = g ∧ 0 < c) ∨ g' = w.heap.size) := by
  obtain ⟨i0, hi, hz0, hz1, hz2⟩ := info_parts infoM
  have hlen := h.len; have hcap := h.cap; have hmax := h.max
  have hmx : maxLen = 9223372036854775807 := rfl
  by_cases hroom : n + k ≤ c
  · rcases Nat.eq_zero_or_pos k with h0 | hk0
    · subst h0
      have hN : N = [] := List.eq_nil_of_length_eq_zero hk
      subst hN
      have hr : (Builtin.append_ #[36, 36] ty #[.slice ao n c, x]).run Try.prog w = .ok (.slice ao n c) w := by
        have hl := hs.len
        have hcc := hs.cells
        cases ao <;> simp [Builtin.append_, run_underlying Try.underlying36, sizeOf, typeInfo, hi, hz1, hl, hcap, hcc, mcs, storeCells]
      exact ⟨ao, g, o, c, w, hr, by simpa using h, Far.refl _ _, .inl fun hc => ⟨rfl, hc⟩⟩
    · have hc0 : 0 < c := by omega
      have hao := h.addr hc0
      subst hao
      have hth : ∀ j, j < (mcs N).length → (w.cell? ⟨g, o + n * 15 + j, none⟩).isSome = true ∧ w.frozen? ⟨g, o + n * 15 + j, none⟩ = false := fun j hj => by
        have := h.there (n * 15 + j) (by rw [mcs_length] at hj; omega)
        rw [← Nat.add_assoc] at this
        exact this
      have hrun := run_append_room_src (P := Try.prog) w 36 36 ty 63 i0 Try.underlying36 hi g o n c x k (mcs N) (by rw [hz1]; exact hs) hroom (by rw [hz1]; exact fun j hj => (hth j hj).1) (by rw [hz1]; exact fun j hj => (hth j hj).2)
      rw [hz1] at hrun
      refine ⟨_, g, o, c, _, hrun, ⟨by simp [hlen, hk], hroom, hmax, fun _ => rfl, fun _ => by rw [setCells_size]; exact h.lt hc0, fun i hi' => ?_, World.there_setCells h.there _ _ _⟩, by rw [if_pos hc0]; exact (Far.refl _ _).setCells (.inr (by simp)) _ _, .inl fun _ => ⟨rfl, hc0⟩⟩
      rw [List.getElem_append]
      split
      · rename_i hlt
        refine World.rangeAt_setCells_apart (h.els i hlt) _ _ _ (.inr (.inl ?_))
        rw [listM_length]; omega
      · rename_i hlt
        intro j v hv
        have hj : j < 15 := by have := (List.getElem?_eq_some_iff.1 hv).1; rwa [listM_length] at this
        have hi2 : i - L.length < N.length := by simp at hi'; omega
        have hq : (i - L.length) * 15 + j < (mcs N).length := by rw [mcs_length]; omega
        have := World.cell?_setCells_in g (mcs N) (o + n * 15) w (fun j hj => (hth j hj).1) ((i - L.length) * 15 + j) hq
        rw [show o + n * 15 + ((i - L.length) * 15 + j) = o + i * 15 + j by omega] at this
        rw [this, ← List.getElem?_eq_getElem hq, mcs_get N hi2 hj]
        exact hv
  · have hold : (Builtin.firstCells 15 n (.slice ao n c)).run Try.prog w.drew = .ok (mcs L).toArray w.drew := by
      rcases Nat.eq_zero_or_pos c with h0 | hc0
      · have hn0 : n = 0 := by omega
        have hL : L = [] := List.eq_nil_of_length_eq_zero (by omega)
        subst h0; subst hn0; subst hL
        cases ao with
        | none => exact run_firstCells_none w.drew 15 0 0 0
        | some a' => exact run_firstCells_some w.drew 15 0 a' 0 0 [] (by simp) (by intro _ _ h'; simp at h')
      · rw [h.addr hc0]
        refine run_firstCells_some w.drew 15 n ⟨g, o, none⟩ n c (mcs L) (by rw [mcs_length, hlen]) (fun j u hu => ?_)
        rw [Addr.add_lit]
        exact h.olds j u hu
    have hrun := run_append_grow_src (P := Try.prog) w 36 36 ty 63 i0 (.agg #[.int .i64 zeroM.id, .int .i64 zeroM.fr, .int .i64 zeroM.to, .int .i64 zeroM.se, .int .i64 zeroM.ac, .int .i64 zeroM.lo, .int .i64 zeroM.pa, .int .i64 zeroM.hi, .int .i64 zeroM.dr, .int .i64 zeroM.n, .int .i64 zeroM.st, .int .i64 zeroM.sr, .int .i64 zeroM.tt, .int .i64 zeroM.tr, .int .i64 zeroM.rr]) Try.underlying36 hi hz0 ao n c (mcs L) (by rw [hz1]; exact hold) x k (mcs N) (by rw [hz1]; exact hs) (by omega) (by omega) (growslice_fits (by omega) (by rw [hz2]; omega))
    have hge := grownCap_ge w (n + k) c 63
    have hcm := grownCap_le_maxLen w (n + k) c 63 (by omega)
    have hL2 : (mcs L ++ mcs N) = mcs (L ++ N) := by simp [mcs]
    rw [hL2] at hrun
    have F := Mis.fresh w.drew (L ++ N) (grownCap w (n + k) c 63) (by simp [hlen, hk]; exact hge) hcm (Builtin.zeroCells (.agg #[.int .i64 zeroM.id, .int .i64 zeroM.fr, .int .i64 zeroM.to, .int .i64 zeroM.se, .int .i64 zeroM.ac, .int .i64 zeroM.lo, .int .i64 zeroM.pa, .int .i64 zeroM.hi, .int .i64 zeroM.dr, .int .i64 zeroM.n, .int .i64 zeroM.st, .int .i64 zeroM.sr, .int .i64 zeroM.tt, .int .i64 zeroM.tr, .int .i64 zeroM.rr] : Value).cells (grownCap w (n + k) c 63 - (n + k))) (by rw [size_zeroCells]; simp [hlen, hk, Value.cells]) 63
    rw [List.length_append, hlen, hk] at F
    exact ⟨_, w.heap.size, 0, _, _, hrun, F, ((Far.refl _ w).drew).alloc _, .inr rfl⟩
end Go.Proofs.Ytpaalpnoppblaaa
