/-
  What is told, one after the other: counts, places, order. No program's function in this text. No conditions.
-/
import Derived.Test.YtoonffglkadofaaGA
import Derived.Test.YtoonffglkadofaaGB
namespace Go.Proofs.Ytoonffglkadofaa
open Go.RowKit
set_option linter.unusedVariables false
/-- Entries of events that were put one after the other. -/
def er (f : Nat → Ev) : Nat → List Ent
  | 0 => []
  | i + 1 => er f i ++ [⟨f i, i⟩]
theorem er_len (f : Nat → Ev) (n : Nat) : (er f n).length = n := by
  induction n with
  | zero => rfl
  | succ n ih => show (er f n ++ [_]).length = _; rw [List.length_append, ih]; rfl
theorem er_mem {f : Nat → Ev} {n : Nat} {x : Ent} (h : x ∈ er f n) : ∃ i : Nat, i < n ∧ x = ⟨f i, i⟩ := by
  induction n with
  | zero => cases h
  | succ n ih =>
    rcases List.mem_append.1 h with h | h
    · obtain ⟨i, hi, e⟩ := ih h; exact ⟨i, by omega, e⟩
    · exact ⟨n, by omega, List.mem_singleton.1 h⟩
theorem er_up (f : Nat → Ev) (n : Nat) : (er f n).Pairwise (fun x y => x.t < y.t) := by
  induction n with
  | zero => exact .nil
  | succ n ih =>
    show (er f n ++ [_]).Pairwise _
    rw [List.pairwise_append]
    refine ⟨ih, List.pairwise_singleton _ _, fun x hx y hy => ?_⟩
    obtain rfl := List.mem_singleton.1 hy
    obtain ⟨i, hi, rfl⟩ := er_mem hx
    show (i : Int) < n
    omega
theorem rm_len (R : List Ent) {k : Nat} (h : k ≤ R.length) : (rm R k).length = R.length - k := by
  have := re_len (es R) k (by rw [es_len]; exact h)
  rw [← rm_es, es_len, es_len] at this
  exact this
theorem rm_sub (R : List Ent) (i : Nat) : ∀ j, (rm R (i + j)).Sublist (rm R i) := by
  intro j
  induction j with
  | zero => exact List.Sublist.refl _
  | succ j ih => exact (List.eraseIdx_sublist _ _).trans ih
theorem rm_up {R : List Ent} (h : R.Pairwise (fun x y => x.t < y.t)) (k : Nat) : (rm R k).Pairwise (fun x y => x.t < y.t) := by
  have := rm_sub R 0 k
  rw [Nat.zero_add] at this
  exact h.sublist this
/-- The entry that is told at a round. -/
def yt (R : List Ent) (k : Nat) : Ent := pl (rm R k) (mi (es (rm R k)))
theorem yt_lt {R : List Ent} {k : Nat} (h : k < R.length) : mi (es (rm R k)) < (rm R k).length := by
  have hl := rm_len R (Nat.le_of_lt h)
  have := (mi_spec (l := es (rm R k)) (by rw [es_len]; omega)).1
  rwa [es_len] at this
theorem yt_me {R : List Ent} {k : Nat} (h : k < R.length) : (yt R k).e = me (es R) k := by
  rw [← rm_me]
  show _ = evp (es (rm R k)) (mi (es (rm R k)))
  rw [es_pl (yt_lt h)]
  rfl
theorem yt_mem {R : List Ent} {k : Nat} (h : k < R.length) : yt R k ∈ rm R k := pl_mem (yt_lt h)
theorem yt_in {R : List Ent} {k : Nat} (h : k < R.length) : yt R k ∈ R := by
  have := rm_sub R 0 k
  rw [Nat.zero_add] at this
  exact this.subset (yt_mem h)
theorem least_mi {R : List Ent} (up : R.Pairwise (fun x y => x.t < y.t)) (hn : 0 < R.length) : ∀ x ∈ R, so x (pl R (mi (es R))) = false := by
  intro x hx
  obtain ⟨m1, _, m3⟩ := mi_spec (l := es R) (by rw [es_len]; exact hn)
  rw [es_len] at m1 m3
  obtain ⟨j, hj, rfl⟩ := mem_pl hx
  have B := m3 j hj
  rw [es_pl m1, es_pl hj] at B
  rw [so_no]
  by_cases c1 : j < mi (es R)
  · have := B.2 c1; omega
  · by_cases c2 : mi (es R) < j
    · have := up_pl up c2 hj; omega
    · rw [show j = mi (es R) by omega]; omega
theorem erase_ne {R : List Ent} (up : R.Pairwise (fun x y => x.t < y.t)) {k : Nat} (hk : k < R.length) : ∀ x ∈ R.eraseIdx k, x.t ≠ (pl R k).t := by
  induction R generalizing k with
  | nil => simp at hk
  | cons y R ih =>
    obtain ⟨u1, u2⟩ := List.pairwise_cons.1 up
    intro x hx
    cases k with
    | zero =>
      have hx : x ∈ R := by simpa using hx
      have := u1 x hx
      show x.t ≠ y.t
      omega
    | succ k =>
      have e : pl (y :: R) (k + 1) = pl R k := by simp [pl, List.getD]
      rw [e]
      have hk' : k < R.length := by simpa using hk
      rw [List.eraseIdx_cons_succ] at hx
      rcases List.mem_cons.1 hx with rfl | hx
      · have := u1 _ (pl_mem hk'); omega
      · exact ih u2 hk' x hx
/-- What is told later is another one, and isn't sooner. -/
theorem yt_later {R : List Ent} (up : R.Pairwise (fun x y => x.t < y.t)) {j k : Nat} (hjk : j < k) (hk : k < R.length) : (yt R k).t ≠ (yt R j).t ∧ so (yt R k) (yt R j) = false := by
  have hs := rm_sub R (j + 1) (k - (j + 1))
  rw [show j + 1 + (k - (j + 1)) = k by omega] at hs
  have hm : yt R k ∈ (rm R j).eraseIdx (mi (es (rm R j))) := hs.subset (yt_mem hk)
  exact ⟨erase_ne (rm_up up j) (yt_lt (by omega)) _ hm, least_mi (rm_up up j) (by rw [rm_len R (by omega)]; omega) _ ((List.eraseIdx_sublist _ _).subset hm)⟩
/-- How many are not behind a time. -/
def ct (R : List Ent) (t : Int) : Nat := R.countP fun x => decide (x.e.a ≤ t)
theorem ct_put (f : Nat → Ev) (n : Nat) (t : Int) : ct (er f (n + 1)) t = ct (er f n) t + if (f n).a ≤ t then 1 else 0 := by
  unfold ct
  show (er f n ++ [_]).countP _ = _
  rw [List.countP_append]
  congr 1
  simp [List.countP_cons]
theorem ct_rm (R : List Ent) (t : Int) {k : Nat} (h : k < R.length) : ct (rm R k) t = ct (rm R (k + 1)) t + if (me (es R) k).a ≤ t then 1 else 0 := by
  unfold ct
  have p := (perm_erase (yt_lt h)).countP_eq (fun x => decide (x.e.a ≤ t))
  rw [p, List.countP_cons]
  show _ + (if decide ((yt R k).e.a ≤ t) = true then 1 else 0) = _
  rw [yt_me h]
  simp [rm]
theorem nx_rm (R : List Ent) (t : Int) {k : Nat} (h : k ≤ R.length) : nxb (es (rm R k)) t = (decide (k < R.length) && decide ((me (es R) k).a ≤ t)) := by
  unfold nxb
  rw [rm_me, es_len, rm_len R h]
  congr 1
  by_cases hk : k < R.length
  · simp [hk]; omega
  · simp [hk]; omega
theorem ct_none (R : List Ent) (t : Int) {k : Nat} (h : k ≤ R.length) (hx : nxb (es (rm R k)) t = false) : ct (rm R k) t = 0 := by
  have hl := rm_len R h
  unfold ct
  rw [List.countP_eq_zero]
  intro x hx'
  rw [nx_rm R t h] at hx
  by_cases hk : k < R.length
  · rw [decide_eq_true hk, Bool.true_and, decide_eq_false_iff_not] at hx
    obtain ⟨j, hj, rfl⟩ := mem_pl hx'
    have m3 := (mi_spec (l := es (rm R k)) (by rw [es_len]; omega)).2.2 j (by rw [es_len]; exact hj)
    rw [es_pl (yt_lt hk), es_pl hj] at m3
    have := yt_me hk
    unfold yt at this
    rw [this] at m3
    simp
    omega
  · have : rm R k = [] := List.eq_nil_of_length_eq_zero (by omega)
    rw [this] at hx'
    cases hx'
theorem Evs.congr {w : World} {ao : Option Addr} {n c : Nat} {f g : Nat → Ev} (h : Evs w ao n c f) (e : ∀ i, i < n → f i = g i) : Evs w ao n c g := by
  refine ⟨h.cap, h.max, fun hn => ?_⟩
  obtain ⟨b, o, ea, hl, hc⟩ := h.at' hn
  refine ⟨b, o, ea, hl, fun i hi => ?_⟩
  rw [← e i hi]
  exact hc i hi
theorem te_evp (l : List Ev) {n i : Nat} (h : i < n) : evp (te l n) i = me l i := by
  have := te_get l h
  unfold evp
  simp [List.getD, this]
theorem Evs.told {w : World} {base : Nat} {ao : Option Addr} {n c : Nat} {l : List Ev} (h : w.ownsRow base 32 4 (.slice ao n c) n (ecs (te l n))) : Evs w ao n c (me l) := (Evs.own h).congr fun i hi => te_evp l hi
/-- The slice of what lies behind a place. -/
theorem Evs.drop' {w : World} {b o n c : Nat} {f : Nat → Ev} (h : Evs w (some ⟨b, o, none⟩) n c f) {m : Nat} (hm : m ≤ n) : Evs w (if c = m then some ⟨b, o, none⟩ else some ⟨b, o + m * 4, none⟩) (n - m) (c - m) (fun i => f (m + i)) := by
  by_cases e : c = m
  · have := h.cap; have := h.max
    exact ⟨by omega, by omega, fun hn => absurd hn (by omega)⟩
  · rw [if_neg e]
    exact h.drop hm
end Go.Proofs.Ytoonffglkadofaa
