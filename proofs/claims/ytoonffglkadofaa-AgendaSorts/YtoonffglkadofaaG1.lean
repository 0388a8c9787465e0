/-
  What is to come, as plain values: a heap as a list, the order of its entries, what is told first; events as they were put. No program in this text. No conditions.
-/
import Derived.Test.YtoonffglkadofaaK
namespace Go.Proofs.Ytoonffglkadofaa
open Go.RowKit
set_option linter.unusedVariables false
structure Ev where
  a : Int
  k : Int
  o : Int
  s : Int
structure Ent where
  e : Ev
  t : Int
def Ev.z : Ev := ⟨0, 0, 0, 0⟩
def Ent.z : Ent := ⟨Ev.z, 0⟩
def so (x y : Ent) : Bool := if x.e.a = y.e.a then decide (x.t < y.t) else decide (x.e.a < y.e.a)
theorem so_yes {x y : Ent} : so x y = true ↔ (x.e.a < y.e.a ∨ x.e.a = y.e.a ∧ x.t < y.t) := by
  unfold so; split
  · rw [decide_eq_true_iff]; omega
  · rw [decide_eq_true_iff]; omega
theorem so_no {x y : Ent} : so x y = false ↔ (y.e.a < x.e.a ∨ y.e.a = x.e.a ∧ y.t ≤ x.t) := by
  rw [Bool.eq_false_iff, ne_eq, so_yes]; omega
/-- What stands at a place. -/
def pl (L : List Ent) (i : Nat) : Ent := L.getD i Ent.z
theorem pl_get {L : List Ent} {i : Nat} (h : i < L.length) : pl L i = L[i] := by simp [pl, List.getD, h]
theorem pl_some {L : List Ent} {i : Nat} (h : i < L.length) : L[i]? = some (pl L i) := by rw [pl_get h]; simp [h]
theorem pl_mem {L : List Ent} {i : Nat} (h : i < L.length) : pl L i ∈ L := by rw [pl_get h]; exact List.getElem_mem h
theorem mem_pl {L : List Ent} {x : Ent} (h : x ∈ L) : ∃ i, i < L.length ∧ pl L i = x := by
  obtain ⟨i, hi, e⟩ := List.getElem_of_mem h
  exact ⟨i, hi, by rw [pl_get hi]; exact e⟩
theorem pl_append_left {L M : List Ent} {i : Nat} (h : i < L.length) : pl (L ++ M) i = pl L i := by
  simp [pl, List.getD, List.getElem?_append_left h]
theorem pl_append_last {L : List Ent} (x : Ent) : pl (L ++ [x]) L.length = x := by simp [pl, List.getD]
/-- Two that change places. -/
def sw (L : List Ent) (i j : Nat) : List Ent := (L.set i (pl L j)).set j (pl L i)
theorem sw_len (L : List Ent) (i j : Nat) : (sw L i j).length = L.length := by simp [sw]
theorem sw_pl {L : List Ent} {i j : Nat} (hi : i < L.length) (hj : j < L.length) (k : Nat) : pl (sw L i j) k = if k = j then pl L i else if k = i then pl L j else pl L k := by
  unfold sw
  generalize pl L i = x
  generalize pl L j = y
  simp only [pl, List.getD, List.getElem?_set]
  by_cases h1 : k = j
  · subst h1; simp [hj]
  · by_cases h2 : k = i
    · subst h2; simp [h1, Ne.symm h1, hi]
    · simp [h1, h2, Ne.symm h1, Ne.symm h2]
theorem sw_perm {L : List Ent} {i j : Nat} (hi : i < L.length) (hj : j < L.length) : List.Perm (sw L i j) L := by
  unfold sw
  rw [pl_get hi, pl_get hj]
  exact List.set_set_perm hi hj
/-! ### The heap -/
def Hp (L : List Ent) : Prop := ∀ j, 0 < j → j < L.length → so (pl L j) (pl L ((j - 1) / 2)) = false
structure Up (L : List Ent) (i : Nat) : Prop where
  a : ∀ j, 0 < j → j < L.length → j ≠ i → so (pl L j) (pl L ((j - 1) / 2)) = false
  b : ∀ j, 0 < j → j < L.length → (j - 1) / 2 = i → 0 < i → so (pl L j) (pl L ((i - 1) / 2)) = false
theorem Hp.put {L : List Ent} (h : Hp L) (x : Ent) : Up (L ++ [x]) L.length := by
  refine ⟨fun j h0 h1 h2 => ?_, fun j h0 h1 h2 h3 => ?_⟩
  · rw [List.length_append, List.length_singleton] at h1
    rw [pl_append_left (by omega), pl_append_left (by omega)]
    exact h j h0 (by omega)
  · rw [List.length_append, List.length_singleton] at h1
    omega
theorem Up.top {L : List Ent} (h : Up L 0) : Hp L := fun j h0 h1 => h.a j h0 h1 (by omega)
theorem Up.stop {L : List Ent} {i : Nat} (h : Up L i) (hs : so (pl L i) (pl L ((i - 1) / 2)) = false) : Hp L := fun j h0 h1 => by
  by_cases e : j = i
  · subst e; exact hs
  · exact h.a j h0 h1 e
theorem Up.step {L : List Ent} {i : Nat} (h : Up L i) (hi : 0 < i) (hl : i < L.length) (hs : so (pl L i) (pl L ((i - 1) / 2)) = true) : Up (sw L i ((i - 1) / 2)) ((i - 1) / 2) := by
  obtain ⟨p, hp⟩ : ∃ p, p = (i - 1) / 2 := ⟨_, rfl⟩
  rw [← hp] at hs ⊢
  have hpl : p < L.length := by omega
  have S := fun k => sw_pl hl hpl k
  rw [so_yes] at hs
  refine ⟨fun j h0 h1 h2 => ?_, fun j h0 h1 h2 h3 => ?_⟩
  · rw [sw_len] at h1
    rw [S, S, if_neg h2]
    by_cases e1 : j = i
    · subst e1; rw [if_pos rfl, if_pos (by omega), so_no]; omega
    · rw [if_neg e1]
      have A := h.a j h0 h1 e1
      by_cases e2 : (j - 1) / 2 = p
      · rw [if_pos e2, so_no]; rw [e2, so_no] at A; omega
      · rw [if_neg e2]
        by_cases e3 : (j - 1) / 2 = i
        · rw [if_pos e3, hp]; exact h.b j h0 h1 e3 hi
        · rw [if_neg e3]; exact A
  · rw [sw_len] at h1
    have B := h.a p (by omega) hpl (by omega)
    rw [S, S, if_neg (by omega : ¬ (p - 1) / 2 = p), if_neg (by omega : ¬ (p - 1) / 2 = i), if_neg (by omega : ¬ j = p)]
    by_cases e1 : j = i
    · rw [if_pos e1]; exact B
    · rw [if_neg e1]
      have A := h.a j h0 h1 e1
      rw [h2] at A
      rw [so_no] at A B ⊢
      omega
/-- One of two places, the second if it is there and sooner. -/
def fs (L : List Ent) (m j : Nat) : Nat := if j < L.length ∧ so (pl L j) (pl L m) = true then j else m
def fa (L : List Ent) (i : Nat) : Nat := fs L (fs L i (2 * i + 1)) (2 * i + 2)
structure Dn (L : List Ent) (i : Nat) : Prop where
  a : ∀ j, 0 < j → j < L.length → (j - 1) / 2 ≠ i → so (pl L j) (pl L ((j - 1) / 2)) = false
  b : ∀ j, 0 < j → j < L.length → (j - 1) / 2 = i → 0 < i → so (pl L j) (pl L ((i - 1) / 2)) = false
theorem fs_or (L : List Ent) (m j : Nat) : (fs L m j = j ∧ j < L.length ∧ so (pl L j) (pl L m) = true) ∨ (fs L m j = m ∧ (j < L.length → so (pl L j) (pl L m) = false)) := by
  unfold fs; split
  · rename_i h; exact .inl ⟨rfl, h⟩
  · rename_i h; refine .inr ⟨rfl, fun hj => ?_⟩
    rw [Bool.eq_false_iff]; exact fun e => h ⟨hj, e⟩
theorem fa_cases (L : List Ent) (i : Nat) : (fa L i = i ∧ (∀ j, j = 2 * i + 1 ∨ j = 2 * i + 2 → j < L.length → so (pl L j) (pl L i) = false)) ∨
    ((fa L i = 2 * i + 1 ∨ fa L i = 2 * i + 2) ∧ fa L i < L.length ∧ so (pl L (fa L i)) (pl L i) = true ∧ ∀ j, j = 2 * i + 1 ∨ j = 2 * i + 2 → j < L.length → so (pl L j) (pl L (fa L i)) = false) := by
  unfold fa
  rcases fs_or L i (2 * i + 1) with ⟨e1, l1, s1⟩ | ⟨e1, s1⟩
  · rw [e1]
    rcases fs_or L (2 * i + 1) (2 * i + 2) with ⟨e2, l2, s2⟩ | ⟨e2, s2⟩
    · rw [e2]
      rw [so_yes] at s1 s2
      refine .inr ⟨.inr rfl, l2, by rw [so_yes]; omega, fun j hj hl => ?_⟩
      rw [so_no]
      rcases hj with rfl | rfl <;> omega
    · rw [e2]
      refine .inr ⟨.inl rfl, l1, s1, fun j hj hl => ?_⟩
      rcases hj with rfl | rfl
      · rw [so_no]; omega
      · exact s2 hl
  · rw [e1]
    rcases fs_or L i (2 * i + 2) with ⟨e2, l2, s2⟩ | ⟨e2, s2⟩
    · rw [e2]
      refine .inr ⟨.inr rfl, l2, s2, fun j hj hl => ?_⟩
      rcases hj with rfl | rfl
      · have := s1 hl
        rw [so_no] at this ⊢
        rw [so_yes] at s2
        omega
      · rw [so_no]; omega
    · rw [e2]
      refine .inl ⟨rfl, fun j hj hl => ?_⟩
      rcases hj with rfl | rfl
      · exact s1 hl
      · exact s2 hl
theorem fa_lt {L : List Ent} {i : Nat} (h : fa L i ≠ i) : i < fa L i ∧ fa L i < L.length := by
  rcases fa_cases L i with ⟨e, _⟩ | ⟨e, l, _⟩
  · exact absurd e h
  · exact ⟨by omega, l⟩
theorem Dn.stop {L : List Ent} {i : Nat} (h : Dn L i) (e : fa L i = i) : Hp L := fun j h0 h1 => by
  by_cases hp : (j - 1) / 2 = i
  · rcases fa_cases L i with ⟨_, c⟩ | ⟨c, _⟩
    · rw [hp]; exact c j (by omega) h1
    · omega
  · exact h.a j h0 h1 hp
theorem Dn.step {L : List Ent} {i : Nat} (h : Dn L i) (e : fa L i ≠ i) : Dn (sw L i (fa L i)) (fa L i) := by
  obtain ⟨hlt, hl⟩ := fa_lt e
  rcases fa_cases L i with ⟨e', _⟩ | ⟨c1, _, c2, c3⟩
  · exact absurd e' e
  generalize fa L i = m at *
  have S := fun k => sw_pl (show i < L.length by omega) hl k
  rw [so_yes] at c2
  refine ⟨fun j h0 h1 h2 => ?_, fun j h0 h1 h2 h3 => ?_⟩
  · rw [sw_len] at h1
    rw [S, S, if_neg h2]
    by_cases e1 : j = m
    · rw [if_pos e1, if_pos (by omega), so_no]; omega
    · rw [if_neg e1]
      by_cases e2 : j = i
      · rw [if_pos e2, if_neg (by omega)]
        subst e2
        exact h.b m (by omega) hl (by omega) h0
      · rw [if_neg e2]
        by_cases e3 : (j - 1) / 2 = i
        · rw [if_pos e3]; exact c3 j (by omega) h1
        · rw [if_neg e3]; exact h.a j h0 h1 e3
  · rw [sw_len] at h1
    rw [S, S, if_neg (by omega : ¬ j = m), if_neg (by omega : ¬ j = i), if_neg (by omega : ¬ (m - 1) / 2 = m), if_pos (by omega : (m - 1) / 2 = i)]
    have := h.a j h0 h1 (by omega)
    rwa [h2] at this
/-- The last one put in the first one's place. -/
def dl (L : List Ent) : List Ent := (sw L 0 (L.length - 1)).take (L.length - 1)
theorem dl_len (L : List Ent) : (dl L).length = L.length - 1 := by simp [dl, sw_len]
theorem dl_pl {L : List Ent} {k : Nat} (hk : k < L.length - 1) : pl (dl L) k = if k = 0 then pl L (L.length - 1) else pl L k := by
  have h := sw_pl (L := L) (i := 0) (j := L.length - 1) (by omega) (by omega) k
  rw [if_neg (by omega)] at h
  rw [← h]
  simp [dl, pl, List.getD, hk]
theorem dl_perm {L : List Ent} (h : 0 < L.length) : List.Perm (pl L 0 :: dl L) L := by
  have hs : sw L 0 (L.length - 1) = dl L ++ [pl L 0] := by
    have e := (List.take_append_drop (L.length - 1) (sw L 0 (L.length - 1))).symm
    rw [e]
    unfold dl
    congr 1
    apply List.ext_getElem?
    intro i
    rw [List.getElem?_drop]
    by_cases hi : i = 0
    · subst hi
      rw [pl_some (by rw [sw_len]; omega), sw_pl (by omega) (by omega)]
      simp
    · rw [List.getElem?_eq_none (by rw [sw_len]; omega), List.getElem?_eq_none (by simp; omega)]
  have p := sw_perm (L := L) (i := 0) (j := L.length - 1) h (by omega)
  rw [hs] at p
  exact (List.perm_append_comm (l₁ := [pl L 0]) (l₂ := dl L)).trans p
theorem Hp.cut {L : List Ent} (h : Hp L) : Dn (dl L) 0 := by
  refine ⟨fun j h0 h1 h2 => ?_, fun j h0 h1 h2 h3 => absurd h3 (by omega)⟩
  rw [dl_len] at h1
  rw [dl_pl h1, dl_pl (by omega), if_neg (by omega), if_neg h2]
  exact h j h0 (by omega)
theorem Hp.least {L : List Ent} (h : Hp L) : ∀ n i, i ≤ n → i < L.length → so (pl L i) (pl L 0) = false := by
  intro n
  induction n with
  | zero => intro i hi hl; obtain rfl : i = 0 := by omega
            rw [so_no]; omega
  | succ n ih =>
    intro i hi hl
    by_cases h0 : i = 0
    · subst h0; rw [so_no]; omega
    · have A := h i (by omega) hl
      have B := ih ((i - 1) / 2) (by omega) (by omega)
      rw [so_no] at A B ⊢
      omega
/-! ### Events as they were put -/
def evp (l : List Ev) (i : Nat) : Ev := l.getD i Ev.z
theorem evp_get {l : List Ev} {i : Nat} (h : i < l.length) : evp l i = l[i] := by simp [evp, List.getD, h]
theorem evp_some {l : List Ev} {i : Nat} (h : i < l.length) : l[i]? = some (evp l i) := by rw [evp_get h]; simp [h]
/-- The place of the first one of so many; -1: there is none. -/
def fi (l : List Ev) : Nat → Int
  | 0 => -1
  | i + 1 => if fi l i < 0 ∨ (evp l i).a < (evp l (fi l i).toNat).a then i else fi l i
theorem fi_spec (l : List Ev) : ∀ n, 0 < n → ∃ k : Nat, k < n ∧ fi l n = k ∧ ∀ j, j < n → (evp l k).a ≤ (evp l j).a ∧ (j < k → (evp l k).a < (evp l j).a) := by
  intro n
  induction n with
  | zero => intro h; omega
  | succ n ih =>
    intro _
    unfold fi
    by_cases h0 : n = 0
    · subst h0
      refine ⟨0, by omega, by simp [fi], fun j hj => ?_⟩
      obtain rfl : j = 0 := by omega
      exact ⟨Int.le_refl _, by omega⟩
    · obtain ⟨k, hk, e, hj⟩ := ih (by omega)
      rw [e]
      by_cases c : (evp l n).a < (evp l k).a
      · refine ⟨n, by omega, by rw [if_pos (.inr (by simpa using c))], fun j hjn => ?_⟩
        by_cases e1 : j = n
        · subst e1; exact ⟨Int.le_refl _, by omega⟩
        · have := (hj j (by omega)).1
          exact ⟨by omega, fun _ => by omega⟩
      · refine ⟨k, by omega, by rw [if_neg (by simp; omega)], fun j hjn => ?_⟩
        by_cases e1 : j = n
        · subst e1; exact ⟨by omega, by omega⟩
        · exact hj j (by omega)
def mi (l : List Ev) : Nat := (fi l l.length).toNat
theorem mi_spec {l : List Ev} (h : 0 < l.length) : mi l < l.length ∧ fi l l.length = mi l ∧ ∀ j, j < l.length → (evp l (mi l)).a ≤ (evp l j).a ∧ (j < mi l → (evp l (mi l)).a < (evp l j).a) := by
  obtain ⟨k, hk, e, hj⟩ := fi_spec l l.length h
  have : mi l = k := by unfold mi; rw [e]; simp
  rw [this]
  exact ⟨hk, e, hj⟩
/-- What is left, and what is told. -/
def re (l : List Ev) : Nat → List Ev
  | 0 => l
  | i + 1 => (re l i).eraseIdx (mi (re l i))
def me (l : List Ev) (i : Nat) : Ev := evp (re l i) (mi (re l i))
def te (l : List Ev) : Nat → List Ev
  | 0 => []
  | i + 1 => te l i ++ [me l i]
theorem re_len (l : List Ev) : ∀ i, i ≤ l.length → (re l i).length = l.length - i := by
  intro i
  induction i with
  | zero => intro _; rfl
  | succ i ih =>
    intro h
    have e := ih (by omega)
    have := (mi_spec (l := re l i) (by omega)).1
    unfold re
    rw [List.length_eraseIdx, if_pos this]
    omega
theorem te_len (l : List Ev) (i : Nat) : (te l i).length = i := by
  induction i with
  | zero => rfl
  | succ i ih => simp [te, ih]
theorem te_get (l : List Ev) {n i : Nat} (h : i < n) : (te l n)[i]? = some (me l i) := by
  induction n with
  | zero => omega
  | succ n ih =>
    unfold te
    by_cases e : i = n
    · subst e; rw [List.getElem?_append_right (by rw [te_len]; omega), te_len]; simp
    · rw [List.getElem?_append_left (by rw [te_len]; omega)]; exact ih (by omega)
theorem re_add (l : List Ev) (i : Nat) : ∀ j, re (re l i) j = re l (i + j) := by
  intro j
  induction j with
  | zero => rfl
  | succ j ih => show (re (re l i) j).eraseIdx (mi (re (re l i) j)) = (re l (i + j)).eraseIdx (mi (re l (i + j))); rw [ih]
theorem me_add (l : List Ev) (i j : Nat) : me (re l i) j = me l (i + j) := by unfold me; rw [re_add]
/-- What is peeked, and whether. -/
def pkb (l : List Ev) : Bool := decide (0 < l.length)
def pke (l : List Ev) : Ev := if 0 < l.length then me l 0 else Ev.z
/-- Whether the next one is told, and which. -/
def nxb (l : List Ev) (t : Int) : Bool := decide (0 < l.length) && decide ((me l 0).a ≤ t)
def nxe (l : List Ev) (t : Int) : Ev := if nxb l t = true then me l 0 else Ev.z
/-! ### Both together -/
def es (R : List Ent) : List Ev := R.map (·.e)
theorem es_len (R : List Ent) : (es R).length = R.length := by simp [es]
theorem es_pl {R : List Ent} {i : Nat} (h : i < R.length) : evp (es R) i = (pl R i).e := by
  rw [evp_get (by rw [es_len]; exact h), pl_get h]; simp [es]
structure Fit (L R : List Ent) (T : Int) : Prop where
  perm : List.Perm L R
  hp : Hp L
  up : R.Pairwise (fun x y => x.t < y.t)
  tb : ∀ x ∈ R, x.t < T
theorem Fit.len {L R : List Ent} {T : Int} (h : Fit L R T) : L.length = R.length := h.perm.length_eq
theorem Fit.nil (T : Int) : Fit [] [] T := ⟨.nil, fun j _ h => by simp at h, .nil, fun x h => by simp at h⟩
theorem up_pl {R : List Ent} (h : R.Pairwise (fun x y => x.t < y.t)) {i j : Nat} (hij : i < j) (hj : j < R.length) : (pl R i).t < (pl R j).t := by
  rw [pl_get (by omega), pl_get hj]
  exact List.pairwise_iff_getElem.1 h i j (by omega) hj hij
theorem Fit.first {L R : List Ent} {T : Int} (h : Fit L R T) (hn : 0 < R.length) : pl L 0 = pl R (mi (es R)) := by
  obtain ⟨m1, _, m3⟩ := mi_spec (l := es R) (by rw [es_len]; exact hn)
  rw [es_len] at m1 m3
  obtain ⟨k, hk, e⟩ := mem_pl (h.perm.mem_iff.1 (pl_mem (L := L) (i := 0) (by rw [h.len]; exact hn)))
  obtain ⟨p, hp, e'⟩ := mem_pl (h.perm.mem_iff.2 (pl_mem m1))
  have A := h.hp.least p p (Nat.le_refl _) hp
  rw [e', ← e] at A
  rw [← e]
  rw [so_no] at A
  have B := m3 k hk
  rw [es_pl m1, es_pl hk] at B
  by_cases c1 : k < mi (es R)
  · have := B.2 c1; omega
  · by_cases c2 : mi (es R) < k
    · have := up_pl h.up c2 hk; omega
    · rw [show k = mi (es R) by omega]
theorem Fit.put {L R L' : List Ent} {T : Int} (h : Fit L R T) (e : Ev) (hp : Hp L') (hm : List.Perm L' (L ++ [⟨e, T⟩])) : Fit L' (R ++ [⟨e, T⟩]) (T + 1) := by
  refine ⟨hm.trans (h.perm.append_right _), hp, ?_, fun x hx => ?_⟩
  · rw [List.pairwise_append]
    refine ⟨h.up, List.pairwise_singleton _ _, fun x hx y hy => ?_⟩
    obtain rfl := List.mem_singleton.1 hy
    exact h.tb x hx
  · rcases List.mem_append.1 hx with hx | hx
    · have := h.tb x hx; omega
    · obtain rfl := List.mem_singleton.1 hx
      show T < T + 1
      omega
theorem perm_erase {R : List Ent} {k : Nat} (h : k < R.length) : List.Perm R (pl R k :: R.eraseIdx k) := by
  induction R generalizing k with
  | nil => simp at h
  | cons x R ih =>
    cases k with
    | zero => exact List.Perm.refl _
    | succ k =>
      have e : pl (x :: R) (k + 1) = pl R k := by simp [pl, List.getD]
      rw [e]
      exact ((ih (by simpa using h)).cons x).trans (List.Perm.swap _ _ _)
theorem Fit.take {L R L' : List Ent} {T : Int} (h : Fit L R T) (hn : 0 < R.length) (hp : Hp L') (hm : List.Perm L' (dl L)) : Fit L' (R.eraseIdx (mi (es R))) T := by
  have m1 := (mi_spec (l := es R) (by rw [es_len]; exact hn)).1
  rw [es_len] at m1
  have p1 := (dl_perm (L := L) (by rw [h.len]; exact hn)).trans (h.perm.trans (perm_erase m1))
  rw [h.first hn] at p1
  exact ⟨hm.trans (List.Perm.cons_inv p1), hp, h.up.sublist (List.eraseIdx_sublist _ _), fun x hx => h.tb x ((List.eraseIdx_sublist _ _).subset hx)⟩
theorem es_erase (R : List Ent) (k : Nat) : es (R.eraseIdx k) = (es R).eraseIdx k := by
  induction R generalizing k with
  | nil => rfl
  | cons x R ih => cases k with
    | zero => rfl
    | succ k => show x.e :: es (R.eraseIdx k) = x.e :: (es R).eraseIdx k; rw [ih]
theorem es_put (R : List Ent) (x : Ent) : es (R ++ [x]) = es R ++ [x.e] := by simp [es]
end Go.Proofs.Ytoonffglkadofaa
