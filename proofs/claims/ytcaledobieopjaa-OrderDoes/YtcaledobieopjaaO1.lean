/-
  Orders of four trials as numbers; numbers that change places. No program in this text. No conditions.
-/
import Derived.Test.YtcaledobieopjaaQ1
namespace Go.Proofs.Ytcaledobieopjaa
set_option linter.unusedVariables false
/-- The k-th order's four trials. -/
def up0 (k : Int) : Bool := decide (k = 0) || decide (k = 1) || decide (k = 2)
def up1 (k : Int) : Bool := decide (k = 0) || decide (k = 3) || decide (k = 4)
def up2 (k : Int) : Bool := decide (k = 1) || decide (k = 3) || decide (k = 5)
def up3 (k : Int) : Bool := decide (k = 2) || decide (k = 4) || decide (k = 5)
def fourE (k : Int) : Int := if 0 ≤ k ∧ k ≤ 5 then 0 else 1
theorem six {k : Int} (h0 : 0 ≤ k) (h1 : k ≤ 5) : k = 0 ∨ k = 1 ∨ k = 2 ∨ k = 3 ∨ k = 4 ∨ k = 5 := by omega
theorem up_out {k : Int} (h : k < 0 ∨ 5 < k) : up0 k = false ∧ up1 k = false ∧ up2 k = false ∧ up3 k = false ∧ fourE k = 1 := by
  unfold up0 up1 up2 up3 fourE
  rw [if_neg (by omega)]
  simp
  omega
/-- An order's number, and whether it has one. -/
def rankv (a b c d : Bool) : Int := match a, b, c, d with
  | true, true, false, false => 0
  | true, false, true, false => 1
  | true, false, false, true => 2
  | false, true, true, false => 3
  | false, true, false, true => 4
  | false, false, true, true => 5
  | _, _, _, _ => 0
def rankE (a b c d : Bool) : Int := match a, b, c, d with
  | true, true, false, false => 0
  | true, false, true, false => 0
  | true, false, false, true => 0
  | false, true, true, false => 0
  | false, true, false, true => 0
  | false, false, true, true => 0
  | _, _, _, _ => 14
theorem rank_up {k : Int} (h0 : 0 ≤ k) (h1 : k ≤ 5) : rankv (up0 k) (up1 k) (up2 k) (up3 k) = k ∧ rankE (up0 k) (up1 k) (up2 k) (up3 k) = 0 := by
  rcases six h0 h1 with rfl | rfl | rfl | rfl | rfl | rfl <;> exact ⟨by decide, by decide⟩
/-- How many trials go up. -/
def upsN (a b c d : Bool) : Int := a.toInt + b.toInt + c.toInt + d.toInt
theorem rank_ups (a b c d : Bool) : (rankE a b c d = 0 ↔ upsN a b c d = 2) ∧ (rankE a b c d = 0 ∨ rankE a b c d = 14) ∧ (rankE a b c d ≠ 0 → rankv a b c d = 0) ∧ 0 ≤ rankv a b c d ∧ rankv a b c d ≤ 5 ∧
    (rankE a b c d = 0 → up0 (rankv a b c d) = a ∧ up1 (rankv a b c d) = b ∧ up2 (rankv a b c d) = c ∧ up3 (rankv a b c d) = d) := by
  cases a <;> cases b <;> cases c <;> cases d <;> decide
theorem up_inj {k l : Int} (hk0 : 0 ≤ k) (hk1 : k ≤ 5) (hl0 : 0 ≤ l) (hl1 : l ≤ 5) (h0 : up0 k = up0 l) (h1 : up1 k = up1 l) (h2 : up2 k = up2 l) (h3 : up3 k = up3 l) : k = l := by
  have a := (rank_up hk0 hk1).1
  rw [h0, h1, h2, h3, (rank_up hl0 hl1).1] at a
  exact a.symm

theorem rank_none {a b c d : Bool} (h : ∀ j : Int, 0 ≤ j → j < 6 → ¬ (up0 j = a ∧ up1 j = b ∧ up2 j = c ∧ up3 j = d)) : rankv a b c d = 0 ∧ rankE a b c d = 14 := by
  obtain ⟨_, h2, h3, h4, h5, h6⟩ := rank_ups a b c d
  rcases h2 with e | e
  · exact (h _ h4 (by omega) (h6 e)).elim
  · exact ⟨h3 (by omega), e⟩
theorem rank_hit {a b c d : Bool} {k : Int} (h0 : 0 ≤ k) (h1 : k ≤ 5) (h : up0 k = a ∧ up1 k = b ∧ up2 k = c ∧ up3 k = d) : rankv a b c d = k ∧ rankE a b c d = 0 := by
  obtain ⟨rfl, rfl, rfl, rfl⟩ := h
  exact rank_up h0 h1
/-- Two numbers of a row change places. -/
def swap (L : List Int) (a b : Nat) : List Int := (L.set a (L.getD b 0)).set b (L.getD a 0)
theorem swap_length (L : List Int) (a b : Nat) : (swap L a b).length = L.length := by simp [swap]
theorem getD_set (L : List Int) (a v : Nat) (x : Int) (ha : a < L.length) : (L.set a x).getD v 0 = if v = a then x else L.getD v 0 := by
  simp only [List.getD, List.getElem?_set]
  by_cases h : a = v
  · subst h; simp [ha]
  · rw [if_neg h, if_neg (fun e => h e.symm)]
theorem getD_swap (L : List Int) (a b v : Nat) (ha : a < L.length) (hb : b < L.length) : (swap L a b).getD v 0 = if v = b then L.getD a 0 else if v = a then L.getD b 0 else L.getD v 0 := by
  unfold swap
  rw [getD_set _ _ _ _ (by simpa using hb), getD_set _ _ _ _ ha]
theorem swap_self (L : List Int) (a : Nat) (ha : a < L.length) : swap L a a = L := by
  unfold swap
  rw [List.set_set]
  apply List.ext_getElem?
  intro i
  rw [List.getElem?_set]
  split
  · rename_i h; subst h; simp [ha, List.getD]
  · rfl
/-- A row's numbers are 0 to n less 1, each once. -/
structure Places (L : List Int) (n : Nat) : Prop where
  len : L.length = n
  bd : ∀ a, a < n → 0 ≤ L.getD a 0 ∧ L.getD a 0 < n
  inj : ∀ a b, a < n → b < n → L.getD a 0 = L.getD b 0 → a = b
theorem Places.swap {L : List Int} {n a b : Nat} (h : Places L n) (ha : a < n) (hb : b < n) : Places (swap L a b) n := by
  have la : a < L.length := by rw [h.len]; exact ha
  have lb : b < L.length := by rw [h.len]; exact hb
  refine ⟨by rw [swap_length, h.len], fun v hv => ?_, fun u v hu hv e => ?_⟩
  · rw [getD_swap L a b v la lb]
    split
    · exact h.bd a ha
    · split
      · exact h.bd b hb
      · exact h.bd v hv
  · rw [getD_swap L a b u la lb, getD_swap L a b v la lb] at e
    have I := h.inj
    split at e <;> split at e <;> (try split at e) <;> (try split at e)
    all_goals
      first
        | omega
        | (have := I _ _ ha ha e; omega)
        | (have := I _ _ ha hb e; omega)
        | (have := I _ _ hb ha e; omega)
        | (have := I _ _ ha hv e; omega)
        | (have := I _ _ hb hv e; omega)
        | (have := I _ _ hu ha e; omega)
        | (have := I _ _ hu hb e; omega)
        | (have := I _ _ hu hv e; omega)
        | (have := I _ _ hb hb e; omega)
/-- The numbers 0 to n less 1. -/
def countup (n : Nat) : List Int := (List.range n).map (fun j : Nat => (j : Int))
theorem countup_length (n : Nat) : (countup n).length = n := by simp [countup]
theorem countup_getD {n v : Nat} (h : v < n) : (countup n).getD v 0 = v := by
  simp [countup, List.getD, h]
theorem countup_succ (n : Nat) : countup (n + 1) = countup n ++ [(n : Int)] := by
  unfold countup; rw [List.range_succ, List.map_append]; rfl
theorem countup_places (n : Nat) : Places (countup n) n :=
  ⟨countup_length n, fun a ha => by rw [countup_getD ha]; omega, fun a b ha hb e => by rw [countup_getD ha, countup_getD hb] at e; omega⟩
/-- The place that the j-th draw tells, of n; the row behind j draws. -/
def placeN (k s i p : Int) (zs : List Int) (n j : Nat) : Nat := (drawv k (sN k s i j) (pN k p zs j) zs % ((n : Int) - j)).toNat
def permN (k s i p : Int) (zs : List Int) (n : Nat) : Nat → List Int
  | 0 => countup n
  | j + 1 => swap (permN k s i p zs n j) (n - 1 - j) (placeN k s i p zs n j)
theorem permN_zero (k s i p : Int) (zs : List Int) (n : Nat) : permN k s i p zs n 0 = countup n := rfl
theorem permN_succ (k s i p : Int) (zs : List Int) (n j : Nat) : permN k s i p zs n (j + 1) = swap (permN k s i p zs n j) (n - 1 - j) (placeN k s i p zs n j) := rfl
theorem placeN_lt {k s i p : Int} {zs : List Int} {n j : Nat} (hj : j < n) : placeN k s i p zs n j < n - j := by
  have := Int.emod_lt_of_pos (drawv k (sN k s i j) (pN k p zs j) zs) (show 0 < (n : Int) - j by omega)
  have := Int.emod_nonneg (drawv k (sN k s i j) (pN k p zs j) zs) (show (n : Int) - j ≠ 0 by omega)
  unfold placeN; omega
theorem placeN_eq {k s i p : Int} {zs : List Int} {n j : Nat} (hj : j < n) : (drawv k (sN k s i j) (pN k p zs j) zs % ((n : Int) - j)) = (placeN k s i p zs n j : Int) := by
  have := Int.emod_nonneg (drawv k (sN k s i j) (pN k p zs j) zs) (show (n : Int) - j ≠ 0 by omega)
  unfold placeN; omega
theorem permN_places (k s i p : Int) (zs : List Int) (n : Nat) : ∀ j, j < n → Places (permN k s i p zs n j) n
  | 0, h => countup_places n
  | j + 1, h => (permN_places k s i p zs n j (by omega)).swap (by omega) (by have := placeN_lt (k := k) (s := s) (i := i) (p := p) (zs := zs) (show j < n by omega); omega)
theorem permN_told : permN 2 0 0 0 [0, 0, 0] 4 3 = [1, 2, 3, 0] := by decide +kernel
theorem pN_told : pN 2 0 [0, 0, 0] 3 = 3 ∧ sN 2 0 0 3 = 0 := by decide +kernel
end Go.Proofs.Ytcaledobieopjaa
