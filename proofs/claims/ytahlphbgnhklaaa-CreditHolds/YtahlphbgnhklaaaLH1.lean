/-
  Plain arithmetic of a row of steps: what was given, taken and is left, and that from any step to any later one no more is taken than given in it, and one burst. No program in this text. No conditions.
-/
import Derived.Test.YtahlphbgnhklaaaN4
namespace Go.Proofs.Ytahlphbgnhklaaa
set_option linter.unusedVariables false
/-- Behind i steps: g what each gave, t what each took, v what was left behind it; A the time, H what there is. -/
structure HI (b : Int) (i : Nat) (A H : Int) (g t v : Nat → Int) : Prop where
  a0 : 0 ≤ A
  a1 : A ≤ 1099511627776
  h0 : 0 ≤ H
  h1 : H ≤ b * 1000000
  gz : ∀ j, i ≤ j → g j = 0
  tz : ∀ j, i ≤ j → t j = 0
  gb : ∀ j, 0 ≤ g j ∧ g j ≤ 1000000000000000
  tb : ∀ j, 0 ≤ t j ∧ t j ≤ 9000000000
  vb : ∀ j, j < i → 0 ≤ v j ∧ t j + v j ≤ b * 1000000
  vs : ∀ j, j + 1 < i → t (j + 1) + v (j + 1) ≤ v j + g (j + 1)
  vl : ∀ j, j + 1 = i → v j = H
theorem HI.start {b A : Int} (hb : 0 ≤ b) (a0 : 0 ≤ A) (a1 : A ≤ 1099511627776) : HI b 0 A (b * 1000000) (fun _ => 0) (fun _ => 0) (fun _ => 0) :=
  ⟨a0, a1, by omega, by omega, fun _ _ => rfl, fun _ _ => rfl, fun _ => by omega, fun _ => by omega, fun _ h => by omega, fun _ h => by omega, fun _ h => by omega⟩
/-- One step more: x given, F there behind it; y taken, H2 left. -/
theorem HI.next {b : Int} {i : Nat} {A H A2 H2 F x y : Int} {g t v g2 t2 : Nat → Int} (h : HI b i A H g t v) (a0 : 0 ≤ A2) (a1 : A2 ≤ 1099511627776) (hg : ∀ j, j ≠ i → g2 j = g j) (hgi : g2 i = x) (ht : ∀ j, j ≠ i → t2 j = t j) (hti : t2 i = y)
    (x0 : 0 ≤ x) (x1 : x ≤ 1000000000000000) (y0 : 0 ≤ y) (y1 : y ≤ 9000000000) (hF : F ≤ H + x) (hFb : F ≤ b * 1000000) (hH : y + H2 = F) (h2 : 0 ≤ H2) : HI b (i + 1) A2 H2 g2 t2 (fun j => if j = i then H2 else v j) := by
  refine ⟨a0, a1, h2, by omega, fun j hj => by rw [hg j (by omega), h.gz j (by omega)], fun j hj => by rw [ht j (by omega), h.tz j (by omega)], fun j => ?_, fun j => ?_, fun j hj => ?_, fun j hj => ?_, fun j hj => ?_⟩
  · by_cases e : j = i
    · subst e; omega
    · rw [hg j e]; exact h.gb j
  · by_cases e : j = i
    · subst e; omega
    · rw [ht j e]; exact h.tb j
  · by_cases e : j = i
    · subst e; rw [if_pos rfl, hti]; omega
    · rw [if_neg e, ht j e]; exact h.vb j (by omega)
  · have ne : j ≠ i := by omega
    by_cases e : j + 1 = i
    · rw [if_pos e, if_neg ne, e, hti, hgi, h.vl j e]; omega
    · rw [if_neg e, if_neg ne, ht _ e, hg _ e]; exact h.vs j (by omega)
  · rw [if_pos (by omega)]
/-- What a step gives, and what is there behind it. -/
theorem fill_le {b A H r t : Int} (hE : flE b A H r t = 0) : isv b A H = true ∧ (1 ≤ r ∧ r ≤ 1000000000) ∧ A ≤ t ∧ t ≤ 1099511627776 ∧ flA b A H r t = t ∧ 0 ≤ flH b A H r t ∧ flH b A H r t ≤ b * 1000000 ∧ flH b A H r t ≤ r * (t - A) + H := by
  rcases flE_cases b A H r t with ⟨v1, k⟩ | ⟨v1, v2, k⟩ | ⟨v1, v2, v3, k⟩ | ⟨v1, v2, v3, hta, k⟩ | ⟨v1, v2, v3, hta, k⟩
  all_goals first | (exfalso; omega) | skip
  obtain ⟨⟨b2, b3⟩, ⟨a2, a3⟩, h2, h3⟩ := isv_iff.1 v1
  obtain ⟨r2, r3⟩ := wi_iff.1 v2
  obtain ⟨t2, t3⟩ := wi_iff.1 v3
  have p := Int.mul_nonneg (show 0 ≤ r by omega) (show 0 ≤ t - A by omega)
  have k := heldv_bd (b := b) (m := r * (t - A) + H) b2 (by omega)
  refine ⟨v1, ⟨r2, r3⟩, hta, t3, by unfold flA; rw [if_pos hE], ?_⟩
  rw [show flH b A H r t = heldv b (r * (t - A) + H) by unfold flH; rw [if_pos hE]]
  omega
theorem take_le {b A H s : Int} (hE : tkE b A H s = 0) : (1 ≤ s ∧ s ≤ 9000) ∧ s * 1000000 ≤ H ∧ tkA b A H s = A ∧ tkH b A H s = H - s * 1000000 := by
  rcases tkE_cases b A H s with ⟨v1, k⟩ | ⟨v1, v2, k⟩ | ⟨v1, v2, hhs, k⟩ | ⟨v1, v2, hhs, k⟩
  all_goals first | (exfalso; omega) | skip
  exact ⟨wi_iff.1 v2, hhs, by unfold tkA; rw [if_pos hE], by unfold tkH; rw [if_pos hE]⟩
/-- The sums from step i on: I given behind it, O taken, up to step k. -/
structure HS (b : Int) (i k : Nat) (v : Nat → Int) (I O : Int) : Prop where
  i0 : 0 ≤ I
  i1 : I ≤ k * 1000000000000000
  o0 : 0 ≤ O
  o1 : O ≤ k * 9000000000
  fst : k = i → I = 0 ∧ O = 0
  nxt : ∀ j, i ≤ j → j + 1 = k → O + v j ≤ I + b * 1000000
theorem HS.start (b : Int) (i : Nat) (v : Nat → Int) : HS b i i v 0 0 := ⟨by omega, by omega, by omega, by omega, fun _ => ⟨rfl, rfl⟩, fun j h1 h2 => by omega⟩
theorem HS.first {b : Int} {i n : Nat} {A H I O : Int} {g t v : Nat → Int} (h : HI b n A H g t v) (hi : i < n) (s : HS b i i v I O) : HS b i (i + 1) v I (O + t i) ∧ O + t i ≤ I + b * 1000000 := by
  have hv := h.vb i hi
  have ht := h.tb i
  obtain ⟨e1, e2⟩ := s.fst rfl
  subst e1 e2
  refine ⟨⟨by omega, by omega, by omega, by omega, fun k => by omega, fun j h1 h2 => ?_⟩, by omega⟩
  obtain rfl : j = i := by omega
  omega
theorem HS.more {b : Int} {i k n : Nat} {A H I O : Int} {g t v : Nat → Int} (h : HI b n A H g t v) (hk : k < n) (hi : i < k) (s : HS b i k v I O) : HS b i (k + 1) v (I + g k) (O + t k) ∧ O + t k ≤ I + g k + b * 1000000 := by
  obtain ⟨k', rfl⟩ : ∃ k', k = k' + 1 := ⟨k - 1, by omega⟩
  have hv := h.vb (k' + 1) hk
  have hs := h.vs k' (by omega)
  have ht := h.tb (k' + 1)
  have hg := h.gb (k' + 1)
  have hx := s.nxt k' (by omega) rfl
  obtain ⟨i0, i1, o0, o1, _, _⟩ := s
  refine ⟨⟨by omega, by omega, by omega, by omega, fun k => by omega, fun j h1 h2 => ?_⟩, by omega⟩
  obtain rfl : j = k' + 1 := by omega
  omega
end Go.Proofs.Ytahlphbgnhklaaa
