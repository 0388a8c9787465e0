/-
  What a script makes of an account, in the law's own sums. No program in this text but its answers. No conditions.
-/
import Derived.Test.YtjhkbaadlicelaaU21
namespace Go.Proofs.Ytjhkbaadlicelaa
set_option linter.unusedVariables false
def w1 (M : Mi) (k s : Int) : Mi := if k = 0 then sentM M s else M
def rawL (M : Mi) (s x a fr : Int) : Mi := if 0 ≤ x - fr ∧ x - fr ≤ 60000000 ∧ a - x ≤ 60000000 then sampM (hitM M s) (x - fr) (a - x) else hitM M s
def w2 (M : Mi) (k s x a fr : Int) : Mi := if k = 1 then rawL M s x a fr else w1 M k s
def w3 (M : Mi) (k s x a fr : Int) : Mi := if k = 2 then lostM M s else w2 M k s x a fr
def closedM (M : Mi) (a : Int) : Mi := { M with to := a }
def w4 (M : Mi) (k s x a fr : Int) : Mi := if k < 0 ∨ 2 < k then closedM M a else w3 M k s x a fr
theorem w1_M {M : Mi} {k s : Int} (h : k ≠ 0) : w1 M k s = M := if_neg h
theorem w2_M {M : Mi} {k s x a fr : Int} (h : k ≠ 0) (h1 : k ≠ 1) : w2 M k s x a fr = M := by rw [w2, if_neg h1, w1_M h]
theorem w3_M {M : Mi} {k s x a fr : Int} (h : k < 0 ∨ 2 < k) : w3 M k s x a fr = M := by rw [w3, if_neg (by omega), w2_M (by omega) (by omega)]
/-- What is known in each round. -/
structure Inv (M : Mi) (fr : Int) (j : Nat) : Prop where
  r : rightB M = true
  f : M.fr = fr
  n : M.n ≤ j
theorem Inv.next {M : Mi} {fr : Int} {j : Nat} (h : Inv M fr j) : Inv M fr (j + 1) := ⟨h.r, h.f, by have := h.n; omega⟩
theorem inv_open {id fr : Int} (h : openE id fr = 0) : Inv (openV id fr) fr 0 := by
  have hv : openV id fr = ⟨id, fr, -1, 0, 0, 0, 0, 0, 0, 0, 0, 0, 0, 0, 0⟩ := by simp [openV, h]
  unfold openE at h
  rw [hv]
  split at h
  · rename_i c
    have c : 0 ≤ id ∧ win fr 0 1099511627776 = true := by simpa using c
    obtain ⟨f0, f1⟩ := win_iff.1 c.2
    refine ⟨?_, rfl, by simp⟩
    rw [right_iff]
    exact ⟨c.1, f0, f1, .inl rfl, by simp, by simp, by simp, by simp, by simp, by simp, by simp, by simp, by simp, by simp, by simp, by simp, by simp, by simp, by simp, by simp, by simp, by simp, by simp, by simp, by simp, by simp, by simp, by simp, by simp, by simp, by simp⟩
  · omega
theorem raw_L {M : Mi} {s x a fr : Int} (hf : M.fr = fr) (hn : M.n < 1024) (hx : x ≤ a) : rawM M s x a = rawL M s x a fr := by
  unfold rawM rawL
  have e : (sampB M x a = true) ↔ (0 ≤ x - fr ∧ x - fr ≤ 60000000 ∧ a - x ≤ 60000000) := by
    unfold sampB
    rw [Bool.and_eq_true, Bool.and_eq_true, win_iff, win_iff, hf]
    simp only [Bool.not_eq_true', decide_eq_false_iff_not]
    omega
  rw [hf]
  by_cases h : sampB M x a = true
  · rw [if_pos h, if_pos (e.1 h)]
  · rw [if_neg h, if_neg (fun k => h (e.2 k))]
/-- A step that was taken makes just what the law's own sums make. -/
structure Made (M V : Mi) (k s x a fr : Int) (j : Nat) : Prop where
  v : V = w4 M k s x a fr
  i : Inv V fr (j + 1)
  s0 : 0 ≤ k ∧ k ≤ 2 → 1 ≤ s
  s1 : 0 ≤ k ∧ k ≤ 2 → s ≤ 9000
  x0 : k = 1 → 0 ≤ x ∧ x ≤ a ∧ a ≤ 1099511627776
theorem made {M : Mi} {k s x a fr : Int} {j : Nat} (h : Inv M fr j) (hj : j ≤ 1000) (e : stepE M k s x a = 0) : Made M (stepV M k s x a) k s x a fr j := by
  have hn := h.n
  have R := (right_iff M).1 h.r
  unfold stepE at e
  unfold stepV
  by_cases e0 : k = 0
  · rw [if_pos e0] at e ⊢
    obtain ⟨r, hs, _, _, hv, q⟩ := send_yes e
    obtain ⟨s0, s1⟩ := win_iff.1 hs
    rw [hv]
    exact ⟨by rw [w4, if_neg (by omega), w3, if_neg (by omega), w2, if_neg (by omega), w1, if_pos e0], ⟨q, h.f, by show M.n ≤ _; omega⟩, fun _ => s0, fun _ => s1, fun h => by omega⟩
  rw [if_neg e0] at e ⊢
  by_cases e1 : k = 1
  · rw [if_pos e1] at e ⊢
    obtain ⟨r, hs, ⟨hx, ha⟩, hv, q⟩ := ack_yes e
    obtain ⟨s0, s1⟩ := win_iff.1 hs
    obtain ⟨x0, x1⟩ := win_iff.1 hx
    obtain ⟨a0, a1⟩ := win_iff.1 ha
    have L := raw_L (M := M) (s := s) h.f (by omega) a0
    have q2 := h.f
    refine ⟨by rw [hv, L, w4, if_neg (by omega), w3, if_neg (by omega), w2, if_pos e1], ⟨by rw [hv]; exact q, by rw [hv, raw_fr]; exact h.f, ?_⟩, fun _ => s0, fun _ => s1, fun _ => ⟨x0, a0, a1⟩⟩
    rw [hv]
    unfold rawM
    split
    · show M.n + 1 ≤ _; omega
    · show M.n ≤ _; omega
  rw [if_neg e1] at e ⊢
  by_cases e2 : k = 2
  · rw [if_pos e2] at e ⊢
    obtain ⟨r, hs, hv, q⟩ := lose_yes e
    obtain ⟨s0, s1⟩ := win_iff.1 hs
    rw [hv]
    exact ⟨by rw [w4, if_neg (by omega), w3, if_pos e2], ⟨q, h.f, by show M.n ≤ _; omega⟩, fun _ => s0, fun _ => s1, fun h => by omega⟩
  rw [if_neg e2] at e ⊢
  obtain ⟨r, _, _, hv, q⟩ := close_yes e
  rw [hv]
  exact ⟨by rw [w4, if_pos (by omega)]; rfl, ⟨q, h.f, by show M.n ≤ _; omega⟩, fun h => by omega, fun h => by omega, fun h => by omega⟩
end Go.Proofs.Ytjhkbaadlicelaa
