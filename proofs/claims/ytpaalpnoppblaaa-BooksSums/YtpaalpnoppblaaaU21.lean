/-
  What a step that is taken leaves true. No program in this text but its answers. No conditions.
-/
import Derived.Test.YtpaalpnoppblaaaU16
namespace Go.Proofs.Ytpaalpnoppblaaa
set_option linter.unusedVariables false
theorem step_no {m : Mi} {k s x a : Int} (h : stepE m k s x a ≠ 0) : stepV m k s x a = zeroM := by
  unfold stepE at h
  unfold stepV
  split
  · rename_i e; rw [if_pos e] at h; simp only [sendV, if_neg h]
  · rename_i e; rw [if_neg e] at h
    split
    · rename_i e; rw [if_pos e] at h; simp only [ackV, if_neg h]
    · rename_i e; rw [if_neg e] at h
      split
      · rename_i e; rw [if_pos e] at h; simp only [loseV, if_neg h]
      · rename_i e; rw [if_neg e] at h; simp only [closeV, if_neg h]
theorem send_yes {m : Mi} {s : Int} (h : sendE m s = 0) : rightB m = true ∧ win s 1 9000 = true ∧ m.to = -1 ∧ m.pa ≠ 1048576 ∧ sendV m s = sentM m s ∧ rightB (sentM m s) = true := by
  have hv : sendV m s = sentM m s := by simp [sendV, h]
  unfold sendE at h
  split at h
  · split at h
    · split at h
      · split at h
        · omega
        · rename_i a b c d; exact ⟨a, b, c, d, hv, right_sent a b d⟩
      · omega
    · omega
  · omega
theorem lose_yes {m : Mi} {s : Int} (h : loseE m s = 0) : rightB m = true ∧ win s 1 9000 = true ∧ loseV m s = lostM m s ∧ rightB (lostM m s) = true := by
  have hv : loseV m s = lostM m s := by simp [loseV, h]
  unfold loseE at h
  split at h
  · split at h
    · split at h
      · rename_i a b c; exact ⟨a, b, hv, c⟩
      · omega
    · omega
  · omega
theorem ack_yes {m : Mi} {s x a : Int} (h : ackE m s x a = 0) : rightB m = true ∧ win s 1 9000 = true ∧ (win x 0 1099511627776 = true ∧ win a x 1099511627776 = true) ∧ ackV m s x a = rawM m s x a ∧ rightB (rawM m s x a) = true := by
  have hv : ackV m s x a = rawM m s x a := by simp [ackV, h]
  unfold ackE at h
  split at h
  · split at h
    · split at h
      · split at h
        · rename_i a b c d; exact ⟨a, b, by simpa using c, hv, d⟩
        · omega
      · omega
    · omega
  · omega
theorem close_yes {m : Mi} {x : Int} (h : closeE m x = 0) : rightB m = true ∧ m.to = -1 ∧ win x m.fr 1099511627776 = true ∧ closeV m x = { m with to := x } ∧ rightB { m with to := x } = true := by
  have hv : closeV m x = { m with to := x } := by simp [closeV, h]
  unfold closeE at h
  split at h
  · split at h
    · split at h
      · rename_i a b c; exact ⟨a, b, c, hv, right_closed a c⟩
      · omega
    · omega
  · omega
theorem raw_hi (m : Mi) (s x a : Int) : (rawM m s x a).hi = m.hi + 1 := by unfold rawM; split <;> rfl
theorem raw_pa (m : Mi) (s x a : Int) : (rawM m s x a).pa = m.pa := by unfold rawM; split <;> rfl
theorem raw_dr (m : Mi) (s x a : Int) : (rawM m s x a).dr = m.dr := by unfold rawM; split <;> rfl
theorem raw_id (m : Mi) (s x a : Int) : (rawM m s x a).id = m.id := by unfold rawM; split <;> rfl
theorem raw_fr (m : Mi) (s x a : Int) : (rawM m s x a).fr = m.fr := by unfold rawM; split <;> rfl
/-- How many fewer are left. -/
def byN (k : Int) : Int := if k = 0 then 1 else if k = 1 ∨ k = 2 then -1 else 0
structure Taken (m V : Mi) (b : Int) : Prop where
  r : rightB m = true
  q : rightB V = true
  is : V.pa - V.hi - V.dr = m.pa - m.hi - m.dr + b
  id : V.id = m.id
  fr : V.fr = m.fr
theorem step_taken {m : Mi} {k s x a : Int} (h : stepE m k s x a = 0) : Taken m (stepV m k s x a) (byN k) := by
  unfold stepE at h
  unfold stepV byN
  by_cases e0 : k = 0
  · rw [if_pos e0] at h ⊢
    obtain ⟨r, _, _, _, hv, q⟩ := send_yes h
    rw [hv, if_pos e0]
    exact ⟨r, q, by simp only [sentM]; omega, rfl, rfl⟩
  rw [if_neg e0] at h ⊢
  rw [if_neg e0]
  by_cases e1 : k = 1
  · rw [if_pos e1] at h ⊢
    obtain ⟨r, _, _, hv, q⟩ := ack_yes h
    rw [hv, if_pos (.inl e1)]
    exact ⟨r, q, by rw [raw_hi, raw_pa, raw_dr]; omega, raw_id .., raw_fr ..⟩
  rw [if_neg e1] at h ⊢
  by_cases e2 : k = 2
  · rw [if_pos e2] at h ⊢
    obtain ⟨r, _, hv, q⟩ := lose_yes h
    rw [hv, if_pos (.inr e2)]
    exact ⟨r, q, by simp only [lostM]; omega, rfl, rfl⟩
  rw [if_neg e2] at h ⊢
  obtain ⟨r, _, _, hv, q⟩ := close_yes h
  rw [hv, if_neg (by omega)]
  exact ⟨r, q, by simp, rfl, rfl⟩
end Go.Proofs.Ytpaalpnoppblaaa
