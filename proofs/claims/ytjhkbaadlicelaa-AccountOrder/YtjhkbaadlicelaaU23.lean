/-
  Two acks or losses make the same in either order. No program in this text but its answers. Conditions: room for two samples.
-/
import Derived.Test.YtjhkbaadlicelaaU21
namespace Go.Proofs.Ytjhkbaadlicelaa
set_option linter.unusedVariables false
theorem samp_hit (m : Mi) (s x a : Int) : sampB (hitM m s) x a = sampB m x a := rfl
theorem samp_lost (m : Mi) (s x a : Int) : sampB (lostM m s) x a = sampB m x a := rfl
theorem samp_samp (m : Mi) (t r x a : Int) (h : m.n < 1023) : sampB (sampM m t r) x a = sampB m x a := by
  unfold sampB
  rw [decide_eq_false (by show ¬ m.n + 1 = 1024; omega), decide_eq_false (by omega : ¬ m.n = 1024)]
  rfl
theorem samp_raw (m : Mi) (s x a x' a' : Int) (h : m.n < 1023) : sampB (rawM m s x a) x' a' = sampB m x' a' := by
  unfold rawM
  split
  · exact samp_samp (hitM m s) _ _ _ _ h
  · rfl
theorem raw_swap (m : Mi) (s x a s' x' a' : Int) (h : m.n < 1023) : rawM (rawM m s x a) s' x' a' = rawM (rawM m s' x' a') s x a := by
  have e1 := samp_raw m s x a x' a' h
  have e2 := samp_raw m s' x' a' x a h
  rw [rawM, e1, rawM.eq_1 (rawM m s' x' a'), e2]
  unfold rawM
  cases sampB m x a <;> cases sampB m x' a'
  all_goals
    simp only [Bool.false_eq_true, if_false, if_true]
    apply Mi.ext
  all_goals (simp only [hitM, sampM]; try omega)
theorem raw_lost (m : Mi) (s x a s' : Int) : rawM (lostM m s') s x a = lostM (rawM m s x a) s' := by
  unfold rawM
  rw [samp_lost]
  cases sampB m x a <;> rfl
theorem lost_swap (m : Mi) (s s' : Int) : lostM (lostM m s) s' = lostM (lostM m s') s := by
  apply Mi.ext
  all_goals (simp only [lostM]; try omega)
theorem step_hd {m : Mi} {k s x a : Int} (hk : k = 1 ∨ k = 2) (h : stepE m k s x a = 0) : rightB m = true ∧ rightB (stepV m k s x a) = true ∧ (stepV m k s x a).hi + (stepV m k s x a).dr = m.hi + m.dr + 1 ∧ stepV m k s x a = if k = 1 then rawM m s x a else lostM m s := by
  unfold stepE at h
  unfold stepV
  rcases hk with rfl | rfl
  · simp only [show ¬ (1 : Int) = 0 by omega, if_false, if_true] at h ⊢
    obtain ⟨r, _, _, hv, q⟩ := ack_yes h
    rw [hv]
    exact ⟨r, q, by rw [raw_hi, raw_dr]; omega, rfl⟩
  · simp only [show ¬ (2 : Int) = 0 by omega, show ¬ (2 : Int) = 1 by omega, if_false, if_true] at h ⊢
    obtain ⟨r, _, hv, q⟩ := lose_yes h
    rw [hv]
    exact ⟨r, q, by simp only [lostM]; omega, rfl⟩
theorem order_eq {m : Mi} {k s x a k' s' x' a' : Int} (hk : k = 1 ∨ k = 2) (hk' : k' = 1 ∨ k' = 2) (hn : m.n < 1023) (e : stepE m k s x a = 0) (f : stepE (stepV m k s x a) k' s' x' a' = 0) (g : stepE m k' s' x' a' = 0) (h : stepE (stepV m k' s' x' a') k s x a = 0) :
    stepV (stepV m k s x a) k' s' x' a' = stepV (stepV m k' s' x' a') k s x a ∧ (stepV (stepV m k s x a) k' s' x' a').hi + (stepV (stepV m k s x a) k' s' x' a').dr = m.hi + m.dr + 2 ∧ rightB m = true ∧ rightB (stepV (stepV m k s x a) k' s' x' a') = true := by
  obtain ⟨r, _, e1, v1⟩ := step_hd hk e
  obtain ⟨_, q, f1, v2⟩ := step_hd hk' f
  obtain ⟨_, _, _, v3⟩ := step_hd hk' g
  obtain ⟨_, _, _, v4⟩ := step_hd hk h
  refine ⟨?_, by omega, r, q⟩
  rw [v2, v4, v1, v3]
  rcases hk with rfl | rfl <;> rcases hk' with rfl | rfl
  · simp only [if_true]; exact raw_swap m s x a s' x' a' hn
  · simp only [if_true, show ¬ (2 : Int) = 1 by omega, if_false]; exact (raw_lost m s x a s').symm
  · simp only [if_true, show ¬ (2 : Int) = 1 by omega, if_false]; exact raw_lost m s' x' a' s
  · simp only [show ¬ (2 : Int) = 1 by omega, if_false]; exact lost_swap m s s'
end Go.Proofs.Ytjhkbaadlicelaa
