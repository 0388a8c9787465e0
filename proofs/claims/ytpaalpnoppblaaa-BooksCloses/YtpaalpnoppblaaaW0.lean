/-
  What a step leaves of books as it was; what is told once all packets are; a script that is short. No conditions but the books' own.
-/
import Derived.Test.YtpaalpnoppblaaaZ20
import Derived.Test.YtpaalpnoppblaaaXS12
namespace Go.Proofs.Ytpaalpnoppblaaa
open Go.RowKit Go.Maps
set_option linter.unusedVariables false
set_option maxRecDepth 8000
/-- What a step keeps. -/
structure Kept (s u : Bk) : Prop where
  r : u.l.room = s.l.room
  f : u.l.first = s.l.first
  t : u.timeout = s.timeout
  b : u.begun ≤ s.begun + 1
theorem Kept.refl (s : Bk) : Kept s s := ⟨rfl, rfl, rfl, by omega⟩
theorem bg_kept (s : Bk) (a : Int) : Kept s (bgL s a) ∧ (bgL s a).now = if bgE s a = 0 then a else s.now := by
  unfold bgL; split
  · exact ⟨⟨rfl, rfl, rfl, Int.le_refl _⟩, rfl⟩
  · exact ⟨Kept.refl s, rfl⟩
theorem sd_kept (s : Bk) (z a : Int) : Kept s (sdL s z a) ∧ (sdL s z a).now = if sdE s z a = 0 then a else s.now := by
  unfold sdL; split
  · refine ⟨⟨?_, ?_, rfl, by show s.begun ≤ s.begun + 1; omega⟩, rfl⟩
    · show (sentL s.l (s.begun - 1) z a).room = _; unfold sentL; split <;> rfl
    · show (sentL s.l (s.begun - 1) z a).first = _; unfold sentL; split <;> rfl
  · exact ⟨Kept.refl s, rfl⟩
theorem st_kept (k : Bool) (s : Bk) (x a : Int) : Kept s (stL k s x a) ∧ (stL k s x a).now = if stE s x a = 0 then a else s.now := by
  unfold stL; split
  · refine ⟨⟨?_, ?_, rfl, by show s.begun ≤ s.begun + 1; omega⟩, rfl⟩
    · show (takenL s.l x).room = _; unfold takenL; split <;> rfl
    · show (takenL s.l x).first = _; unfold takenL; split <;> rfl
  · exact ⟨Kept.refl s, rfl⟩
theorem ex_kept (s : Bk) (a o : Int) : Kept s (exL s a o) := by
  unfold exL; split
  · exact Kept.refl s
  · exact ⟨rfl, rfl, rfl, by show s.begun ≤ s.begun + 1; omega⟩
theorem tk_kept (s : Bk) : Kept s (tkL s) := by
  unfold tkL; split
  · exact ⟨rfl, rfl, rfl, by show s.begun ≤ s.begun + 1; omega⟩
  · exact Kept.refl s
/-- Behind a timeout no packet is on its way. -/
theorem ex_none {s : Bk} (hf : Fit s) (o : Int) (h : exE s (s.now + s.timeout) = 0) : (exL s (s.now + s.timeout) o).l.L = [] := by
  have he : ¬ earlyP s (s.now + s.timeout) := fun e => by rw [exE, if_pos e] at h; omega
  unfold exL
  rw [if_neg he]
  show s.l.L.filter (fun p => !isover (s.now + s.timeout) s.timeout p) = []
  refine List.filter_eq_nil_iff.2 fun p hp => ?_
  have h1 := hf.ok.tb p hp
  have h2 := hf.nl
  simp [isover]; omega
theorem exE_is {s : Bk} (hf : Fit s) : exE s (s.now + s.timeout) = if 1099511627776 < s.now + s.timeout then 10 else 0 := by
  unfold exE
  have := hf.t0
  by_cases h : 1099511627776 < s.now + s.timeout
  · rw [if_pos (show earlyP s (s.now + s.timeout) from .inr h), if_pos h]
  · rw [if_neg (show ¬ earlyP s (s.now + s.timeout) from by unfold earlyP; omega), if_neg h]
/-- An interval that is told whole. -/
theorem told_done {s : Bk} (hf : Fit s) (h0 : s.l.L = []) {m m' : Mi} {L : List Mi} (e : s.L = m :: m' :: L) :
    tkB s = true ∧ tkM s = m ∧ (tkL s).L = m' :: L ∧ (tkL s).l.L = [] ∧ doneB m = true ∧ m.hi + m.dr = m.pa ∧ m.ac + m.lo = m.se ∧ Right m ∧ (∀ x ∈ m' :: L, m.id < x.id) := by
  have ow := hf.owes m (by rw [e]; simp)
  have hd := ow.d; have ho := ow.o
  rw [h0] at hd ho
  simp only [due, owe] at hd ho
  have hlen : s.L.length = L.length + 2 := by rw [e]; rfl
  have hto : m.to ≠ -1 := by have := hf.mid 0 (by omega) (by omega); simpa only [e, List.getElem_cons_zero] using this
  have hdone : doneB m = true := by
    simp only [doneB, (right_iff m).2 ow.r, Bool.true_and, Bool.and_eq_true, decide_eq_true_eq]
    exact ⟨hto, by omega⟩
  have hb : tkB s = true := by rw [tkB, e]; exact hdone
  refine ⟨hb, by simp [tkM, hb, e], by simp [tkL, hb, e], by simp [tkL, hb, h0], hdone, by omega, by omega, ow.r, fun x hx => ?_⟩
  obtain ⟨k, hk, rfl⟩ := List.getElem_of_mem hx
  have h1 := hf.ids 0 (by omega)
  have h2 := hf.ids (k + 1) (by rw [hlen]; simp at hk; omega)
  simp only [e, List.getElem_cons_zero, List.getElem_cons_succ] at h1 h2
  rw [h1, h2]; push_cast; omega
theorem last_not {s : Bk} (hf : Fit s) (h : s.L.length ≤ 1) : tkB s = false ∧ tkM s = zeroM ∧ tkL s = s := by
  have hb : tkB s = false := by
    cases e : s.L with
    | nil => rw [tkB, e]
    | cons m L =>
      rw [e] at h
      have hL : L = [] := List.eq_nil_of_length_eq_zero (by simp at h; exact List.length_eq_zero_iff.2 h)
      subst hL
      have := hf.run 0 (by rw [e]; simp) (by rw [e]; simp)
      simp only [e, List.getElem_cons_zero] at this
      rw [tkB, e]
      simp [doneB, this.1]
  exact ⟨hb, by simp [tkM, hb], by simp [tkL, hb]⟩
theorem short_any (ao : Option Addr) (n c : Nat) (w : World) (hn : (n : Int) ≤ 9223372036854775807) : Calls Try.prog 6 #[.slice ao n c] w fun e w' => e = .returned (.bool (decide (n ≤ 150))) ∧ Below w.heap.size w w' := by
  go_enter Try.func6, Try.ntmps6
  go_wp2
  go_ret
  exact ⟨by simp <;> omega, by go_grown⟩
end Go.Proofs.Ytpaalpnoppblaaa
