/-
  A ledger that is filled up: what it holds, why it refuses, that one more is sent behind. No program's function but Send in this text. No conditions.
-/
import Derived.Test.YtjjojbmpjkcmaaaX1
namespace Go.Proofs.Ytjjojbmpjkcmaaa
open Go.RowKit Go.Maps
set_option linter.unusedVariables false
def fP (first : Int) (j : Nat) : Pt := ⟨first + j, j, 1 + j, j⟩
def fL (first : Int) (i : Nat) : List Pt := (List.range i).map (fP first)
def fl (R : Nat) (first : Int) (i : Nat) : Lg := ⟨R, first, first + i, first, ((i - 1 : Nat) : Int), fL first i⟩
theorem fL_len (first : Int) (i : Nat) : (fL first i).length = i := by simp [fL]
theorem fL_mem {first : Int} {i : Nat} {p : Pt} (h : p ∈ fL first i) : ∃ j, j < i ∧ p = fP first j := by
  obtain ⟨j, hj, rfl⟩ := List.mem_map.1 h
  exact ⟨j, List.mem_range.1 hj, rfl⟩
theorem fl_send {R : Nat} {first : Int} {i : Nat} (hi : i < R) (hR : R ≤ 300) (f1 : first ≤ 1000000) :
    refv (fl R first i) i (1 + i) i = 0 ∧ seqv (fl R first i) i (1 + i) i = first + i ∧ sentL (fl R first i) i (1 + i) i = fl R first (i + 1) := by
  have hr : refv (fl R first i) i (1 + i) i = 0 := by
    unfold refv fl
    simp only [fL_len]
    rw [if_neg (by omega), if_neg (by omega), if_neg (by omega), if_neg (by omega), if_neg (by omega)]
  refine ⟨hr, ?_, ?_⟩
  · unfold seqv; rw [if_pos hr]; rfl
  · unfold sentL
    rw [if_pos hr]
    have e1 : fL first (i + 1) = fL first i ++ [fP first i] := by simp [fL, List.range_succ]
    have e2 : first + ((i + 1 : Nat) : Int) = first + i + 1 := by omega
    unfold fl
    rw [e1, e2]
    rfl
theorem fl_ok {R : Nat} {first : Int} (h0 : 1 ≤ R) (hR : R ≤ 300) (f0 : 0 ≤ first) (f1 : first ≤ 1000000) : ∀ i, i ≤ R → (fl R first i).ok
  | 0, _ => by
    have := new_ok (R : Int) first (by omega) (by omega) f0 (by omega)
    have e : fl R first 0 = ⟨R, first, first, first, 0, []⟩ := by simp [fl, fL]
    rw [e]; exact this
  | i + 1, h => by
    rw [← (fl_send (R := R) (first := first) (i := i) (by omega) hR f1).2.2]
    exact sent_ok (fl_ok h0 hR f0 f1 i (by omega)) _ _ _
theorem fl_new (R : Nat) (first : Int) : (⟨R, first, first, first, 0, []⟩ : Lg) = fl R first 0 := by simp [fl, fL]
theorem fl_full {R : Nat} {first : Int} (h0 : 1 ≤ R) (hR : R ≤ 300) : refv (fl R first R) 0 1 R = 2 ∧ seqv (fl R first R) 0 1 R = 0 ∧ sentL (fl R first R) 0 1 R = fl R first R := by
  have hr : refv (fl R first R) 0 1 R = 2 := by
    unfold refv fl
    simp only [fL_len]
    rw [if_neg (by omega), if_neg (by omega), if_neg (by omega), if_pos trivial]
  refine ⟨hr, ?_, ?_⟩
  · unfold seqv; rw [if_neg (by omega)]
  · unfold sentL; rw [if_neg (by omega)]
theorem fL_over {R : Nat} {first : Int} (h0 : 1 ≤ R) : (fL first R).filter (isover 0 0) = [fP first 0] := by
  obtain ⟨r, rfl⟩ : ∃ r, R = r + 1 := ⟨R - 1, by omega⟩
  unfold fL
  rw [List.range_succ_eq_map, List.map_cons, List.filter_cons]
  have e1 : isover 0 0 (fP first 0) = true := by simp [isover, fP]
  have e2 : (List.map (fP first) (List.map Nat.succ (List.range r))).filter (isover 0 0) = [] := List.filter_eq_nil_iff.2 fun p hp => by
    obtain ⟨j, hj, rfl⟩ := List.mem_map.1 hp
    obtain ⟨k, hk, rfl⟩ := List.mem_map.1 hj
    simp only [isover, fP]
    simp
  rw [e1, e2]; rfl
theorem len_without {L : List Pt} {x : Int} (hu : L.Pairwise (fun p q => p.seq < q.seq)) (hx : L.any (isq x) = true) : (without L x).length + 1 = L.length := by
  induction L with
  | nil => simp at hx
  | cons p L ih =>
    by_cases hp : isq x p = true
    · have hno : L.filter (fun p => !isq x p) = L := List.filter_eq_self.2 fun q hq => by
        have := (List.pairwise_cons.1 hu).1 q hq
        have e : p.seq = x := by simpa [isq] using hp
        simp [isq]; omega
      unfold without
      rw [List.filter_cons, hp]
      simp [hno]
    · have hp' : isq x p = false := by simpa using hp
      have hx' : L.any (isq x) = true := by simpa [hp'] using hx
      have := ih (List.pairwise_cons.1 hu).2 hx'
      unfold without at this ⊢
      rw [List.filter_cons, hp']
      simp only [Bool.not_false, if_true, List.length_cons]
      omega
theorem fl_take {R : Nat} {first : Int} {a : Nat} (ha : a < R) (hok : (fl R first R).ok) :
    tkv (fl R first R) (first + a) = 0 ∧ tkp (fl R first R) (first + a) = fP first a ∧ takenL (fl R first R) (first + a) = { fl R first R with L := without (fL first R) (first + a) } ∧ (without (fL first R) (first + a)).length + 1 = R := by
  have hany : (fL first R).any (isq (first + a)) = true := List.any_eq_true.2 ⟨fP first a, List.mem_map.2 ⟨a, List.mem_range.2 ha, rfl⟩, by simp [isq, fP]⟩
  have hv : tkv (fl R first R) (first + a) = 0 := by
    unfold tkv
    rw [if_neg (by show ¬ (first + (a : Int) < first ∨ first + (R : Int) ≤ first + a); omega), if_pos (show (fl R first R).L.any (isq (first + a)) = true from hany)]
  refine ⟨hv, ?_, ?_, ?_⟩
  · unfold tkp
    rw [if_pos hv]
    obtain ⟨h1, h2⟩ := find_any hany
    obtain ⟨j, hj, e⟩ := fL_mem h1
    have : foundP (fL first R) (first + a) = fP first a := by
      rw [e] at h2 ⊢
      have h3 : first + (j : Int) = first + a := h2
      obtain rfl : j = a := by omega
      rfl
    exact this
  · unfold takenL; rw [if_pos hv]; rfl
  · have := len_without hok.up hany
    rw [show (fl R first R).L.length = R from fL_len first R] at this
    exact this
theorem fl_last {R : Nat} {first o : Int} {L : List Pt} (h0 : 1 ≤ R) (hR : R ≤ 300) (f0 : 0 ≤ first) (f1 : first ≤ 1000000) (hl : L.length + 1 = R) (s : Lg) (hs : s = { fl R first R with oldest := o, L := L }) :
    refv s 9 9 R = 0 ∧ seqv s 9 9 R = first + R ∧ (sentL s 9 9 R).room - (sentL s 9 9 R).L.length = 0 := by
  have hr : refv s 9 9 R = 0 := by
    subst hs
    unfold refv fl
    simp only
    rw [if_neg (by omega), if_neg (by omega), if_neg (by omega), if_neg (by omega), if_neg (by omega)]
  refine ⟨hr, ?_, ?_⟩
  · unfold seqv; rw [if_pos hr, hs]; rfl
  · unfold sentL; rw [if_pos hr, hs]
    show (R : Int) - ((L ++ [_]).length : Nat) = 0
    simp only [List.length_append, List.length_cons, List.length_nil]
    omega
/-- One more is sent. -/
theorem last_send {R : Nat} {first o : Int} {L : List Pt} (h0 : 1 ≤ R) (hR : R ≤ 300) (f0 : 0 ≤ first) (f1 : first ≤ 1000000) (hl : L.length + 1 = R) (lb mb : Nat) (w : World) (hok : ({ fl R first R with oldest := o, L := L } : Lg).ok) (H : Led w lb mb { fl R first R with oldest := o, L := L }) :
    Calls Try.prog 9 #[.pointer (some ⟨lb, 0, none⟩), .int .i64 9, .int .i64 9, .int .i64 R] w fun e w' =>
      e = .returned (.tuple #[.int .u64 (first + R), .int .i64 0]) ∧ (∃ s : Lg, s.ok ∧ Led w' lb mb s ∧ s.room - s.L.length = 0) ∧ Far [lb, mb] w w' := by
  obtain ⟨e1, e2, e3⟩ := fl_last h0 hR f0 f1 hl _ rfl
  refine (send_any lb mb _ hok 9 9 R w H).mono ?_
  rintro e w' ⟨rfl, H', F⟩
  exact ⟨by rw [e1, e2], ⟨_, sent_ok hok 9 9 R, H', e3⟩, F⟩
end Go.Proofs.Ytjjojbmpjkcmaaa
