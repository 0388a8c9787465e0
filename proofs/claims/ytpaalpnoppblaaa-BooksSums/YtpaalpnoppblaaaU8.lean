/-
  What the program answers to each step on an account, told whole. No conditions.
-/
import Derived.Test.YtpaalpnoppblaaaU7
namespace Go.Proofs.Ytpaalpnoppblaaa
open Go.RowKit
set_option linter.unusedVariables false
/-- A right account, in numbers. -/
structure Right (m : Mi) : Prop where
  i0 : 0 ≤ m.id
  f0 : 0 ≤ m.fr
  f1 : m.fr ≤ 1099511627776
  t0 : m.to = -1 ∨ (m.fr ≤ m.to ∧ m.to ≤ 1099511627776)
  p0 : 0 ≤ m.pa
  p1 : m.pa ≤ 1048576
  h0 : 0 ≤ m.hi
  h1 : m.hi ≤ m.pa
  d0 : 0 ≤ m.dr
  d1 : m.dr ≤ m.pa - m.hi
  s0 : m.pa ≤ m.se
  s1 : m.se ≤ m.pa * 9000
  a0 : m.hi ≤ m.ac
  a1 : m.ac ≤ m.hi * 9000
  l0 : m.dr ≤ m.lo
  l1 : m.lo ≤ m.dr * 9000
  x0 : 0 ≤ m.se - m.ac - m.lo
  x1 : m.se - m.ac - m.lo = 0 ↔ m.hi + m.dr = m.pa
  n0 : 0 ≤ m.n
  n1 : m.n ≤ 1024
  n2 : m.n ≤ m.hi
  st0 : 0 ≤ m.st
  st1 : m.st ≤ m.n * 60000000
  sr0 : 0 ≤ m.sr
  sr1 : m.sr ≤ m.n * 60000000
  tt0 : 0 ≤ m.tt
  tt1 : m.tt ≤ m.n * 3600000000000000
  tr0 : 0 ≤ m.tr
  tr1 : m.tr ≤ m.n * 3600000000000000
  rr0 : 0 ≤ m.rr
  rr1 : m.rr ≤ m.n * 3600000000000000
theorem right_iff (m : Mi) : rightB m = true ↔ Right m := by
  simp only [rightB, spanB, countsB, bytesB, samplesB, Bool.and_eq_true, Bool.or_eq_true, Bool.not_eq_true', decide_eq_true_eq, decide_eq_false_iff_not, win_iff, ne_eq, Decidable.not_not]
  constructor
  · rintro ⟨⟨a1, ⟨a2, a2'⟩, a3⟩, ⟨⟨b1, b2⟩, ⟨b3, b4⟩, b5, b6⟩, ⟨⟨c1, c1'⟩, ⟨c2, c2'⟩, ⟨c3, c3'⟩, d, e⟩, ⟨⟨f1, f2⟩, ⟨g1, g1'⟩, ⟨g2, g2'⟩, ⟨g3, g3'⟩, ⟨g4, g4'⟩, ⟨g5, g5'⟩⟩⟩
    exact ⟨a1, a2, a2', a3, b1, b2, b3, b4, b5, b6, c1, c1', c2, c2', c3, c3', d, e, f1, by omega, by omega, g1, g1', g2, g2', g3, g3', g4, g4', g5, g5'⟩
  · intro R
    exact ⟨⟨R.i0, ⟨R.f0, R.f1⟩, R.t0⟩, ⟨⟨R.p0, R.p1⟩, ⟨R.h0, R.h1⟩, R.d0, R.d1⟩, ⟨⟨R.s0, R.s1⟩, ⟨R.a0, R.a1⟩, ⟨R.l0, R.l1⟩, R.x0, R.x1⟩, ⟨⟨R.n0, by have := R.n1; have := R.n2; omega⟩, ⟨R.st0, R.st1⟩, ⟨R.sr0, R.sr1⟩, ⟨R.tt0, R.tt1⟩, ⟨R.tr0, R.tr1⟩, ⟨R.rr0, R.rr1⟩⟩⟩
theorem right_sent {m : Mi} {s : Int} (h : rightB m = true) (hs : win s 1 9000 = true) (hp : ¬ m.pa = 1048576) : rightB (sentM m s) = true := by
  rw [right_iff] at *
  obtain ⟨s0, s1⟩ := win_iff.1 hs
  exact ⟨h.i0, h.f0, h.f1, h.t0, by have := h.p0; show 0 ≤ m.pa + 1; omega, by have := h.p1; show m.pa + 1 ≤ _; omega, h.h0, by have := h.h1; show m.hi ≤ m.pa + 1; omega, h.d0, by have := h.d1; show m.dr ≤ m.pa + 1 - m.hi; omega,
    by have := h.s0; show m.pa + 1 ≤ m.se + s; omega, by have := h.s1; show m.se + s ≤ (m.pa + 1) * 9000; omega, h.a0, h.a1, h.l0, h.l1, by have := h.x0; show 0 ≤ m.se + s - m.ac - m.lo; omega,
    by have := h.x0; have := h.d1; show m.se + s - m.ac - m.lo = 0 ↔ m.hi + m.dr = m.pa + 1; constructor <;> intro <;> omega, h.n0, h.n1, h.n2, h.st0, h.st1, h.sr0, h.sr1, h.tt0, h.tt1, h.tr0, h.tr1, h.rr0, h.rr1⟩
theorem right_closed {m : Mi} {x : Int} (h : rightB m = true) (hx : win x m.fr 1099511627776 = true) : rightB { m with to := x } = true := by
  rw [right_iff] at *
  obtain ⟨s0, s1⟩ := win_iff.1 hx
  exact ⟨h.i0, h.f0, h.f1, .inr ⟨s0, s1⟩, h.p0, h.p1, h.h0, h.h1, h.d0, h.d1, h.s0, h.s1, h.a0, h.a1, h.l0, h.l1, h.x0, h.x1, h.n0, h.n1, h.n2, h.st0, h.st1, h.sr0, h.sr1, h.tt0, h.tt1, h.tr0, h.tr1, h.rr0, h.rr1⟩
def sendE (m : Mi) (s : Int) : Int := if rightB m = true then (if win s 1 9000 = true then (if m.to = -1 then (if m.pa = 1048576 then 2 else 0) else 15) else 9) else 1
def sendV (m : Mi) (s : Int) : Mi := if sendE m s = 0 then sentM m s else zeroM
def loseE (m : Mi) (s : Int) : Int := if rightB m = true then (if win s 1 9000 = true then (if rightB (lostM m s) = true then 0 else 6) else 9) else 1
def loseV (m : Mi) (s : Int) : Mi := if loseE m s = 0 then lostM m s else zeroM
def closeE (m : Mi) (x : Int) : Int := if rightB m = true then (if m.to = -1 then (if win x m.fr 1099511627776 = true then 0 else 10) else 15) else 1
def closeV (m : Mi) (x : Int) : Mi := if closeE m x = 0 then { m with to := x } else zeroM
def openE (i x : Int) : Int := if 0 ≤ i ∧ win x 0 1099511627776 = true then 0 else 1
def openV (i x : Int) : Mi := if openE i x = 0 then ⟨i, x, -1, 0, 0, 0, 0, 0, 0, 0, 0, 0, 0, 0, 0⟩ else zeroM
set_option maxHeartbeats 2000000 in
set_option maxRecDepth 100000 in
theorem asend_any (m : Mi) (s : Int) (w : World) :
    Calls Try.prog 61 #[.agg #[.int .i64 m.id, .int .i64 m.fr, .int .i64 m.to, .int .i64 m.se, .int .i64 m.ac, .int .i64 m.lo, .int .i64 m.pa, .int .i64 m.hi, .int .i64 m.dr, .int .i64 m.n, .int .i64 m.st, .int .i64 m.sr, .int .i64 m.tt, .int .i64 m.tr, .int .i64 m.rr], .int .i64 s] w fun e w' => e = .returned (.tuple #[.agg #[.int .i64 (sendV m s).id, .int .i64 (sendV m s).fr, .int .i64 (sendV m s).to, .int .i64 (sendV m s).se, .int .i64 (sendV m s).ac, .int .i64 (sendV m s).lo, .int .i64 (sendV m s).pa, .int .i64 (sendV m s).hi, .int .i64 (sendV m s).dr, .int .i64 (sendV m s).n, .int .i64 (sendV m s).st, .int .i64 (sendV m s).sr, .int .i64 (sendV m s).tt, .int .i64 (sendV m s).tr, .int .i64 (sendV m s).rr], .int .i64 (sendE m s)]) ∧ Below w.heap.size w w' := by
  have H := Heap.nil w
  cases h1 : rightB m
  · have e1 : sendE m s = 1 := by simp [sendE, h1]
    have e2 : sendV m s = zeroM := by simp [sendV, e1]
    rw [e1, e2]
    clear e1 e2
    go_enter Try.func61, Try.ntmps61
    go_wp2_with (first | ((first | ((with_reducible refine at_plain ?_); intro K hK) | go_guarded); first | ((with_reducible refine at_ld ?_); first | (refine wpH_ldA rfl rfl H (by repeat (first | exact Found.here | apply Found.there)) (by first | exact row63 | exact row89 | exact row109 | exact row57) ?_) | (refine wpH_ld1 rfl rfl H (by repeat (first | exact Found.here | apply Found.there)) (by first | exact one3 | exact one4 | exact one26 | exact one22 | exact one91) (by rfl) ?_)) | ((with_reducible refine at_st ?_); first | (refine wpH_stA rfl rfl rfl H (by repeat (first | exact Turned.here | apply Turned.there)) (by first | exact row63 | exact row89 | exact row109 | exact row57) (by rfl) (by kernel_rfl) ?_; clear H; intro wN H) | (refine wpH_st1 (v := .int _ _) rfl rfl rfl rfl rfl H (by first | exact one3 | exact one4 | exact one26 | exact one22 | exact one91) (by repeat (first | exact Found.here | apply Found.there)) (by repeat (first | exact SetAt.z | apply SetAt.s)) (by repeat (first | exact Turned.here | apply Turned.there)) ?_; clear H; intro wN H)) | ((with_reducible refine at_al ?_); refine wpH_al rfl (by first | exact zero63 | exact zero89 | exact zero109 | exact zero57) H ?_; clear H; intro bN wN H) | ((with_reducible refine at_bx ?_); refine wpH_bxA rfl rfl H ?_; clear H; intro bN wN H)) | (go_at_call 83; refine (begun_1 m s h1 _).mono ?_; rintro e wN ⟨rfl, hw⟩; replace H := H.call hw; clear hw) | (go_at_call 79; refine (refused_any _ _).mono ?_; rintro e wN ⟨rfl, hw⟩; replace H := H.call hw; clear hw) | (exact bodyPost_ret (results_H2 rfl H (by repeat (first | exact Found.here | apply Found.there)) (by first | exact row63 | exact row89 | exact row109 | exact row57) rfl rfl) rfl ⟨rfl, H.grown⟩))
  cases h2 : win s 1 9000
  · have e1 : sendE m s = 9 := by simp [sendE, h1, h2]
    have e2 : sendV m s = zeroM := by simp [sendV, e1]
    rw [e1, e2]
    clear e1 e2
    go_enter Try.func61, Try.ntmps61
    go_wp2_with (first | ((first | ((with_reducible refine at_plain ?_); intro K hK) | go_guarded); first | ((with_reducible refine at_ld ?_); first | (refine wpH_ldA rfl rfl H (by repeat (first | exact Found.here | apply Found.there)) (by first | exact row63 | exact row89 | exact row109 | exact row57) ?_) | (refine wpH_ld1 rfl rfl H (by repeat (first | exact Found.here | apply Found.there)) (by first | exact one3 | exact one4 | exact one26 | exact one22 | exact one91) (by rfl) ?_)) | ((with_reducible refine at_st ?_); first | (refine wpH_stA rfl rfl rfl H (by repeat (first | exact Turned.here | apply Turned.there)) (by first | exact row63 | exact row89 | exact row109 | exact row57) (by rfl) (by kernel_rfl) ?_; clear H; intro wN H) | (refine wpH_st1 (v := .int _ _) rfl rfl rfl rfl rfl H (by first | exact one3 | exact one4 | exact one26 | exact one22 | exact one91) (by repeat (first | exact Found.here | apply Found.there)) (by repeat (first | exact SetAt.z | apply SetAt.s)) (by repeat (first | exact Turned.here | apply Turned.there)) ?_; clear H; intro wN H)) | ((with_reducible refine at_al ?_); refine wpH_al rfl (by first | exact zero63 | exact zero89 | exact zero109 | exact zero57) H ?_; clear H; intro bN wN H) | ((with_reducible refine at_bx ?_); refine wpH_bxA rfl rfl H ?_; clear H; intro bN wN H)) | (go_at_call 83; refine (begun_9 m s h1 h2 _).mono ?_; rintro e wN ⟨rfl, hw⟩; replace H := H.call hw; clear hw) | (go_at_call 79; refine (refused_any _ _).mono ?_; rintro e wN ⟨rfl, hw⟩; replace H := H.call hw; clear hw) | (exact bodyPost_ret (results_H2 rfl H (by repeat (first | exact Found.here | apply Found.there)) (by first | exact row63 | exact row89 | exact row109 | exact row57) rfl rfl) rfl ⟨rfl, H.grown⟩))
  have T1 := fun w => ended_any m w
  have T2 := fun w => begun_0 m s h1 h2 w
  cases h3 : decide (m.to ≠ -1)
  rotate_left
  · rw [h3] at T1
    have e1 : sendE m s = 15 := by have : ¬ m.to = -1 := by simpa using h3
                                   simp [sendE, h1, h2, this]
    have e2 : sendV m s = zeroM := by simp [sendV, e1]
    rw [e1, e2]
    clear e1 e2
    go_enter Try.func61, Try.ntmps61
    go_wp2_with (first | ((first | ((with_reducible refine at_plain ?_); intro K hK) | go_guarded); first | ((with_reducible refine at_ld ?_); first | (refine wpH_ldA rfl rfl H (by repeat (first | exact Found.here | apply Found.there)) (by first | exact row63 | exact row89 | exact row109 | exact row57) ?_) | (refine wpH_ld1 rfl rfl H (by repeat (first | exact Found.here | apply Found.there)) (by first | exact one3 | exact one4 | exact one26 | exact one22 | exact one91) (by rfl) ?_)) | ((with_reducible refine at_st ?_); first | (refine wpH_stA rfl rfl rfl H (by repeat (first | exact Turned.here | apply Turned.there)) (by first | exact row63 | exact row89 | exact row109 | exact row57) (by rfl) (by kernel_rfl) ?_; clear H; intro wN H) | (refine wpH_st1 (v := .int _ _) rfl rfl rfl rfl rfl H (by first | exact one3 | exact one4 | exact one26 | exact one22 | exact one91) (by repeat (first | exact Found.here | apply Found.there)) (by repeat (first | exact SetAt.z | apply SetAt.s)) (by repeat (first | exact Turned.here | apply Turned.there)) ?_; clear H; intro wN H)) | ((with_reducible refine at_al ?_); refine wpH_al rfl (by first | exact zero63 | exact zero89 | exact zero109 | exact zero57) H ?_; clear H; intro bN wN H) | ((with_reducible refine at_bx ?_); refine wpH_bxA rfl rfl H ?_; clear H; intro bN wN H)) | (go_at_call 83; refine (T2 _).mono ?_; rintro e wN ⟨rfl, hw⟩; replace H := H.call hw; clear hw) | (go_at_call 44; refine (T1 _).mono ?_; rintro e wN ⟨rfl, hw⟩; replace H := H.call hw; clear hw) | (go_at_call 79; refine (refused_any _ _).mono ?_; rintro e wN ⟨rfl, hw⟩; replace H := H.call hw; clear hw) | (exact bodyPost_ret (results_H2 rfl H (by repeat (first | exact Found.here | apply Found.there)) (by first | exact row63 | exact row89 | exact row109 | exact row57) rfl rfl) rfl ⟨rfl, H.grown⟩))
  have h3' : m.to = -1 := by simpa using h3
  rw [h3] at T1
  by_cases h4 : m.pa = 1048576
  · have e1 : sendE m s = 2 := by simp [sendE, h1, h2, h3', h4]
    have e2 : sendV m s = zeroM := by simp [sendV, e1]
    rw [e1, e2]
    have h4' : (m.pa == 1048576) = true := by simpa using h4
    clear e1 e2 h4 h3'
    go_enter Try.func61, Try.ntmps61
    go_wp2_with (first | ((first | ((with_reducible refine at_plain ?_); intro K hK) | go_guarded); first | ((with_reducible refine at_ld ?_); first | (refine wpH_ldA rfl rfl H (by repeat (first | exact Found.here | apply Found.there)) (by first | exact row63 | exact row89 | exact row109 | exact row57) ?_) | (refine wpH_ld1 rfl rfl H (by repeat (first | exact Found.here | apply Found.there)) (by first | exact one3 | exact one4 | exact one26 | exact one22 | exact one91) (by rfl) ?_)) | ((with_reducible refine at_st ?_); first | (refine wpH_stA rfl rfl rfl H (by repeat (first | exact Turned.here | apply Turned.there)) (by first | exact row63 | exact row89 | exact row109 | exact row57) (by rfl) (by kernel_rfl) ?_; clear H; intro wN H) | (refine wpH_st1 (v := .int _ _) rfl rfl rfl rfl rfl H (by first | exact one3 | exact one4 | exact one26 | exact one22 | exact one91) (by repeat (first | exact Found.here | apply Found.there)) (by repeat (first | exact SetAt.z | apply SetAt.s)) (by repeat (first | exact Turned.here | apply Turned.there)) ?_; clear H; intro wN H)) | ((with_reducible refine at_al ?_); refine wpH_al rfl (by first | exact zero63 | exact zero89 | exact zero109 | exact zero57) H ?_; clear H; intro bN wN H) | ((with_reducible refine at_bx ?_); refine wpH_bxA rfl rfl H ?_; clear H; intro bN wN H)) | (go_at_call 83; refine (T2 _).mono ?_; rintro e wN ⟨rfl, hw⟩; replace H := H.call hw; clear hw) | (go_at_call 44; refine (T1 _).mono ?_; rintro e wN ⟨rfl, hw⟩; replace H := H.call hw; clear hw) | (go_at_call 79; refine (refused_any _ _).mono ?_; rintro e wN ⟨rfl, hw⟩; replace H := H.call hw; clear hw) | (exact bodyPost_ret (results_H2 rfl H (by repeat (first | exact Found.here | apply Found.there)) (by first | exact row63 | exact row89 | exact row109 | exact row57) rfl rfl) rfl ⟨rfl, H.grown⟩))
  · have e1 : sendE m s = 0 := by simp [sendE, h1, h2, h3', h4]
    have e2 : sendV m s = sentM m s := by simp [sendV, e1]
    rw [e1, e2]
    have R := (right_iff m).1 h1
    obtain ⟨s0, s1⟩ := win_iff.1 h2
    have T3 := fun w => looked_yes (sentM m s) (right_sent h1 h2 h4) w
    have hp := R.p0
    have hp1 := R.p1
    have hq0 : 0 ≤ m.se := by have := R.s0; omega
    have hq1 : m.se ≤ 9437184000 := by have := R.s1; omega
    clear e1 e2 h3' R h1 h2 h3
    go_enter Try.func61, Try.ntmps61
    go_wp2_with (first | ((first | ((with_reducible refine at_plain ?_); intro K hK) | go_guarded); first | ((with_reducible refine at_ld ?_); first | (refine wpH_ldA rfl rfl H (by repeat (first | exact Found.here | apply Found.there)) (by first | exact row63 | exact row89 | exact row109 | exact row57) ?_) | (refine wpH_ld1 rfl rfl H (by repeat (first | exact Found.here | apply Found.there)) (by first | exact one3 | exact one4 | exact one26 | exact one22 | exact one91) (by rfl) ?_)) | ((with_reducible refine at_st ?_); first | (refine wpH_stA rfl rfl rfl H (by repeat (first | exact Turned.here | apply Turned.there)) (by first | exact row63 | exact row89 | exact row109 | exact row57) (by rfl) (by kernel_rfl) ?_; clear H; intro wN H) | (refine wpH_st1 (v := .int _ _) rfl rfl rfl rfl rfl H (by first | exact one3 | exact one4 | exact one26 | exact one22 | exact one91) (by repeat (first | exact Found.here | apply Found.there)) (by repeat (first | exact SetAt.z | apply SetAt.s)) (by repeat (first | exact Turned.here | apply Turned.there)) ?_; clear H; intro wN H)) | ((with_reducible refine at_al ?_); refine wpH_al rfl (by first | exact zero63 | exact zero89 | exact zero109 | exact zero57) H ?_; clear H; intro bN wN H) | ((with_reducible refine at_bx ?_); refine wpH_bxA rfl rfl H ?_; clear H; intro bN wN H)) | (go_at_call 83; refine (T2 _).mono ?_; rintro e wN ⟨rfl, hw⟩; replace H := H.call hw; clear hw) | (go_at_call 44; refine (T1 _).mono ?_; rintro e wN ⟨rfl, hw⟩; replace H := H.call hw; clear hw) | (go_at_call 84; refine (psend_any m s (by omega) (by omega) (by omega) (by omega) (by omega) (by omega) (H.found (by repeat (first | exact Found.here | apply Found.there))).2).mono ?_; rintro e wN ⟨rfl, hT⟩; replace H := H.turn (by repeat (first | exact Turned.here | apply Turned.there)) hT; clear hT) | (go_at_call 81; refine (T3 _).mono ?_; rintro e wN ⟨rfl, hw⟩; replace H := H.call hw; clear hw) | (exact bodyPost_ret (results_H2 rfl H (by repeat (first | exact Found.here | apply Found.there)) (by first | exact row63 | exact row89 | exact row109 | exact row57) rfl rfl) rfl ⟨rfl, H.grown⟩))
end Go.Proofs.Ytpaalpnoppblaaa
