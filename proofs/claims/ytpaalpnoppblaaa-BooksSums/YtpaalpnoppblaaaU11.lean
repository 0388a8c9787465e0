/-
  What the program answers to an ack, and its looks, told whole. No conditions.
-/
import Derived.Test.YtpaalpnoppblaaaU10
namespace Go.Proofs.Ytpaalpnoppblaaa
open Go.RowKit
set_option linter.unusedVariables false
/-- Is there a sample? -/
def sampB (m : Mi) (x a : Int) : Bool := !decide (m.n = 1024) && (win (x - m.fr) 0 60000000 && win (a - x) 0 60000000)
def rawM (m : Mi) (s x a : Int) : Mi := if sampB m x a = true then sampM (hitM m s) (x - m.fr) (a - x) else hitM m s
def ackE (m : Mi) (s x a : Int) : Int := if rightB m = true then (if win s 1 9000 = true then (if (win x 0 1099511627776 && win a x 1099511627776) = true then (if rightB (rawM m s x a) = true then 0 else 6) else 10) else 9) else 1
def ackV (m : Mi) (s x a : Int) : Mi := if ackE m s x a = 0 then rawM m s x a else zeroM
theorem psample_any (m : Mi) (s x a : Int) (R : Right m) (s0 : 0 ≤ x) (s1 : x ≤ 1099511627776) (a0 : x ≤ a) (a1 : a ≤ 1099511627776) {w : World} {b : Nat} (hO : Ob w b [.int .i64 (hitM m s).id, .int .i64 (hitM m s).fr, .int .i64 (hitM m s).to, .int .i64 (hitM m s).se, .int .i64 (hitM m s).ac, .int .i64 (hitM m s).lo, .int .i64 (hitM m s).pa, .int .i64 (hitM m s).hi, .int .i64 (hitM m s).dr, .int .i64 (hitM m s).n, .int .i64 (hitM m s).st, .int .i64 (hitM m s).sr, .int .i64 (hitM m s).tt, .int .i64 (hitM m s).tr, .int .i64 (hitM m s).rr]) :
    Calls Try.prog 87 #[.pointer (some ⟨b, 0, none⟩), .int .i64 x, .int .i64 a] w fun e w' => e = .returned (.tuple #[]) ∧ Turn w w' b [.int .i64 (rawM m s x a).id, .int .i64 (rawM m s x a).fr, .int .i64 (rawM m s x a).to, .int .i64 (rawM m s x a).se, .int .i64 (rawM m s x a).ac, .int .i64 (rawM m s x a).lo, .int .i64 (rawM m s x a).pa, .int .i64 (rawM m s x a).hi, .int .i64 (rawM m s x a).dr, .int .i64 (rawM m s x a).n, .int .i64 (rawM m s x a).st, .int .i64 (rawM m s x a).sr, .int .i64 (rawM m s x a).tt, .int .i64 (rawM m s x a).tr, .int .i64 (rawM m s x a).rr] := by
  cases h : sampB m x a
  · have e : rawM m s x a = hitM m s := by simp [rawM, h]
    rw [e]
    refine psample_no (hitM m s) x a s0 s1 a0 a1 R.f0 R.f1 ?_ hO
    simp only [sampB, Bool.and_eq_false_iff, Bool.not_eq_false', decide_eq_true_eq] at h
    exact h
  · have e : rawM m s x a = sampM (hitM m s) (x - m.fr) (a - x) := by simp [rawM, h]
    rw [e]
    simp only [sampB, Bool.and_eq_true, Bool.not_eq_true', decide_eq_false_iff_not] at h
    have hn : m.n < 1024 := by have := R.n1; omega
    have b1 := R.n0
    refine psample_yes (hitM m s) x a s0 s1 a0 a1 R.f0 R.f1 b1 hn h.2.1 h.2.2 R.st0 ?_ R.sr0 ?_ R.tt0 ?_ R.tr0 ?_ R.rr0 ?_ hO
    · show m.st ≤ _; have := R.st1; omega
    · show m.sr ≤ _; have := R.sr1; omega
    · show m.tt ≤ _; have := R.tt1; omega
    · show m.tr ≤ _; have := R.tr1; omega
    · show m.rr ≤ _; have := R.rr1; omega
set_option maxHeartbeats 2000000 in
set_option maxRecDepth 100000 in
theorem ack_any (m : Mi) (s x a : Int) (x0 : -9223372036854775808 ≤ x) (x1 : x ≤ 9223372036854775807) (w : World) :
    Calls Try.prog 63 #[.agg #[.int .i64 m.id, .int .i64 m.fr, .int .i64 m.to, .int .i64 m.se, .int .i64 m.ac, .int .i64 m.lo, .int .i64 m.pa, .int .i64 m.hi, .int .i64 m.dr, .int .i64 m.n, .int .i64 m.st, .int .i64 m.sr, .int .i64 m.tt, .int .i64 m.tr, .int .i64 m.rr], .int .i64 s, .int .i64 x, .int .i64 a] w fun e w' => e = .returned (.tuple #[.agg #[.int .i64 (ackV m s x a).id, .int .i64 (ackV m s x a).fr, .int .i64 (ackV m s x a).to, .int .i64 (ackV m s x a).se, .int .i64 (ackV m s x a).ac, .int .i64 (ackV m s x a).lo, .int .i64 (ackV m s x a).pa, .int .i64 (ackV m s x a).hi, .int .i64 (ackV m s x a).dr, .int .i64 (ackV m s x a).n, .int .i64 (ackV m s x a).st, .int .i64 (ackV m s x a).sr, .int .i64 (ackV m s x a).tt, .int .i64 (ackV m s x a).tr, .int .i64 (ackV m s x a).rr], .int .i64 (ackE m s x a)]) ∧ Below w.heap.size w w' := by
  have H := Heap.nil w
  have T4 := fun w => isTime_any x w
  have T5 := fun w => within_any a x 1099511627776 w
  cases h1 : rightB m
  · have e1 : ackE m s x a = 1 := by simp [ackE, h1]
    have e2 : ackV m s x a = zeroM := by simp [ackV, e1]
    rw [e1, e2]
    clear e1 e2
    go_enter Try.func63, Try.ntmps63
    go_wp2_with (first | ((first | ((with_reducible refine at_plain ?_); intro K hK) | go_guarded); first | ((with_reducible refine at_ld ?_); first | (refine wpH_ldA rfl rfl H (by repeat (first | exact Found.here | apply Found.there)) (by first | exact row63 | exact row89 | exact row109 | exact row57) ?_) | (refine wpH_ld1 rfl rfl H (by repeat (first | exact Found.here | apply Found.there)) (by first | exact one3 | exact one4 | exact one26 | exact one22 | exact one91) (by rfl) ?_)) | ((with_reducible refine at_st ?_); first | (refine wpH_stA rfl rfl rfl H (by repeat (first | exact Turned.here | apply Turned.there)) (by first | exact row63 | exact row89 | exact row109 | exact row57) (by rfl) (by kernel_rfl) ?_; clear H; intro wN H) | (refine wpH_st1 (v := .int _ _) rfl rfl rfl rfl rfl H (by first | exact one3 | exact one4 | exact one26 | exact one22 | exact one91) (by repeat (first | exact Found.here | apply Found.there)) (by repeat (first | exact SetAt.z | apply SetAt.s)) (by repeat (first | exact Turned.here | apply Turned.there)) ?_; clear H; intro wN H)) | ((with_reducible refine at_al ?_); refine wpH_al rfl (by first | exact zero63 | exact zero89 | exact zero109 | exact zero57) H ?_; clear H; intro bN wN H) | ((with_reducible refine at_bx ?_); refine wpH_bxA rfl rfl H ?_; clear H; intro bN wN H)) | (go_at_call 83; refine (begun_1 m s h1 _).mono ?_; rintro e wN ⟨rfl, hw⟩; replace H := H.call hw; clear hw) | (go_at_call 79; refine (refused_any _ _).mono ?_; rintro e wN ⟨rfl, hw⟩; replace H := H.call hw; clear hw) | (exact bodyPost_ret (results_H2 rfl H (by repeat (first | exact Found.here | apply Found.there)) (by first | exact row63 | exact row89 | exact row109 | exact row57) rfl rfl) rfl ⟨rfl, H.grown⟩))
  cases h2 : win s 1 9000
  · have e1 : ackE m s x a = 9 := by simp [ackE, h1, h2]
    have e2 : ackV m s x a = zeroM := by simp [ackV, e1]
    rw [e1, e2]
    clear e1 e2
    go_enter Try.func63, Try.ntmps63
    go_wp2_with (first | ((first | ((with_reducible refine at_plain ?_); intro K hK) | go_guarded); first | ((with_reducible refine at_ld ?_); first | (refine wpH_ldA rfl rfl H (by repeat (first | exact Found.here | apply Found.there)) (by first | exact row63 | exact row89 | exact row109 | exact row57) ?_) | (refine wpH_ld1 rfl rfl H (by repeat (first | exact Found.here | apply Found.there)) (by first | exact one3 | exact one4 | exact one26 | exact one22 | exact one91) (by rfl) ?_)) | ((with_reducible refine at_st ?_); first | (refine wpH_stA rfl rfl rfl H (by repeat (first | exact Turned.here | apply Turned.there)) (by first | exact row63 | exact row89 | exact row109 | exact row57) (by rfl) (by kernel_rfl) ?_; clear H; intro wN H) | (refine wpH_st1 (v := .int _ _) rfl rfl rfl rfl rfl H (by first | exact one3 | exact one4 | exact one26 | exact one22 | exact one91) (by repeat (first | exact Found.here | apply Found.there)) (by repeat (first | exact SetAt.z | apply SetAt.s)) (by repeat (first | exact Turned.here | apply Turned.there)) ?_; clear H; intro wN H)) | ((with_reducible refine at_al ?_); refine wpH_al rfl (by first | exact zero63 | exact zero89 | exact zero109 | exact zero57) H ?_; clear H; intro bN wN H) | ((with_reducible refine at_bx ?_); refine wpH_bxA rfl rfl H ?_; clear H; intro bN wN H)) | (go_at_call 83; refine (begun_9 m s h1 h2 _).mono ?_; rintro e wN ⟨rfl, hw⟩; replace H := H.call hw; clear hw) | (go_at_call 79; refine (refused_any _ _).mono ?_; rintro e wN ⟨rfl, hw⟩; replace H := H.call hw; clear hw) | (exact bodyPost_ret (results_H2 rfl H (by repeat (first | exact Found.here | apply Found.there)) (by first | exact row63 | exact row89 | exact row109 | exact row57) rfl rfl) rfl ⟨rfl, H.grown⟩))
  have T2 := fun w => begun_0 m s h1 h2 w
  cases h3 : win x 0 1099511627776
  · rw [h3] at T4
    have e1 : ackE m s x a = 10 := by simp [ackE, h1, h2, h3]
    have e2 : ackV m s x a = zeroM := by simp [ackV, e1]
    rw [e1, e2]
    clear e1 e2
    go_enter Try.func63, Try.ntmps63
    go_wp2_with (first | ((first | ((with_reducible refine at_plain ?_); intro K hK) | go_guarded); first | ((with_reducible refine at_ld ?_); first | (refine wpH_ldA rfl rfl H (by repeat (first | exact Found.here | apply Found.there)) (by first | exact row63 | exact row89 | exact row109 | exact row57) ?_) | (refine wpH_ld1 rfl rfl H (by repeat (first | exact Found.here | apply Found.there)) (by first | exact one3 | exact one4 | exact one26 | exact one22 | exact one91) (by rfl) ?_)) | ((with_reducible refine at_st ?_); first | (refine wpH_stA rfl rfl rfl H (by repeat (first | exact Turned.here | apply Turned.there)) (by first | exact row63 | exact row89 | exact row109 | exact row57) (by rfl) (by kernel_rfl) ?_; clear H; intro wN H) | (refine wpH_st1 (v := .int _ _) rfl rfl rfl rfl rfl H (by first | exact one3 | exact one4 | exact one26 | exact one22 | exact one91) (by repeat (first | exact Found.here | apply Found.there)) (by repeat (first | exact SetAt.z | apply SetAt.s)) (by repeat (first | exact Turned.here | apply Turned.there)) ?_; clear H; intro wN H)) | ((with_reducible refine at_al ?_); refine wpH_al rfl (by first | exact zero63 | exact zero89 | exact zero109 | exact zero57) H ?_; clear H; intro bN wN H) | ((with_reducible refine at_bx ?_); refine wpH_bxA rfl rfl H ?_; clear H; intro bN wN H)) | (go_at_call 83; refine (T2 _).mono ?_; rintro e wN ⟨rfl, hw⟩; replace H := H.call hw; clear hw) | (go_at_call 82; refine (T4 _).mono ?_; rintro e wN ⟨rfl, rfl⟩) | (go_at_call 79; refine (refused_any _ _).mono ?_; rintro e wN ⟨rfl, hw⟩; replace H := H.call hw; clear hw) | (exact bodyPost_ret (results_H2 rfl H (by repeat (first | exact Found.here | apply Found.there)) (by first | exact row63 | exact row89 | exact row109 | exact row57) rfl rfl) rfl ⟨rfl, H.grown⟩))
  rw [h3] at T4
  cases h4 : win a x 1099511627776
  · rw [h4] at T5
    have e1 : ackE m s x a = 10 := by simp [ackE, h1, h2, h4]
    have e2 : ackV m s x a = zeroM := by simp [ackV, e1]
    rw [e1, e2]
    clear e1 e2
    go_enter Try.func63, Try.ntmps63
    go_wp2_with (first | ((first | ((with_reducible refine at_plain ?_); intro K hK) | go_guarded); first | ((with_reducible refine at_ld ?_); first | (refine wpH_ldA rfl rfl H (by repeat (first | exact Found.here | apply Found.there)) (by first | exact row63 | exact row89 | exact row109 | exact row57) ?_) | (refine wpH_ld1 rfl rfl H (by repeat (first | exact Found.here | apply Found.there)) (by first | exact one3 | exact one4 | exact one26 | exact one22 | exact one91) (by rfl) ?_)) | ((with_reducible refine at_st ?_); first | (refine wpH_stA rfl rfl rfl H (by repeat (first | exact Turned.here | apply Turned.there)) (by first | exact row63 | exact row89 | exact row109 | exact row57) (by rfl) (by kernel_rfl) ?_; clear H; intro wN H) | (refine wpH_st1 (v := .int _ _) rfl rfl rfl rfl rfl H (by first | exact one3 | exact one4 | exact one26 | exact one22 | exact one91) (by repeat (first | exact Found.here | apply Found.there)) (by repeat (first | exact SetAt.z | apply SetAt.s)) (by repeat (first | exact Turned.here | apply Turned.there)) ?_; clear H; intro wN H)) | ((with_reducible refine at_al ?_); refine wpH_al rfl (by first | exact zero63 | exact zero89 | exact zero109 | exact zero57) H ?_; clear H; intro bN wN H) | ((with_reducible refine at_bx ?_); refine wpH_bxA rfl rfl H ?_; clear H; intro bN wN H)) | (go_at_call 83; refine (T2 _).mono ?_; rintro e wN ⟨rfl, hw⟩; replace H := H.call hw; clear hw) | (go_at_call 82; refine (T4 _).mono ?_; rintro e wN ⟨rfl, rfl⟩) | (go_at_call 80; refine (T5 _).mono ?_; rintro e wN ⟨rfl, rfl⟩) | (go_at_call 79; refine (refused_any _ _).mono ?_; rintro e wN ⟨rfl, hw⟩; replace H := H.call hw; clear hw) | (exact bodyPost_ret (results_H2 rfl H (by repeat (first | exact Found.here | apply Found.there)) (by first | exact row63 | exact row89 | exact row109 | exact row57) rfl rfl) rfl ⟨rfl, H.grown⟩))
  rw [h4] at T5
  have R := (right_iff m).1 h1
  obtain ⟨s0, s1⟩ := win_iff.1 h2
  obtain ⟨y0, y1⟩ := win_iff.1 h3
  obtain ⟨z0, z1⟩ := win_iff.1 h4
  have hp := R.h0
  have hp1 : m.hi ≤ 1048576 := by have := R.h1; have := R.p1; omega
  have hq0 : 0 ≤ m.ac := by have := R.a0; omega
  have hq1 : m.ac ≤ 9437184000 := by have := R.a1; omega
  have T6 := fun {w : World} {b : Nat} (hO : Ob w b [.int .i64 (hitM m s).id, .int .i64 (hitM m s).fr, .int .i64 (hitM m s).to, .int .i64 (hitM m s).se, .int .i64 (hitM m s).ac, .int .i64 (hitM m s).lo, .int .i64 (hitM m s).pa, .int .i64 (hitM m s).hi, .int .i64 (hitM m s).dr, .int .i64 (hitM m s).n, .int .i64 (hitM m s).st, .int .i64 (hitM m s).sr, .int .i64 (hitM m s).tt, .int .i64 (hitM m s).tr, .int .i64 (hitM m s).rr]) => psample_any m s x a R y0 y1 z0 z1 hO
  clear R
  cases h5 : rightB (rawM m s x a)
  · have T3 := fun w => looked_no (rawM m s x a) h5 w
    have e1 : ackE m s x a = 6 := by simp [ackE, h1, h2, h3, h4, h5]
    have e2 : ackV m s x a = zeroM := by simp [ackV, e1]
    rw [e1, e2]
    clear e1 e2 h1 h2 h3 h4 h5
    generalize rawM m s x a = M at *
    go_enter Try.func63, Try.ntmps63
    go_wp2_with (first | ((first | ((with_reducible refine at_plain ?_); intro K hK) | go_guarded); first | ((with_reducible refine at_ld ?_); first | (refine wpH_ldA rfl rfl H (by repeat (first | exact Found.here | apply Found.there)) (by first | exact row63 | exact row89 | exact row109 | exact row57) ?_) | (refine wpH_ld1 rfl rfl H (by repeat (first | exact Found.here | apply Found.there)) (by first | exact one3 | exact one4 | exact one26 | exact one22 | exact one91) (by rfl) ?_)) | ((with_reducible refine at_st ?_); first | (refine wpH_stA rfl rfl rfl H (by repeat (first | exact Turned.here | apply Turned.there)) (by first | exact row63 | exact row89 | exact row109 | exact row57) (by rfl) (by kernel_rfl) ?_; clear H; intro wN H) | (refine wpH_st1 (v := .int _ _) rfl rfl rfl rfl rfl H (by first | exact one3 | exact one4 | exact one26 | exact one22 | exact one91) (by repeat (first | exact Found.here | apply Found.there)) (by repeat (first | exact SetAt.z | apply SetAt.s)) (by repeat (first | exact Turned.here | apply Turned.there)) ?_; clear H; intro wN H)) | ((with_reducible refine at_al ?_); refine wpH_al rfl (by first | exact zero63 | exact zero89 | exact zero109 | exact zero57) H ?_; clear H; intro bN wN H) | ((with_reducible refine at_bx ?_); refine wpH_bxA rfl rfl H ?_; clear H; intro bN wN H)) | (go_at_call 83; refine (T2 _).mono ?_; rintro e wN ⟨rfl, hw⟩; replace H := H.call hw; clear hw) | (go_at_call 82; refine (T4 _).mono ?_; rintro e wN ⟨rfl, rfl⟩) | (go_at_call 80; refine (T5 _).mono ?_; rintro e wN ⟨rfl, rfl⟩) | (go_at_call 86; refine (pack_any m s (by omega) (by omega) (by omega) (by omega) (by omega) (by omega) (H.found (by repeat (first | exact Found.here | apply Found.there))).2).mono ?_; rintro e wN ⟨rfl, hT⟩; replace H := H.turn (by repeat (first | exact Turned.here | apply Turned.there)) hT; clear hT) | (go_at_call 87; refine (T6 (H.found (by repeat (first | exact Found.here | apply Found.there))).2).mono ?_; rintro e wN ⟨rfl, hT⟩; replace H := H.turn (by repeat (first | exact Turned.here | apply Turned.there)) hT; clear hT) | (go_at_call 81; refine (T3 _).mono ?_; rintro e wN ⟨rfl, hw⟩; replace H := H.call hw; clear hw) | (exact bodyPost_ret (results_H2 rfl H (by repeat (first | exact Found.here | apply Found.there)) (by first | exact row63 | exact row89 | exact row109 | exact row57) rfl rfl) rfl ⟨rfl, H.grown⟩))
  · have T3 := fun w => looked_yes (rawM m s x a) h5 w
    have e1 : ackE m s x a = 0 := by simp [ackE, h1, h2, h3, h4, h5]
    have e2 : ackV m s x a = rawM m s x a := by simp [ackV, e1]
    rw [e1, e2]
    clear e1 e2 h1 h2 h3 h4 h5
    generalize rawM m s x a = M at *
    go_enter Try.func63, Try.ntmps63
    go_wp2_with (first | ((first | ((with_reducible refine at_plain ?_); intro K hK) | go_guarded); first | ((with_reducible refine at_ld ?_); first | (refine wpH_ldA rfl rfl H (by repeat (first | exact Found.here | apply Found.there)) (by first | exact row63 | exact row89 | exact row109 | exact row57) ?_) | (refine wpH_ld1 rfl rfl H (by repeat (first | exact Found.here | apply Found.there)) (by first | exact one3 | exact one4 | exact one26 | exact one22 | exact one91) (by rfl) ?_)) | ((with_reducible refine at_st ?_); first | (refine wpH_stA rfl rfl rfl H (by repeat (first | exact Turned.here | apply Turned.there)) (by first | exact row63 | exact row89 | exact row109 | exact row57) (by rfl) (by kernel_rfl) ?_; clear H; intro wN H) | (refine wpH_st1 (v := .int _ _) rfl rfl rfl rfl rfl H (by first | exact one3 | exact one4 | exact one26 | exact one22 | exact one91) (by repeat (first | exact Found.here | apply Found.there)) (by repeat (first | exact SetAt.z | apply SetAt.s)) (by repeat (first | exact Turned.here | apply Turned.there)) ?_; clear H; intro wN H)) | ((with_reducible refine at_al ?_); refine wpH_al rfl (by first | exact zero63 | exact zero89 | exact zero109 | exact zero57) H ?_; clear H; intro bN wN H) | ((with_reducible refine at_bx ?_); refine wpH_bxA rfl rfl H ?_; clear H; intro bN wN H)) | (go_at_call 83; refine (T2 _).mono ?_; rintro e wN ⟨rfl, hw⟩; replace H := H.call hw; clear hw) | (go_at_call 82; refine (T4 _).mono ?_; rintro e wN ⟨rfl, rfl⟩) | (go_at_call 80; refine (T5 _).mono ?_; rintro e wN ⟨rfl, rfl⟩) | (go_at_call 86; refine (pack_any m s (by omega) (by omega) (by omega) (by omega) (by omega) (by omega) (H.found (by repeat (first | exact Found.here | apply Found.there))).2).mono ?_; rintro e wN ⟨rfl, hT⟩; replace H := H.turn (by repeat (first | exact Turned.here | apply Turned.there)) hT; clear hT) | (go_at_call 87; refine (T6 (H.found (by repeat (first | exact Found.here | apply Found.there))).2).mono ?_; rintro e wN ⟨rfl, hT⟩; replace H := H.turn (by repeat (first | exact Turned.here | apply Turned.there)) hT; clear hT) | (go_at_call 81; refine (T3 _).mono ?_; rintro e wN ⟨rfl, hw⟩; replace H := H.call hw; clear hw) | (exact bodyPost_ret (results_H2 rfl H (by repeat (first | exact Found.here | apply Found.there)) (by first | exact row63 | exact row89 | exact row109 | exact row57) rfl rfl) rfl ⟨rfl, H.grown⟩))
def doneB (m : Mi) : Bool := rightB m && (decide (m.to ≠ -1) && decide (m.hi + m.dr = m.pa))
set_option maxHeartbeats 1000000 in
set_option maxRecDepth 100000 in
theorem done_any (m : Mi) (w : World) :
    Calls Try.prog 21 #[.agg #[.int .i64 m.id, .int .i64 m.fr, .int .i64 m.to, .int .i64 m.se, .int .i64 m.ac, .int .i64 m.lo, .int .i64 m.pa, .int .i64 m.hi, .int .i64 m.dr, .int .i64 m.n, .int .i64 m.st, .int .i64 m.sr, .int .i64 m.tt, .int .i64 m.tr, .int .i64 m.rr]] w fun e w' => e = .returned (.bool (doneB m)) ∧ Below w.heap.size w w' := by
  have T1 := fun w => right_any m w
  have T2 := fun w => ended_any m w
  have E : Hid (doneB m = (rightB m && (decide (m.to ≠ -1) && decide (m.hi + m.dr = m.pa)))) := rfl
  generalize doneB m = r at *
  have H := Heap.nil w
  cases h1 : rightB m
  · rw [h1] at T1 E
    have e : Hid (r = false) := by show r = false; rw [E.out]; simp
    clear E h1
    go_enter Try.func21, Try.ntmps21
    go_wp2_with (first | ((first | ((with_reducible refine at_plain ?_); intro K hK) | go_guarded); first | ((with_reducible refine at_ld ?_); first | (refine wpH_ldA rfl rfl H (by repeat (first | exact Found.here | apply Found.there)) (by first | exact row63 | exact row89 | exact row109 | exact row57) ?_) | (refine wpH_ld1 rfl rfl H (by repeat (first | exact Found.here | apply Found.there)) (by first | exact one3 | exact one4 | exact one26 | exact one22 | exact one91) (by rfl) ?_)) | ((with_reducible refine at_st ?_); first | (refine wpH_stA rfl rfl rfl H (by repeat (first | exact Turned.here | apply Turned.there)) (by first | exact row63 | exact row89 | exact row109 | exact row57) (by rfl) (by kernel_rfl) ?_; clear H; intro wN H) | (refine wpH_st1 (v := .int _ _) rfl rfl rfl rfl rfl H (by first | exact one3 | exact one4 | exact one26 | exact one22 | exact one91) (by repeat (first | exact Found.here | apply Found.there)) (by repeat (first | exact SetAt.z | apply SetAt.s)) (by repeat (first | exact Turned.here | apply Turned.there)) ?_; clear H; intro wN H)) | ((with_reducible refine at_al ?_); refine wpH_al rfl (by first | exact zero63 | exact zero89 | exact zero109 | exact zero57) H ?_; clear H; intro bN wN H) | ((with_reducible refine at_bx ?_); refine wpH_bxA rfl rfl H ?_; clear H; intro bN wN H)) | (go_at_call 43; refine (T1 _).mono ?_; rintro e wN ⟨rfl, hw⟩; replace H := H.call hw; clear hw) | fail)
    go_ret
    exact ⟨by rw [e.out]; rfl, H.grown⟩
  have R := (right_iff m).1 h1
  have T3 := fun w => told_any m R.h0 (by have := R.h1; have := R.p1; omega) R.d0 (by have := R.d1; have := R.h0; have := R.p1; omega) w
  clear R
  rw [h1] at T1 E
  clear h1
  cases h2 : decide (m.to ≠ -1)
  · rw [h2] at T2 E
    have e : Hid (r = false) := by show r = false; rw [E.out]; simp
    clear E h2
    go_enter Try.func21, Try.ntmps21
    go_wp2_with (first | ((first | ((with_reducible refine at_plain ?_); intro K hK) | go_guarded); first | ((with_reducible refine at_ld ?_); first | (refine wpH_ldA rfl rfl H (by repeat (first | exact Found.here | apply Found.there)) (by first | exact row63 | exact row89 | exact row109 | exact row57) ?_) | (refine wpH_ld1 rfl rfl H (by repeat (first | exact Found.here | apply Found.there)) (by first | exact one3 | exact one4 | exact one26 | exact one22 | exact one91) (by rfl) ?_)) | ((with_reducible refine at_st ?_); first | (refine wpH_stA rfl rfl rfl H (by repeat (first | exact Turned.here | apply Turned.there)) (by first | exact row63 | exact row89 | exact row109 | exact row57) (by rfl) (by kernel_rfl) ?_; clear H; intro wN H) | (refine wpH_st1 (v := .int _ _) rfl rfl rfl rfl rfl H (by first | exact one3 | exact one4 | exact one26 | exact one22 | exact one91) (by repeat (first | exact Found.here | apply Found.there)) (by repeat (first | exact SetAt.z | apply SetAt.s)) (by repeat (first | exact Turned.here | apply Turned.there)) ?_; clear H; intro wN H)) | ((with_reducible refine at_al ?_); refine wpH_al rfl (by first | exact zero63 | exact zero89 | exact zero109 | exact zero57) H ?_; clear H; intro bN wN H) | ((with_reducible refine at_bx ?_); refine wpH_bxA rfl rfl H ?_; clear H; intro bN wN H)) | (go_at_call 43; refine (T1 _).mono ?_; rintro e wN ⟨rfl, hw⟩; replace H := H.call hw; clear hw) | (go_at_call 44; refine (T2 _).mono ?_; rintro e wN ⟨rfl, hw⟩; replace H := H.call hw; clear hw) | fail)
    go_ret
    exact ⟨by rw [e.out]; rfl, H.grown⟩
  · rw [h2] at T2 E
    have e : Hid (r = decide (m.hi + m.dr = m.pa)) := by show r = _; rw [E.out]; simp
    clear E h2
    generalize decide (m.hi + m.dr = m.pa) = r3 at *
    go_enter Try.func21, Try.ntmps21
    go_wp2_with (first | ((first | ((with_reducible refine at_plain ?_); intro K hK) | go_guarded); first | ((with_reducible refine at_ld ?_); first | (refine wpH_ldA rfl rfl H (by repeat (first | exact Found.here | apply Found.there)) (by first | exact row63 | exact row89 | exact row109 | exact row57) ?_) | (refine wpH_ld1 rfl rfl H (by repeat (first | exact Found.here | apply Found.there)) (by first | exact one3 | exact one4 | exact one26 | exact one22 | exact one91) (by rfl) ?_)) | ((with_reducible refine at_st ?_); first | (refine wpH_stA rfl rfl rfl H (by repeat (first | exact Turned.here | apply Turned.there)) (by first | exact row63 | exact row89 | exact row109 | exact row57) (by rfl) (by kernel_rfl) ?_; clear H; intro wN H) | (refine wpH_st1 (v := .int _ _) rfl rfl rfl rfl rfl H (by first | exact one3 | exact one4 | exact one26 | exact one22 | exact one91) (by repeat (first | exact Found.here | apply Found.there)) (by repeat (first | exact SetAt.z | apply SetAt.s)) (by repeat (first | exact Turned.here | apply Turned.there)) ?_; clear H; intro wN H)) | ((with_reducible refine at_al ?_); refine wpH_al rfl (by first | exact zero63 | exact zero89 | exact zero109 | exact zero57) H ?_; clear H; intro bN wN H) | ((with_reducible refine at_bx ?_); refine wpH_bxA rfl rfl H ?_; clear H; intro bN wN H)) | (go_at_call 43; refine (T1 _).mono ?_; rintro e wN ⟨rfl, hw⟩; replace H := H.call hw; clear hw) | (go_at_call 44; refine (T2 _).mono ?_; rintro e wN ⟨rfl, hw⟩; replace H := H.call hw; clear hw) | (go_at_call 45; refine (T3 _).mono ?_; rintro e wN ⟨rfl, hw⟩; replace H := H.call hw; clear hw) | fail)
    go_ret
    exact ⟨by rw [e.out]; rfl, H.grown⟩
end Go.Proofs.Ytpaalpnoppblaaa
