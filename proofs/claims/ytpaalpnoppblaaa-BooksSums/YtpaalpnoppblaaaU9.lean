/-
  What the program answers to a loss, an end and a beginning, told whole. No conditions.
-/
import Derived.Test.YtpaalpnoppblaaaU8
namespace Go.Proofs.Ytpaalpnoppblaaa
open Go.RowKit
set_option linter.unusedVariables false
set_option maxHeartbeats 2000000 in
set_option maxRecDepth 100000 in
theorem lose_any (m : Mi) (s : Int) (w : World) :
    Calls Try.prog 62 #[.agg #[.int .i64 m.id, .int .i64 m.fr, .int .i64 m.to, .int .i64 m.se, .int .i64 m.ac, .int .i64 m.lo, .int .i64 m.pa, .int .i64 m.hi, .int .i64 m.dr, .int .i64 m.n, .int .i64 m.st, .int .i64 m.sr, .int .i64 m.tt, .int .i64 m.tr, .int .i64 m.rr], .int .i64 s] w fun e w' => e = .returned (.tuple #[.agg #[.int .i64 (loseV m s).id, .int .i64 (loseV m s).fr, .int .i64 (loseV m s).to, .int .i64 (loseV m s).se, .int .i64 (loseV m s).ac, .int .i64 (loseV m s).lo, .int .i64 (loseV m s).pa, .int .i64 (loseV m s).hi, .int .i64 (loseV m s).dr, .int .i64 (loseV m s).n, .int .i64 (loseV m s).st, .int .i64 (loseV m s).sr, .int .i64 (loseV m s).tt, .int .i64 (loseV m s).tr, .int .i64 (loseV m s).rr], .int .i64 (loseE m s)]) ∧ Below w.heap.size w w' := by
  have H := Heap.nil w
  cases h1 : rightB m
  · have e1 : loseE m s = 1 := by simp [loseE, h1]
    have e2 : loseV m s = zeroM := by simp [loseV, e1]
    rw [e1, e2]
    clear e1 e2
    go_enter Try.func62, Try.ntmps62
    go_wp2_with (first | ((first | ((with_reducible refine at_plain ?_); intro K hK) | go_guarded); first | ((with_reducible refine at_ld ?_); first | (refine wpH_ldA rfl rfl H (by repeat (first | exact Found.here | apply Found.there)) (by first | exact row63 | exact row89 | exact row109 | exact row57) ?_) | (refine wpH_ld1 rfl rfl H (by repeat (first | exact Found.here | apply Found.there)) (by first | exact one3 | exact one4 | exact one26 | exact one22 | exact one91) (by rfl) ?_)) | ((with_reducible refine at_st ?_); first | (refine wpH_stA rfl rfl rfl H (by repeat (first | exact Turned.here | apply Turned.there)) (by first | exact row63 | exact row89 | exact row109 | exact row57) (by rfl) (by kernel_rfl) ?_; clear H; intro wN H) | (refine wpH_st1 (v := .int _ _) rfl rfl rfl rfl rfl H (by first | exact one3 | exact one4 | exact one26 | exact one22 | exact one91) (by repeat (first | exact Found.here | apply Found.there)) (by repeat (first | exact SetAt.z | apply SetAt.s)) (by repeat (first | exact Turned.here | apply Turned.there)) ?_; clear H; intro wN H)) | ((with_reducible refine at_al ?_); refine wpH_al rfl (by first | exact zero63 | exact zero89 | exact zero109 | exact zero57) H ?_; clear H; intro bN wN H) | ((with_reducible refine at_bx ?_); refine wpH_bxA rfl rfl H ?_; clear H; intro bN wN H)) | (go_at_call 83; refine (begun_1 m s h1 _).mono ?_; rintro e wN ⟨rfl, hw⟩; replace H := H.call hw; clear hw) | (go_at_call 79; refine (refused_any _ _).mono ?_; rintro e wN ⟨rfl, hw⟩; replace H := H.call hw; clear hw) | (exact bodyPost_ret (results_H2 rfl H (by repeat (first | exact Found.here | apply Found.there)) (by first | exact row63 | exact row89 | exact row109 | exact row57) rfl rfl) rfl ⟨rfl, H.grown⟩))
  cases h2 : win s 1 9000
  · have e1 : loseE m s = 9 := by simp [loseE, h1, h2]
    have e2 : loseV m s = zeroM := by simp [loseV, e1]
    rw [e1, e2]
    clear e1 e2
    go_enter Try.func62, Try.ntmps62
    go_wp2_with (first | ((first | ((with_reducible refine at_plain ?_); intro K hK) | go_guarded); first | ((with_reducible refine at_ld ?_); first | (refine wpH_ldA rfl rfl H (by repeat (first | exact Found.here | apply Found.there)) (by first | exact row63 | exact row89 | exact row109 | exact row57) ?_) | (refine wpH_ld1 rfl rfl H (by repeat (first | exact Found.here | apply Found.there)) (by first | exact one3 | exact one4 | exact one26 | exact one22 | exact one91) (by rfl) ?_)) | ((with_reducible refine at_st ?_); first | (refine wpH_stA rfl rfl rfl H (by repeat (first | exact Turned.here | apply Turned.there)) (by first | exact row63 | exact row89 | exact row109 | exact row57) (by rfl) (by kernel_rfl) ?_; clear H; intro wN H) | (refine wpH_st1 (v := .int _ _) rfl rfl rfl rfl rfl H (by first | exact one3 | exact one4 | exact one26 | exact one22 | exact one91) (by repeat (first | exact Found.here | apply Found.there)) (by repeat (first | exact SetAt.z | apply SetAt.s)) (by repeat (first | exact Turned.here | apply Turned.there)) ?_; clear H; intro wN H)) | ((with_reducible refine at_al ?_); refine wpH_al rfl (by first | exact zero63 | exact zero89 | exact zero109 | exact zero57) H ?_; clear H; intro bN wN H) | ((with_reducible refine at_bx ?_); refine wpH_bxA rfl rfl H ?_; clear H; intro bN wN H)) | (go_at_call 83; refine (begun_9 m s h1 h2 _).mono ?_; rintro e wN ⟨rfl, hw⟩; replace H := H.call hw; clear hw) | (go_at_call 79; refine (refused_any _ _).mono ?_; rintro e wN ⟨rfl, hw⟩; replace H := H.call hw; clear hw) | (exact bodyPost_ret (results_H2 rfl H (by repeat (first | exact Found.here | apply Found.there)) (by first | exact row63 | exact row89 | exact row109 | exact row57) rfl rfl) rfl ⟨rfl, H.grown⟩))
  have T2 := fun w => begun_0 m s h1 h2 w
  have R := (right_iff m).1 h1
  obtain ⟨s0, s1⟩ := win_iff.1 h2
  have hp := R.d0
  have hp1 : m.dr ≤ 1048576 := by have := R.d1; have := R.h0; have := R.p1; omega
  have hq0 : 0 ≤ m.lo := by have := R.l0; omega
  have hq1 : m.lo ≤ 9437184000 := by have := R.l1; omega
  clear R
  cases h3 : rightB (lostM m s)
  · have T3 := fun w => looked_no (lostM m s) h3 w
    have e1 : loseE m s = 6 := by simp [loseE, h1, h2, h3]
    have e2 : loseV m s = zeroM := by simp [loseV, e1]
    rw [e1, e2]
    clear e1 e2 h1 h2 h3
    go_enter Try.func62, Try.ntmps62
    go_wp2_with (first | ((first | ((with_reducible refine at_plain ?_); intro K hK) | go_guarded); first | ((with_reducible refine at_ld ?_); first | (refine wpH_ldA rfl rfl H (by repeat (first | exact Found.here | apply Found.there)) (by first | exact row63 | exact row89 | exact row109 | exact row57) ?_) | (refine wpH_ld1 rfl rfl H (by repeat (first | exact Found.here | apply Found.there)) (by first | exact one3 | exact one4 | exact one26 | exact one22 | exact one91) (by rfl) ?_)) | ((with_reducible refine at_st ?_); first | (refine wpH_stA rfl rfl rfl H (by repeat (first | exact Turned.here | apply Turned.there)) (by first | exact row63 | exact row89 | exact row109 | exact row57) (by rfl) (by kernel_rfl) ?_; clear H; intro wN H) | (refine wpH_st1 (v := .int _ _) rfl rfl rfl rfl rfl H (by first | exact one3 | exact one4 | exact one26 | exact one22 | exact one91) (by repeat (first | exact Found.here | apply Found.there)) (by repeat (first | exact SetAt.z | apply SetAt.s)) (by repeat (first | exact Turned.here | apply Turned.there)) ?_; clear H; intro wN H)) | ((with_reducible refine at_al ?_); refine wpH_al rfl (by first | exact zero63 | exact zero89 | exact zero109 | exact zero57) H ?_; clear H; intro bN wN H) | ((with_reducible refine at_bx ?_); refine wpH_bxA rfl rfl H ?_; clear H; intro bN wN H)) | (go_at_call 83; refine (T2 _).mono ?_; rintro e wN ⟨rfl, hw⟩; replace H := H.call hw; clear hw) | (go_at_call 85; refine (plose_any m s (by omega) (by omega) (by omega) (by omega) (by omega) (by omega) (H.found (by repeat (first | exact Found.here | apply Found.there))).2).mono ?_; rintro e wN ⟨rfl, hT⟩; replace H := H.turn (by repeat (first | exact Turned.here | apply Turned.there)) hT; clear hT) | (go_at_call 81; refine (T3 _).mono ?_; rintro e wN ⟨rfl, hw⟩; replace H := H.call hw; clear hw) | (exact bodyPost_ret (results_H2 rfl H (by repeat (first | exact Found.here | apply Found.there)) (by first | exact row63 | exact row89 | exact row109 | exact row57) rfl rfl) rfl ⟨rfl, H.grown⟩))
  · have T3 := fun w => looked_yes (lostM m s) h3 w
    have e1 : loseE m s = 0 := by simp [loseE, h1, h2, h3]
    have e2 : loseV m s = lostM m s := by simp [loseV, e1]
    rw [e1, e2]
    clear e1 e2 h1 h2 h3
    go_enter Try.func62, Try.ntmps62
    go_wp2_with (first | ((first | ((with_reducible refine at_plain ?_); intro K hK) | go_guarded); first | ((with_reducible refine at_ld ?_); first | (refine wpH_ldA rfl rfl H (by repeat (first | exact Found.here | apply Found.there)) (by first | exact row63 | exact row89 | exact row109 | exact row57) ?_) | (refine wpH_ld1 rfl rfl H (by repeat (first | exact Found.here | apply Found.there)) (by first | exact one3 | exact one4 | exact one26 | exact one22 | exact one91) (by rfl) ?_)) | ((with_reducible refine at_st ?_); first | (refine wpH_stA rfl rfl rfl H (by repeat (first | exact Turned.here | apply Turned.there)) (by first | exact row63 | exact row89 | exact row109 | exact row57) (by rfl) (by kernel_rfl) ?_; clear H; intro wN H) | (refine wpH_st1 (v := .int _ _) rfl rfl rfl rfl rfl H (by first | exact one3 | exact one4 | exact one26 | exact one22 | exact one91) (by repeat (first | exact Found.here | apply Found.there)) (by repeat (first | exact SetAt.z | apply SetAt.s)) (by repeat (first | exact Turned.here | apply Turned.there)) ?_; clear H; intro wN H)) | ((with_reducible refine at_al ?_); refine wpH_al rfl (by first | exact zero63 | exact zero89 | exact zero109 | exact zero57) H ?_; clear H; intro bN wN H) | ((with_reducible refine at_bx ?_); refine wpH_bxA rfl rfl H ?_; clear H; intro bN wN H)) | (go_at_call 83; refine (T2 _).mono ?_; rintro e wN ⟨rfl, hw⟩; replace H := H.call hw; clear hw) | (go_at_call 85; refine (plose_any m s (by omega) (by omega) (by omega) (by omega) (by omega) (by omega) (H.found (by repeat (first | exact Found.here | apply Found.there))).2).mono ?_; rintro e wN ⟨rfl, hT⟩; replace H := H.turn (by repeat (first | exact Turned.here | apply Turned.there)) hT; clear hT) | (go_at_call 81; refine (T3 _).mono ?_; rintro e wN ⟨rfl, hw⟩; replace H := H.call hw; clear hw) | (exact bodyPost_ret (results_H2 rfl H (by repeat (first | exact Found.here | apply Found.there)) (by first | exact row63 | exact row89 | exact row109 | exact row57) rfl rfl) rfl ⟨rfl, H.grown⟩))
end Go.Proofs.Ytpaalpnoppblaaa
