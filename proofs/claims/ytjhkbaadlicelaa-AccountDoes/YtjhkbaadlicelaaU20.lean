/-
  The document's answer to an ack, told whole. No conditions.
-/
import Derived.Test.YtjhkbaadlicelaaU19
namespace Go.Proofs.Ytjhkbaadlicelaa
open Go.RowKit
set_option linter.unusedVariables false
set_option maxHeartbeats 4000000 in
set_option maxRecDepth 100000 in
theorem refAck_no (m : Mi) (s x a : Int) (w : World) (h : ¬ (rightB m = true ∧ win s 1 9000 = true ∧ win x 0 1099511627776 = true ∧ win a x 1099511627776 = true)) :
    Calls Try.prog 10 #[.agg #[.int .i64 m.id, .int .i64 m.fr, .int .i64 m.to, .int .i64 m.se, .int .i64 m.ac, .int .i64 m.lo, .int .i64 m.pa, .int .i64 m.hi, .int .i64 m.dr, .int .i64 m.n, .int .i64 m.st, .int .i64 m.sr, .int .i64 m.tt, .int .i64 m.tr, .int .i64 m.rr], .int .i64 s, .int .i64 x, .int .i64 a] w fun e w' => e = .returned (.tuple #[.agg #[.int .i64 (ackV m s x a).id, .int .i64 (ackV m s x a).fr, .int .i64 (ackV m s x a).to, .int .i64 (ackV m s x a).se, .int .i64 (ackV m s x a).ac, .int .i64 (ackV m s x a).lo, .int .i64 (ackV m s x a).pa, .int .i64 (ackV m s x a).hi, .int .i64 (ackV m s x a).dr, .int .i64 (ackV m s x a).n, .int .i64 (ackV m s x a).st, .int .i64 (ackV m s x a).sr, .int .i64 (ackV m s x a).tt, .int .i64 (ackV m s x a).tr, .int .i64 (ackV m s x a).rr], .int .i64 (ackE m s x a)]) ∧ Below w.heap.size w w' := by
  have H := Heap.nil w
  have T1 := fun w => refIs_any m w
  have T2 := fun w => refSize_any s w
  have T3 := fun w => refTime_any x w
  have T4 := fun w => refTime_any a w
  cases h1 : rightB m
  · rw [h1] at T1
    have e1 : ackE m s x a = 1 := by simp [ackE, h1]
    have e2 : ackV m s x a = zeroM := by simp [ackV, e1]
    rw [e1, e2]
    clear e1 e2 h
    go_enter Try.func10, Try.ntmps10
    go_wp2_with (first | ((first | ((with_reducible refine at_plain ?_); intro K hK) | go_guarded); first | ((with_reducible refine at_ld ?_); first | (refine wpH_ldA rfl rfl H (by repeat (first | exact Found.here | apply Found.there)) (by first | exact row23 | exact row39 | exact row41 | exact row34) ?_) | (refine wpH_ld1 rfl rfl H (by repeat (first | exact Found.here | apply Found.there)) (by first | exact one3 | exact one4 | exact one24) (by rfl) ?_)) | ((with_reducible refine at_st ?_); first | (refine wpH_stA rfl rfl rfl H (by repeat (first | exact Turned.here | apply Turned.there)) (by first | exact row23 | exact row39 | exact row41 | exact row34) (by rfl) (by kernel_rfl) ?_; clear H; intro wN H) | (refine wpH_st1 (v := .int _ _) rfl rfl rfl rfl rfl H (by first | exact one3 | exact one4 | exact one24) (by repeat (first | exact Found.here | apply Found.there)) (by repeat (first | exact SetAt.z | apply SetAt.s)) (by repeat (first | exact Turned.here | apply Turned.there)) ?_; clear H; intro wN H)) | ((with_reducible refine at_al ?_); refine wpH_al rfl (by first | exact zero23 | exact zero39 | exact zero41 | exact zero34) H ?_; clear H; intro bN wN H) | ((with_reducible refine at_bx ?_); refine wpH_bxA rfl rfl H ?_; clear H; intro bN wN H)) | (go_at_call 19; refine (T1 _).mono ?_; rintro e wN ⟨rfl, hw⟩; replace H := H.call hw; clear hw) | (exact bodyPost_ret (results_H2 rfl H (by repeat (first | exact Found.here | apply Found.there)) (by first | exact row23 | exact row39 | exact row41 | exact row34) rfl rfl) rfl ⟨rfl, H.grown⟩))
  rw [h1] at T1
  cases h2 : win s 1 9000
  · rw [h2] at T2
    have e1 : ackE m s x a = 9 := by simp [ackE, h1, h2]
    have e2 : ackV m s x a = zeroM := by simp [ackV, e1]
    rw [e1, e2]
    clear e1 e2 h
    go_enter Try.func10, Try.ntmps10
    go_wp2_with (first | ((first | ((with_reducible refine at_plain ?_); intro K hK) | go_guarded); first | ((with_reducible refine at_ld ?_); first | (refine wpH_ldA rfl rfl H (by repeat (first | exact Found.here | apply Found.there)) (by first | exact row23 | exact row39 | exact row41 | exact row34) ?_) | (refine wpH_ld1 rfl rfl H (by repeat (first | exact Found.here | apply Found.there)) (by first | exact one3 | exact one4 | exact one24) (by rfl) ?_)) | ((with_reducible refine at_st ?_); first | (refine wpH_stA rfl rfl rfl H (by repeat (first | exact Turned.here | apply Turned.there)) (by first | exact row23 | exact row39 | exact row41 | exact row34) (by rfl) (by kernel_rfl) ?_; clear H; intro wN H) | (refine wpH_st1 (v := .int _ _) rfl rfl rfl rfl rfl H (by first | exact one3 | exact one4 | exact one24) (by repeat (first | exact Found.here | apply Found.there)) (by repeat (first | exact SetAt.z | apply SetAt.s)) (by repeat (first | exact Turned.here | apply Turned.there)) ?_; clear H; intro wN H)) | ((with_reducible refine at_al ?_); refine wpH_al rfl (by first | exact zero23 | exact zero39 | exact zero41 | exact zero34) H ?_; clear H; intro bN wN H) | ((with_reducible refine at_bx ?_); refine wpH_bxA rfl rfl H ?_; clear H; intro bN wN H)) | (go_at_call 19; refine (T1 _).mono ?_; rintro e wN ⟨rfl, hw⟩; replace H := H.call hw; clear hw) | (go_at_call 28; refine (T2 _).mono ?_; rintro e wN ⟨rfl, rfl⟩) | (exact bodyPost_ret (results_H2 rfl H (by repeat (first | exact Found.here | apply Found.there)) (by first | exact row23 | exact row39 | exact row41 | exact row34) rfl rfl) rfl ⟨rfl, H.grown⟩))
  rw [h2] at T2
  cases h3 : win x 0 1099511627776
  · rw [h3] at T3
    have e1 : ackE m s x a = 10 := by simp [ackE, h1, h2, h3]
    have e2 : ackV m s x a = zeroM := by simp [ackV, e1]
    rw [e1, e2]
    clear e1 e2 h T4
    go_enter Try.func10, Try.ntmps10
    go_wp2_with (first | ((first | ((with_reducible refine at_plain ?_); intro K hK) | go_guarded); first | ((with_reducible refine at_ld ?_); first | (refine wpH_ldA rfl rfl H (by repeat (first | exact Found.here | apply Found.there)) (by first | exact row23 | exact row39 | exact row41 | exact row34) ?_) | (refine wpH_ld1 rfl rfl H (by repeat (first | exact Found.here | apply Found.there)) (by first | exact one3 | exact one4 | exact one24) (by rfl) ?_)) | ((with_reducible refine at_st ?_); first | (refine wpH_stA rfl rfl rfl H (by repeat (first | exact Turned.here | apply Turned.there)) (by first | exact row23 | exact row39 | exact row41 | exact row34) (by rfl) (by kernel_rfl) ?_; clear H; intro wN H) | (refine wpH_st1 (v := .int _ _) rfl rfl rfl rfl rfl H (by first | exact one3 | exact one4 | exact one24) (by repeat (first | exact Found.here | apply Found.there)) (by repeat (first | exact SetAt.z | apply SetAt.s)) (by repeat (first | exact Turned.here | apply Turned.there)) ?_; clear H; intro wN H)) | ((with_reducible refine at_al ?_); refine wpH_al rfl (by first | exact zero23 | exact zero39 | exact zero41 | exact zero34) H ?_; clear H; intro bN wN H) | ((with_reducible refine at_bx ?_); refine wpH_bxA rfl rfl H ?_; clear H; intro bN wN H)) | (go_at_call 19; refine (T1 _).mono ?_; rintro e wN ⟨rfl, hw⟩; replace H := H.call hw; clear hw) | (go_at_call 28; refine (T2 _).mono ?_; rintro e wN ⟨rfl, rfl⟩) | (go_at_call 33; refine (T3 _).mono ?_; rintro e wN ⟨rfl, rfl⟩) | (exact bodyPost_ret (results_H2 rfl H (by repeat (first | exact Found.here | apply Found.there)) (by first | exact row23 | exact row39 | exact row41 | exact row34) rfl rfl) rfl ⟨rfl, H.grown⟩))
  rw [h3] at T3
  have k3 := win_iff.1 h3
  cases h4 : win a x 1099511627776
  rotate_left
  · exact absurd ⟨h1, h2, h3, h4⟩ h
  clear h
  have e1 : ackE m s x a = 10 := by simp [ackE, h1, h2, h3, h4]
  have e2 : ackV m s x a = zeroM := by simp [ackV, e1]
  rw [e1, e2]
  clear e1 e2
  cases h5 : win a 0 1099511627776
  · rw [h5] at T4
    clear h4
    go_enter Try.func10, Try.ntmps10
    go_wp2_with (first | ((first | ((with_reducible refine at_plain ?_); intro K hK) | go_guarded); first | ((with_reducible refine at_ld ?_); first | (refine wpH_ldA rfl rfl H (by repeat (first | exact Found.here | apply Found.there)) (by first | exact row23 | exact row39 | exact row41 | exact row34) ?_) | (refine wpH_ld1 rfl rfl H (by repeat (first | exact Found.here | apply Found.there)) (by first | exact one3 | exact one4 | exact one24) (by rfl) ?_)) | ((with_reducible refine at_st ?_); first | (refine wpH_stA rfl rfl rfl H (by repeat (first | exact Turned.here | apply Turned.there)) (by first | exact row23 | exact row39 | exact row41 | exact row34) (by rfl) (by kernel_rfl) ?_; clear H; intro wN H) | (refine wpH_st1 (v := .int _ _) rfl rfl rfl rfl rfl H (by first | exact one3 | exact one4 | exact one24) (by repeat (first | exact Found.here | apply Found.there)) (by repeat (first | exact SetAt.z | apply SetAt.s)) (by repeat (first | exact Turned.here | apply Turned.there)) ?_; clear H; intro wN H)) | ((with_reducible refine at_al ?_); refine wpH_al rfl (by first | exact zero23 | exact zero39 | exact zero41 | exact zero34) H ?_; clear H; intro bN wN H) | ((with_reducible refine at_bx ?_); refine wpH_bxA rfl rfl H ?_; clear H; intro bN wN H)) | (go_at_call 19; refine (T1 _).mono ?_; rintro e wN ⟨rfl, hw⟩; replace H := H.call hw; clear hw) | (go_at_call 28; refine (T2 _).mono ?_; rintro e wN ⟨rfl, rfl⟩) | fail)
    refine (T3 _).mono ?_
    rintro e wN ⟨rfl, rfl⟩
    go_wp2_with (first | ((first | ((with_reducible refine at_plain ?_); intro K hK) | go_guarded); first | ((with_reducible refine at_ld ?_); first | (refine wpH_ldA rfl rfl H (by repeat (first | exact Found.here | apply Found.there)) (by first | exact row23 | exact row39 | exact row41 | exact row34) ?_) | (refine wpH_ld1 rfl rfl H (by repeat (first | exact Found.here | apply Found.there)) (by first | exact one3 | exact one4 | exact one24) (by rfl) ?_)) | ((with_reducible refine at_st ?_); first | (refine wpH_stA rfl rfl rfl H (by repeat (first | exact Turned.here | apply Turned.there)) (by first | exact row23 | exact row39 | exact row41 | exact row34) (by rfl) (by kernel_rfl) ?_; clear H; intro wN H) | (refine wpH_st1 (v := .int _ _) rfl rfl rfl rfl rfl H (by first | exact one3 | exact one4 | exact one24) (by repeat (first | exact Found.here | apply Found.there)) (by repeat (first | exact SetAt.z | apply SetAt.s)) (by repeat (first | exact Turned.here | apply Turned.there)) ?_; clear H; intro wN H)) | ((with_reducible refine at_al ?_); refine wpH_al rfl (by first | exact zero23 | exact zero39 | exact zero41 | exact zero34) H ?_; clear H; intro bN wN H) | ((with_reducible refine at_bx ?_); refine wpH_bxA rfl rfl H ?_; clear H; intro bN wN H)) | fail)
    refine (T4 _).mono ?_
    rintro e wN ⟨rfl, rfl⟩
    go_wp2_with (first | ((first | ((with_reducible refine at_plain ?_); intro K hK) | go_guarded); first | ((with_reducible refine at_ld ?_); first | (refine wpH_ldA rfl rfl H (by repeat (first | exact Found.here | apply Found.there)) (by first | exact row23 | exact row39 | exact row41 | exact row34) ?_) | (refine wpH_ld1 rfl rfl H (by repeat (first | exact Found.here | apply Found.there)) (by first | exact one3 | exact one4 | exact one24) (by rfl) ?_)) | ((with_reducible refine at_st ?_); first | (refine wpH_stA rfl rfl rfl H (by repeat (first | exact Turned.here | apply Turned.there)) (by first | exact row23 | exact row39 | exact row41 | exact row34) (by rfl) (by kernel_rfl) ?_; clear H; intro wN H) | (refine wpH_st1 (v := .int _ _) rfl rfl rfl rfl rfl H (by first | exact one3 | exact one4 | exact one24) (by repeat (first | exact Found.here | apply Found.there)) (by repeat (first | exact SetAt.z | apply SetAt.s)) (by repeat (first | exact Turned.here | apply Turned.there)) ?_; clear H; intro wN H)) | ((with_reducible refine at_al ?_); refine wpH_al rfl (by first | exact zero23 | exact zero39 | exact zero41 | exact zero34) H ?_; clear H; intro bN wN H) | ((with_reducible refine at_bx ?_); refine wpH_bxA rfl rfl H ?_; clear H; intro bN wN H)) | (exact bodyPost_ret (results_H2 rfl H (by repeat (first | exact Found.here | apply Found.there)) (by first | exact row23 | exact row39 | exact row41 | exact row34) rfl rfl) rfl ⟨rfl, H.grown⟩))
  · rw [h5] at T4
    have k5 := win_iff.1 h5
    have k4 : a < x := by
      by_cases q : a < x
      · exact q
      · rw [win_iff.2 ⟨by omega, k5.2⟩] at h4; cases h4
    clear h4
    go_enter Try.func10, Try.ntmps10
    go_wp2_with (first | ((first | ((with_reducible refine at_plain ?_); intro K hK) | go_guarded); first | ((with_reducible refine at_ld ?_); first | (refine wpH_ldA rfl rfl H (by repeat (first | exact Found.here | apply Found.there)) (by first | exact row23 | exact row39 | exact row41 | exact row34) ?_) | (refine wpH_ld1 rfl rfl H (by repeat (first | exact Found.here | apply Found.there)) (by first | exact one3 | exact one4 | exact one24) (by rfl) ?_)) | ((with_reducible refine at_st ?_); first | (refine wpH_stA rfl rfl rfl H (by repeat (first | exact Turned.here | apply Turned.there)) (by first | exact row23 | exact row39 | exact row41 | exact row34) (by rfl) (by kernel_rfl) ?_; clear H; intro wN H) | (refine wpH_st1 (v := .int _ _) rfl rfl rfl rfl rfl H (by first | exact one3 | exact one4 | exact one24) (by repeat (first | exact Found.here | apply Found.there)) (by repeat (first | exact SetAt.z | apply SetAt.s)) (by repeat (first | exact Turned.here | apply Turned.there)) ?_; clear H; intro wN H)) | ((with_reducible refine at_al ?_); refine wpH_al rfl (by first | exact zero23 | exact zero39 | exact zero41 | exact zero34) H ?_; clear H; intro bN wN H) | ((with_reducible refine at_bx ?_); refine wpH_bxA rfl rfl H ?_; clear H; intro bN wN H)) | (go_at_call 19; refine (T1 _).mono ?_; rintro e wN ⟨rfl, hw⟩; replace H := H.call hw; clear hw) | (go_at_call 28; refine (T2 _).mono ?_; rintro e wN ⟨rfl, rfl⟩) | fail)
    refine (T3 _).mono ?_
    rintro e wN ⟨rfl, rfl⟩
    go_wp2_with (first | ((first | ((with_reducible refine at_plain ?_); intro K hK) | go_guarded); first | ((with_reducible refine at_ld ?_); first | (refine wpH_ldA rfl rfl H (by repeat (first | exact Found.here | apply Found.there)) (by first | exact row23 | exact row39 | exact row41 | exact row34) ?_) | (refine wpH_ld1 rfl rfl H (by repeat (first | exact Found.here | apply Found.there)) (by first | exact one3 | exact one4 | exact one24) (by rfl) ?_)) | ((with_reducible refine at_st ?_); first | (refine wpH_stA rfl rfl rfl H (by repeat (first | exact Turned.here | apply Turned.there)) (by first | exact row23 | exact row39 | exact row41 | exact row34) (by rfl) (by kernel_rfl) ?_; clear H; intro wN H) | (refine wpH_st1 (v := .int _ _) rfl rfl rfl rfl rfl H (by first | exact one3 | exact one4 | exact one24) (by repeat (first | exact Found.here | apply Found.there)) (by repeat (first | exact SetAt.z | apply SetAt.s)) (by repeat (first | exact Turned.here | apply Turned.there)) ?_; clear H; intro wN H)) | ((with_reducible refine at_al ?_); refine wpH_al rfl (by first | exact zero23 | exact zero39 | exact zero41 | exact zero34) H ?_; clear H; intro bN wN H) | ((with_reducible refine at_bx ?_); refine wpH_bxA rfl rfl H ?_; clear H; intro bN wN H)) | fail)
    refine (T4 _).mono ?_
    rintro e wN ⟨rfl, rfl⟩
    go_wp2_with (first | ((first | ((with_reducible refine at_plain ?_); intro K hK) | go_guarded); first | ((with_reducible refine at_ld ?_); first | (refine wpH_ldA rfl rfl H (by repeat (first | exact Found.here | apply Found.there)) (by first | exact row23 | exact row39 | exact row41 | exact row34) ?_) | (refine wpH_ld1 rfl rfl H (by repeat (first | exact Found.here | apply Found.there)) (by first | exact one3 | exact one4 | exact one24) (by rfl) ?_)) | ((with_reducible refine at_st ?_); first | (refine wpH_stA rfl rfl rfl H (by repeat (first | exact Turned.here | apply Turned.there)) (by first | exact row23 | exact row39 | exact row41 | exact row34) (by rfl) (by kernel_rfl) ?_; clear H; intro wN H) | (refine wpH_st1 (v := .int _ _) rfl rfl rfl rfl rfl H (by first | exact one3 | exact one4 | exact one24) (by repeat (first | exact Found.here | apply Found.there)) (by repeat (first | exact SetAt.z | apply SetAt.s)) (by repeat (first | exact Turned.here | apply Turned.there)) ?_; clear H; intro wN H)) | ((with_reducible refine at_al ?_); refine wpH_al rfl (by first | exact zero23 | exact zero39 | exact zero41 | exact zero34) H ?_; clear H; intro bN wN H) | ((with_reducible refine at_bx ?_); refine wpH_bxA rfl rfl H ?_; clear H; intro bN wN H)) | (exact bodyPost_ret (results_H2 rfl H (by repeat (first | exact Found.here | apply Found.there)) (by first | exact row23 | exact row39 | exact row41 | exact row34) rfl rfl) rfl ⟨rfl, H.grown⟩))
set_option maxHeartbeats 4000000 in
set_option maxRecDepth 100000 in
theorem refAck_hit (m : Mi) (s x a : Int) (T1 : ∀ w, Calls Try.prog 19 #[.agg #[.int .i64 m.id, .int .i64 m.fr, .int .i64 m.to, .int .i64 m.se, .int .i64 m.ac, .int .i64 m.lo, .int .i64 m.pa, .int .i64 m.hi, .int .i64 m.dr, .int .i64 m.n, .int .i64 m.st, .int .i64 m.sr, .int .i64 m.tt, .int .i64 m.tr, .int .i64 m.rr]] w fun e w' => e = .returned (.bool true) ∧ Below w.heap.size w w') (T2 : ∀ w, Calls Try.prog 28 #[.int .i64 s] w fun e w' => e = .returned (.bool true) ∧ w' = w)
    (T3 : ∀ w, Calls Try.prog 33 #[.int .i64 x] w fun e w' => e = .returned (.bool true) ∧ w' = w) (T4 : ∀ w, Calls Try.prog 33 #[.int .i64 a] w fun e w' => e = .returned (.bool true) ∧ w' = w)
    (s0 : 1 ≤ s) (s1 : s ≤ 9000) (x0 : 0 ≤ x) (x1 : x ≤ 1099511627776) (a0 : x ≤ a) (a1 : a ≤ 1099511627776) (f0 : 0 ≤ m.fr) (f1 : m.fr ≤ 1099511627776) (p0 : 0 ≤ m.hi) (p1 : m.hi ≤ 1048576) (q0 : 0 ≤ m.ac) (q1 : m.ac ≤ 9437184000)
    (V : Mi) (E : Int) (T5 : ∀ w, Calls Try.prog 34 #[.agg #[.int .i64 (hitM m s).id, .int .i64 (hitM m s).fr, .int .i64 (hitM m s).to, .int .i64 (hitM m s).se, .int .i64 (hitM m s).ac, .int .i64 (hitM m s).lo, .int .i64 (hitM m s).pa, .int .i64 (hitM m s).hi, .int .i64 (hitM m s).dr, .int .i64 (hitM m s).n, .int .i64 (hitM m s).st, .int .i64 (hitM m s).sr, .int .i64 (hitM m s).tt, .int .i64 (hitM m s).tr, .int .i64 (hitM m s).rr]] w fun e w' => e = .returned (.tuple #[.agg #[.int .i64 V.id, .int .i64 V.fr, .int .i64 V.to, .int .i64 V.se, .int .i64 V.ac, .int .i64 V.lo, .int .i64 V.pa, .int .i64 V.hi, .int .i64 V.dr, .int .i64 V.n, .int .i64 V.st, .int .i64 V.sr, .int .i64 V.tt, .int .i64 V.tr, .int .i64 V.rr], .int .i64 E]) ∧ Below w.heap.size w w')
    (hn : ¬ m.n < 1024 ∨ ¬ 0 ≤ x - m.fr ∨ ¬ x - m.fr ≤ 60000000 ∨ ¬ a - x ≤ 60000000) (w : World) :
    Calls Try.prog 10 #[.agg #[.int .i64 m.id, .int .i64 m.fr, .int .i64 m.to, .int .i64 m.se, .int .i64 m.ac, .int .i64 m.lo, .int .i64 m.pa, .int .i64 m.hi, .int .i64 m.dr, .int .i64 m.n, .int .i64 m.st, .int .i64 m.sr, .int .i64 m.tt, .int .i64 m.tr, .int .i64 m.rr], .int .i64 s, .int .i64 x, .int .i64 a] w fun e w' => e = .returned (.tuple #[.agg #[.int .i64 V.id, .int .i64 V.fr, .int .i64 V.to, .int .i64 V.se, .int .i64 V.ac, .int .i64 V.lo, .int .i64 V.pa, .int .i64 V.hi, .int .i64 V.dr, .int .i64 V.n, .int .i64 V.st, .int .i64 V.sr, .int .i64 V.tt, .int .i64 V.tr, .int .i64 V.rr], .int .i64 E]) ∧ Below w.heap.size w w' := by
  have H := Heap.nil w
  have hn' : ¬ m.n < 1024 ∨ (m.n < 1024 ∧ ¬ 0 ≤ x - m.fr) ∨ (m.n < 1024 ∧ 0 ≤ x - m.fr ∧ ¬ x - m.fr ≤ 60000000) ∨ (m.n < 1024 ∧ 0 ≤ x - m.fr ∧ x - m.fr ≤ 60000000 ∧ ¬ a - x ≤ 60000000) := by omega
  clear hn
  rcases hn' with h | ⟨h, h'⟩ | ⟨h, h', h''⟩ | ⟨h, h', h'', h3⟩
  all_goals
    go_enter Try.func10, Try.ntmps10
    go_wp2_with (first | ((first | ((with_reducible refine at_plain ?_); intro K hK) | go_guarded); first | ((with_reducible refine at_ld ?_); first | (refine wpH_ldA rfl rfl H (by repeat (first | exact Found.here | apply Found.there)) (by first | exact row23 | exact row39 | exact row41 | exact row34) ?_) | (refine wpH_ld1 rfl rfl H (by repeat (first | exact Found.here | apply Found.there)) (by first | exact one3 | exact one4 | exact one24) (by rfl) ?_)) | ((with_reducible refine at_st ?_); first | (refine wpH_stA rfl rfl rfl H (by repeat (first | exact Turned.here | apply Turned.there)) (by first | exact row23 | exact row39 | exact row41 | exact row34) (by rfl) (by kernel_rfl) ?_; clear H; intro wN H) | (refine wpH_st1 (v := .int _ _) rfl rfl rfl rfl rfl H (by first | exact one3 | exact one4 | exact one24) (by repeat (first | exact Found.here | apply Found.there)) (by repeat (first | exact SetAt.z | apply SetAt.s)) (by repeat (first | exact Turned.here | apply Turned.there)) ?_; clear H; intro wN H)) | ((with_reducible refine at_al ?_); refine wpH_al rfl (by first | exact zero23 | exact zero39 | exact zero41 | exact zero34) H ?_; clear H; intro bN wN H) | ((with_reducible refine at_bx ?_); refine wpH_bxA rfl rfl H ?_; clear H; intro bN wN H)) | (go_at_call 19; refine (T1 _).mono ?_; rintro e wN ⟨rfl, hw⟩; replace H := H.call hw; clear hw) | (go_at_call 28; refine (T2 _).mono ?_; rintro e wN ⟨rfl, rfl⟩) | fail)
    refine (T3 _).mono ?_
    rintro e wN ⟨rfl, rfl⟩
    go_wp2_with (first | ((first | ((with_reducible refine at_plain ?_); intro K hK) | go_guarded); first | ((with_reducible refine at_ld ?_); first | (refine wpH_ldA rfl rfl H (by repeat (first | exact Found.here | apply Found.there)) (by first | exact row23 | exact row39 | exact row41 | exact row34) ?_) | (refine wpH_ld1 rfl rfl H (by repeat (first | exact Found.here | apply Found.there)) (by first | exact one3 | exact one4 | exact one24) (by rfl) ?_)) | ((with_reducible refine at_st ?_); first | (refine wpH_stA rfl rfl rfl H (by repeat (first | exact Turned.here | apply Turned.there)) (by first | exact row23 | exact row39 | exact row41 | exact row34) (by rfl) (by kernel_rfl) ?_; clear H; intro wN H) | (refine wpH_st1 (v := .int _ _) rfl rfl rfl rfl rfl H (by first | exact one3 | exact one4 | exact one24) (by repeat (first | exact Found.here | apply Found.there)) (by repeat (first | exact SetAt.z | apply SetAt.s)) (by repeat (first | exact Turned.here | apply Turned.there)) ?_; clear H; intro wN H)) | ((with_reducible refine at_al ?_); refine wpH_al rfl (by first | exact zero23 | exact zero39 | exact zero41 | exact zero34) H ?_; clear H; intro bN wN H) | ((with_reducible refine at_bx ?_); refine wpH_bxA rfl rfl H ?_; clear H; intro bN wN H)) | fail)
    refine (T4 _).mono ?_
    rintro e wN ⟨rfl, rfl⟩
    go_wp2_with (first | ((first | ((with_reducible refine at_plain ?_); intro K hK) | go_guarded); first | ((with_reducible refine at_ld ?_); first | (refine wpH_ldA rfl rfl H (by repeat (first | exact Found.here | apply Found.there)) (by first | exact row23 | exact row39 | exact row41 | exact row34) ?_) | (refine wpH_ld1 rfl rfl H (by repeat (first | exact Found.here | apply Found.there)) (by first | exact one3 | exact one4 | exact one24) (by rfl) ?_)) | ((with_reducible refine at_st ?_); first | (refine wpH_stA rfl rfl rfl H (by repeat (first | exact Turned.here | apply Turned.there)) (by first | exact row23 | exact row39 | exact row41 | exact row34) (by rfl) (by kernel_rfl) ?_; clear H; intro wN H) | (refine wpH_st1 (v := .int _ _) rfl rfl rfl rfl rfl H (by first | exact one3 | exact one4 | exact one24) (by repeat (first | exact Found.here | apply Found.there)) (by repeat (first | exact SetAt.z | apply SetAt.s)) (by repeat (first | exact Turned.here | apply Turned.there)) ?_; clear H; intro wN H)) | ((with_reducible refine at_al ?_); refine wpH_al rfl (by first | exact zero23 | exact zero39 | exact zero41 | exact zero34) H ?_; clear H; intro bN wN H) | ((with_reducible refine at_bx ?_); refine wpH_bxA rfl rfl H ?_; clear H; intro bN wN H)) | (go_at_call 34; refine (T5 _).mono ?_; rintro e wN ⟨rfl, hw⟩; replace H := H.call hw; clear hw) | (exact bodyPost_ret (results_H2 rfl H (by repeat (first | exact Found.here | apply Found.there)) (by first | exact row23 | exact row39 | exact row41 | exact row34) rfl rfl) rfl ⟨rfl, H.grown⟩))
set_option maxHeartbeats 4000000 in
set_option maxRecDepth 100000 in
theorem refAck_samp (m : Mi) (s x a : Int) (T1 : ∀ w, Calls Try.prog 19 #[.agg #[.int .i64 m.id, .int .i64 m.fr, .int .i64 m.to, .int .i64 m.se, .int .i64 m.ac, .int .i64 m.lo, .int .i64 m.pa, .int .i64 m.hi, .int .i64 m.dr, .int .i64 m.n, .int .i64 m.st, .int .i64 m.sr, .int .i64 m.tt, .int .i64 m.tr, .int .i64 m.rr]] w fun e w' => e = .returned (.bool true) ∧ Below w.heap.size w w') (T2 : ∀ w, Calls Try.prog 28 #[.int .i64 s] w fun e w' => e = .returned (.bool true) ∧ w' = w)
    (T3 : ∀ w, Calls Try.prog 33 #[.int .i64 x] w fun e w' => e = .returned (.bool true) ∧ w' = w) (T4 : ∀ w, Calls Try.prog 33 #[.int .i64 a] w fun e w' => e = .returned (.bool true) ∧ w' = w)
    (s0 : 1 ≤ s) (s1 : s ≤ 9000) (x0 : 0 ≤ x) (x1 : x ≤ 1099511627776) (a0 : x ≤ a) (a1 : a ≤ 1099511627776) (f0 : 0 ≤ m.fr) (f1 : m.fr ≤ 1099511627776) (p0 : 0 ≤ m.hi) (p1 : m.hi ≤ 1048576) (q0 : 0 ≤ m.ac) (q1 : m.ac ≤ 9437184000)
    (V : Mi) (E : Int) (T5 : ∀ w, Calls Try.prog 34 #[.agg #[.int .i64 (sampM (hitM m s) (x - m.fr) (a - x)).id, .int .i64 (sampM (hitM m s) (x - m.fr) (a - x)).fr, .int .i64 (sampM (hitM m s) (x - m.fr) (a - x)).to, .int .i64 (sampM (hitM m s) (x - m.fr) (a - x)).se, .int .i64 (sampM (hitM m s) (x - m.fr) (a - x)).ac, .int .i64 (sampM (hitM m s) (x - m.fr) (a - x)).lo, .int .i64 (sampM (hitM m s) (x - m.fr) (a - x)).pa, .int .i64 (sampM (hitM m s) (x - m.fr) (a - x)).hi, .int .i64 (sampM (hitM m s) (x - m.fr) (a - x)).dr, .int .i64 (sampM (hitM m s) (x - m.fr) (a - x)).n, .int .i64 (sampM (hitM m s) (x - m.fr) (a - x)).st, .int .i64 (sampM (hitM m s) (x - m.fr) (a - x)).sr, .int .i64 (sampM (hitM m s) (x - m.fr) (a - x)).tt, .int .i64 (sampM (hitM m s) (x - m.fr) (a - x)).tr, .int .i64 (sampM (hitM m s) (x - m.fr) (a - x)).rr]] w fun e w' => e = .returned (.tuple #[.agg #[.int .i64 V.id, .int .i64 V.fr, .int .i64 V.to, .int .i64 V.se, .int .i64 V.ac, .int .i64 V.lo, .int .i64 V.pa, .int .i64 V.hi, .int .i64 V.dr, .int .i64 V.n, .int .i64 V.st, .int .i64 V.sr, .int .i64 V.tt, .int .i64 V.tr, .int .i64 V.rr], .int .i64 E]) ∧ Below w.heap.size w w')
    (n0 : 0 ≤ m.n) (n1 : m.n < 1024) (h1 : 0 ≤ x - m.fr) (h2 : x - m.fr ≤ 60000000) (h3 : a - x ≤ 60000000)
    (t0 : 0 ≤ m.st) (t1 : m.st ≤ 61440000000) (r0 : 0 ≤ m.sr) (r1 : m.sr ≤ 61440000000) (u0 : 0 ≤ m.tt) (u1 : m.tt ≤ 3686400000000000000) (v0 : 0 ≤ m.tr) (v1 : m.tr ≤ 3686400000000000000) (z0 : 0 ≤ m.rr) (z1 : m.rr ≤ 3686400000000000000) (w : World) :
    Calls Try.prog 10 #[.agg #[.int .i64 m.id, .int .i64 m.fr, .int .i64 m.to, .int .i64 m.se, .int .i64 m.ac, .int .i64 m.lo, .int .i64 m.pa, .int .i64 m.hi, .int .i64 m.dr, .int .i64 m.n, .int .i64 m.st, .int .i64 m.sr, .int .i64 m.tt, .int .i64 m.tr, .int .i64 m.rr], .int .i64 s, .int .i64 x, .int .i64 a] w fun e w' => e = .returned (.tuple #[.agg #[.int .i64 V.id, .int .i64 V.fr, .int .i64 V.to, .int .i64 V.se, .int .i64 V.ac, .int .i64 V.lo, .int .i64 V.pa, .int .i64 V.hi, .int .i64 V.dr, .int .i64 V.n, .int .i64 V.st, .int .i64 V.sr, .int .i64 V.tt, .int .i64 V.tr, .int .i64 V.rr], .int .i64 E]) ∧ Below w.heap.size w w' := by
  have H := Heap.nil w
  have h4 : 0 ≤ a - x := by omega
  have pp : 0 ≤ (x - m.fr) * (x - m.fr) ∧ (x - m.fr) * (x - m.fr) ≤ 60000000 * 60000000 := ⟨Int.mul_nonneg h1 h1, Int.mul_le_mul h2 h2 h1 (by omega)⟩
  have pq : 0 ≤ (x - m.fr) * (a - x) ∧ (x - m.fr) * (a - x) ≤ 60000000 * 60000000 := ⟨Int.mul_nonneg h1 h4, Int.mul_le_mul h2 h3 h4 (by omega)⟩
  have qq : 0 ≤ (a - x) * (a - x) ∧ (a - x) * (a - x) ≤ 60000000 * 60000000 := ⟨Int.mul_nonneg h4 h4, Int.mul_le_mul h3 h3 h4 (by omega)⟩
  obtain ⟨pp0, pp1⟩ := pp
  obtain ⟨pq0, pq1⟩ := pq
  obtain ⟨qq0, qq1⟩ := qq
  rw [show (60000000 : Int) * 60000000 = 3600000000000000 from rfl] at pp1 pq1 qq1
  go_enter Try.func10, Try.ntmps10
  go_wp2_with (first | ((first | ((with_reducible refine at_plain ?_); intro K hK) | go_guarded); first | ((with_reducible refine at_ld ?_); first | (refine wpH_ldA rfl rfl H (by repeat (first | exact Found.here | apply Found.there)) (by first | exact row23 | exact row39 | exact row41 | exact row34) ?_) | (refine wpH_ld1 rfl rfl H (by repeat (first | exact Found.here | apply Found.there)) (by first | exact one3 | exact one4 | exact one24) (by rfl) ?_)) | ((with_reducible refine at_st ?_); first | (refine wpH_stA rfl rfl rfl H (by repeat (first | exact Turned.here | apply Turned.there)) (by first | exact row23 | exact row39 | exact row41 | exact row34) (by rfl) (by kernel_rfl) ?_; clear H; intro wN H) | (refine wpH_st1 (v := .int _ _) rfl rfl rfl rfl rfl H (by first | exact one3 | exact one4 | exact one24) (by repeat (first | exact Found.here | apply Found.there)) (by repeat (first | exact SetAt.z | apply SetAt.s)) (by repeat (first | exact Turned.here | apply Turned.there)) ?_; clear H; intro wN H)) | ((with_reducible refine at_al ?_); refine wpH_al rfl (by first | exact zero23 | exact zero39 | exact zero41 | exact zero34) H ?_; clear H; intro bN wN H) | ((with_reducible refine at_bx ?_); refine wpH_bxA rfl rfl H ?_; clear H; intro bN wN H)) | (go_at_call 19; refine (T1 _).mono ?_; rintro e wN ⟨rfl, hw⟩; replace H := H.call hw; clear hw) | (go_at_call 28; refine (T2 _).mono ?_; rintro e wN ⟨rfl, rfl⟩) | fail)
  refine (T3 _).mono ?_
  rintro e wN ⟨rfl, rfl⟩
  go_wp2_with (first | ((first | ((with_reducible refine at_plain ?_); intro K hK) | go_guarded); first | ((with_reducible refine at_ld ?_); first | (refine wpH_ldA rfl rfl H (by repeat (first | exact Found.here | apply Found.there)) (by first | exact row23 | exact row39 | exact row41 | exact row34) ?_) | (refine wpH_ld1 rfl rfl H (by repeat (first | exact Found.here | apply Found.there)) (by first | exact one3 | exact one4 | exact one24) (by rfl) ?_)) | ((with_reducible refine at_st ?_); first | (refine wpH_stA rfl rfl rfl H (by repeat (first | exact Turned.here | apply Turned.there)) (by first | exact row23 | exact row39 | exact row41 | exact row34) (by rfl) (by kernel_rfl) ?_; clear H; intro wN H) | (refine wpH_st1 (v := .int _ _) rfl rfl rfl rfl rfl H (by first | exact one3 | exact one4 | exact one24) (by repeat (first | exact Found.here | apply Found.there)) (by repeat (first | exact SetAt.z | apply SetAt.s)) (by repeat (first | exact Turned.here | apply Turned.there)) ?_; clear H; intro wN H)) | ((with_reducible refine at_al ?_); refine wpH_al rfl (by first | exact zero23 | exact zero39 | exact zero41 | exact zero34) H ?_; clear H; intro bN wN H) | ((with_reducible refine at_bx ?_); refine wpH_bxA rfl rfl H ?_; clear H; intro bN wN H)) | fail)
  refine (T4 _).mono ?_
  rintro e wN ⟨rfl, rfl⟩
  go_wp2_with (first | ((first | ((with_reducible refine at_plain ?_); intro K hK) | go_guarded); first | ((with_reducible refine at_ld ?_); first | (refine wpH_ldA rfl rfl H (by repeat (first | exact Found.here | apply Found.there)) (by first | exact row23 | exact row39 | exact row41 | exact row34) ?_) | (refine wpH_ld1 rfl rfl H (by repeat (first | exact Found.here | apply Found.there)) (by first | exact one3 | exact one4 | exact one24) (by rfl) ?_)) | ((with_reducible refine at_st ?_); first | (refine wpH_stA rfl rfl rfl H (by repeat (first | exact Turned.here | apply Turned.there)) (by first | exact row23 | exact row39 | exact row41 | exact row34) (by rfl) (by kernel_rfl) ?_; clear H; intro wN H) | (refine wpH_st1 (v := .int _ _) rfl rfl rfl rfl rfl H (by first | exact one3 | exact one4 | exact one24) (by repeat (first | exact Found.here | apply Found.there)) (by repeat (first | exact SetAt.z | apply SetAt.s)) (by repeat (first | exact Turned.here | apply Turned.there)) ?_; clear H; intro wN H)) | ((with_reducible refine at_al ?_); refine wpH_al rfl (by first | exact zero23 | exact zero39 | exact zero41 | exact zero34) H ?_; clear H; intro bN wN H) | ((with_reducible refine at_bx ?_); refine wpH_bxA rfl rfl H ?_; clear H; intro bN wN H)) | (go_at_call 34; refine (T5 _).mono ?_; rintro e wN ⟨rfl, hw⟩; replace H := H.call hw; clear hw) | (exact bodyPost_ret (results_H2 rfl H (by repeat (first | exact Found.here | apply Found.there)) (by first | exact row23 | exact row39 | exact row41 | exact row34) rfl rfl) rfl ⟨rfl, H.grown⟩))
theorem refAck_any (m : Mi) (s x a : Int) (w : World) :
    Calls Try.prog 10 #[.agg #[.int .i64 m.id, .int .i64 m.fr, .int .i64 m.to, .int .i64 m.se, .int .i64 m.ac, .int .i64 m.lo, .int .i64 m.pa, .int .i64 m.hi, .int .i64 m.dr, .int .i64 m.n, .int .i64 m.st, .int .i64 m.sr, .int .i64 m.tt, .int .i64 m.tr, .int .i64 m.rr], .int .i64 s, .int .i64 x, .int .i64 a] w fun e w' => e = .returned (.tuple #[.agg #[.int .i64 (ackV m s x a).id, .int .i64 (ackV m s x a).fr, .int .i64 (ackV m s x a).to, .int .i64 (ackV m s x a).se, .int .i64 (ackV m s x a).ac, .int .i64 (ackV m s x a).lo, .int .i64 (ackV m s x a).pa, .int .i64 (ackV m s x a).hi, .int .i64 (ackV m s x a).dr, .int .i64 (ackV m s x a).n, .int .i64 (ackV m s x a).st, .int .i64 (ackV m s x a).sr, .int .i64 (ackV m s x a).tt, .int .i64 (ackV m s x a).tr, .int .i64 (ackV m s x a).rr], .int .i64 (ackE m s x a)]) ∧ Below w.heap.size w w' := by
  by_cases h : rightB m = true ∧ win s 1 9000 = true ∧ win x 0 1099511627776 = true ∧ win a x 1099511627776 = true
  rotate_left
  · exact refAck_no m s x a w h
  obtain ⟨h1, h2, h3, h4⟩ := h
  have T1 := fun w => refIs_any m w
  have T2 := fun w => refSize_any s w
  have T3 := fun w => refTime_any x w
  have T4 := fun w => refTime_any a w
  have R := (right_iff m).1 h1
  obtain ⟨s0, s1⟩ := win_iff.1 h2
  obtain ⟨x0, x1⟩ := win_iff.1 h3
  obtain ⟨a0, a1⟩ := win_iff.1 h4
  rw [h1] at T1
  rw [h2] at T2
  rw [h3] at T3
  rw [win_iff.2 ⟨by omega, a1⟩] at T4
  have e1 : ackE m s x a = rightE (rawM m s x a) := by simp [ackE, rightE, h1, h2, h3, h4]
  have e2 : ackV m s x a = rightV (rawM m s x a) := by
    cases h5 : rightB (rawM m s x a) <;> simp [ackV, e1, rightE, rightV, h5]
  have T5 := fun w => refRight_any (rawM m s x a) w
  rw [e1, e2]
  generalize rightE (rawM m s x a) = E at *
  generalize rightV (rawM m s x a) = V at *
  have b1 := R.n0
  have b2 := R.n1
  have p1 : m.hi ≤ 1048576 := by have := R.h1; have := R.p1; omega
  have q0 : 0 ≤ m.ac := by have := R.a0; have := R.h0; omega
  have q1 : m.ac ≤ 9437184000 := by have := R.a1; omega
  cases h : sampB m x a
  · have e : rawM m s x a = hitM m s := by simp [rawM, h]
    rw [e] at T5
    refine refAck_hit m s x a T1 T2 T3 T4 s0 s1 x0 x1 a0 a1 R.f0 R.f1 R.h0 p1 q0 q1 V E T5 ?_ w
    simp only [sampB, Bool.and_eq_false_iff, Bool.not_eq_false', decide_eq_true_eq] at h
    rcases h with h | h | h
    · left; omega
    · have : ¬ (0 ≤ x - m.fr ∧ x - m.fr ≤ 60000000) := fun k => by rw [win_iff.2 k] at h; cases h
      omega
    · have : ¬ (0 ≤ a - x ∧ a - x ≤ 60000000) := fun k => by rw [win_iff.2 k] at h; cases h
      omega
  · have e : rawM m s x a = sampM (hitM m s) (x - m.fr) (a - x) := by simp [rawM, h]
    rw [e] at T5
    simp only [sampB, Bool.and_eq_true, Bool.not_eq_true', decide_eq_false_iff_not, win_iff] at h
    refine refAck_samp m s x a T1 T2 T3 T4 s0 s1 x0 x1 a0 a1 R.f0 R.f1 R.h0 p1 q0 q1 V E T5 R.n0 (by omega) h.2.1.1 h.2.1.2 h.2.2.2 R.st0 ?_ R.sr0 ?_ R.tt0 ?_ R.tr0 ?_ R.rr0 ?_ w
    · have := R.st1; omega
    · have := R.sr1; omega
    · have := R.tt1; omega
    · have := R.tr1; omega
    · have := R.rr1; omega
end Go.Proofs.Ytjhkbaadlicelaa
