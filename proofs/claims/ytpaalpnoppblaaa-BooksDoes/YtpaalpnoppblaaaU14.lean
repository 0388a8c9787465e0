/-
  The document's look at an account. No conditions but the numbers' own bounds.
-/
import Derived.Test.YtpaalpnoppblaaaU13
namespace Go.Proofs.Ytpaalpnoppblaaa
open Go.RowKit
set_option linter.unusedVariables false
set_option maxHeartbeats 4000000 in
set_option maxRecDepth 100000 in
theorem isa_no (m : Mi) (h : ¬ m.id < 0) (h2 : win m.fr 0 1099511627776 = true) (ht : (m.to != -1) = false)  (k : m.pa < 0 ∨ 1048576 < m.pa ∨ m.hi < 0 ∨ m.pa < m.hi ∨ m.dr < 0 ∨ m.pa - m.hi < m.dr) (w : World) :
    Calls Try.prog 74 #[.agg #[.int .i64 m.id, .int .i64 m.fr, .int .i64 m.to, .int .i64 m.se, .int .i64 m.ac, .int .i64 m.lo, .int .i64 m.pa, .int .i64 m.hi, .int .i64 m.dr, .int .i64 m.n, .int .i64 m.st, .int .i64 m.sr, .int .i64 m.tt, .int .i64 m.tr, .int .i64 m.rr]] w fun e w' => e = .returned (.bool false) ∧ Below w.heap.size w w' := by
  have T1 := fun w => refTime_any m.fr w
  rw [h2] at T1
  clear h2
  have H := Heap.nil w
  go_enter Try.func74, Try.ntmps74
  go_wp2_with (first | ((with_reducible refine at_plain ?_); intro K hK; (with_reducible refine at_bx ?_); refine wpH_bxA rfl rfl H ?_; clear H; intro b0 w0 H; have HC := (H.found Found.here).2; have c0 := HC.cell (i := 0) rfl; have c1 := HC.cell (i := 1) rfl; have c2 := HC.cell (i := 2) rfl; have c3 := HC.cell (i := 3) rfl; have c4 := HC.cell (i := 4) rfl; have c5 := HC.cell (i := 5) rfl; have c6 := HC.cell (i := 6) rfl; have c7 := HC.cell (i := 7) rfl; have c8 := HC.cell (i := 8) rfl; have c9 := HC.cell (i := 9) rfl; have c10 := HC.cell (i := 10) rfl; have c11 := HC.cell (i := 11) rfl; have c12 := HC.cell (i := 12) rfl; have c13 := HC.cell (i := 13) rfl; have c14 := HC.cell (i := 14) rfl; clear HC) | fail)
  refine (T1 _).mono ?_
  rintro e wN ⟨rfl, rfl⟩
  go_wp2_with (go_at_call 92; exfalso; omega)
  all_goals go_ret
  all_goals exact ⟨rfl, H.grown⟩
set_option maxHeartbeats 4000000 in
set_option maxRecDepth 100000 in
theorem isa_yes (m : Mi) (h : ¬ m.id < 0) (h2 : win m.fr 0 1099511627776 = true) (ht : (m.to != -1) = false) (k0 : ¬ m.pa < 0) (k1 : ¬ 1048576 < m.pa) (k2 : ¬ m.hi < 0) (k3 : ¬ m.pa < m.hi) (k4 : ¬ m.dr < 0) (k5 : ¬ m.pa - m.hi < m.dr)  (z0 z1 z2 q r : Bool) (e0 : win m.se m.pa (m.pa * 9000) = z0) (e1 : win m.ac m.hi (m.hi * 9000) = z1) (e2 : win m.lo m.dr (m.dr * 9000) = z2) (eq : sumsB m = q) (E : Hid (r = true ↔ (z0 = true ∧ z1 = true ∧ z2 = true) ∧ (m.ac + m.lo ≤ m.se ∧ (m.ac + m.lo = m.se ↔ m.hi + m.dr = m.pa) ∧ 0 ≤ m.n ∧ m.n ≤ 1024 ∧ m.n ≤ m.hi) ∧ q = true)) (w : World) :
    Calls Try.prog 74 #[.agg #[.int .i64 m.id, .int .i64 m.fr, .int .i64 m.to, .int .i64 m.se, .int .i64 m.ac, .int .i64 m.lo, .int .i64 m.pa, .int .i64 m.hi, .int .i64 m.dr, .int .i64 m.n, .int .i64 m.st, .int .i64 m.sr, .int .i64 m.tt, .int .i64 m.tr, .int .i64 m.rr]] w fun e w' => e = .returned (.bool r) ∧ Below w.heap.size w w' := by
  have T1 := fun w => refTime_any m.fr w
  rw [h2] at T1
  clear h2
  have S0 := fun w => refSized_any m.se m.pa (by omega) (by omega) w
  rw [e0] at S0
  have S1 := fun w => refSized_any m.ac m.hi (by omega) (by omega) w
  rw [e1] at S1
  have S2 := fun w => refSized_any m.lo m.dr (by omega) (by omega) w
  rw [e2] at S2
  have y0 : z0 = true → m.se ≤ m.pa * 9000 ∧ m.pa ≤ m.se := fun h => by have := win_iff.1 (e0.trans h); omega
  have y1 : z1 = true → m.ac ≤ m.hi * 9000 ∧ m.hi ≤ m.ac := fun h => by have := win_iff.1 (e1.trans h); omega
  have y2 : z2 = true → m.lo ≤ m.dr * 9000 ∧ m.dr ≤ m.lo := fun h => by have := win_iff.1 (e2.trans h); omega
  have T6 := fun n0 n1 w => refSums_any m n0 n1 w
  rw [eq] at T6
  clear e0 e1 e2 eq
  cases z0
  · have e : Hid (r = false) := by show r = false; rw [Bool.eq_false_iff]; intro hr; have := (E.out.1 hr).1; simp at this
    clear E T6 y0 y1 y2
    have H := Heap.nil w
    go_enter Try.func74, Try.ntmps74
    go_wp2_with (first | ((with_reducible refine at_plain ?_); intro K hK; (with_reducible refine at_bx ?_); refine wpH_bxA rfl rfl H ?_; clear H; intro b0 w0 H; have HC := (H.found Found.here).2; have c0 := HC.cell (i := 0) rfl; have c1 := HC.cell (i := 1) rfl; have c2 := HC.cell (i := 2) rfl; have c3 := HC.cell (i := 3) rfl; have c4 := HC.cell (i := 4) rfl; have c5 := HC.cell (i := 5) rfl; have c6 := HC.cell (i := 6) rfl; have c7 := HC.cell (i := 7) rfl; have c8 := HC.cell (i := 8) rfl; have c9 := HC.cell (i := 9) rfl; have c10 := HC.cell (i := 10) rfl; have c11 := HC.cell (i := 11) rfl; have c12 := HC.cell (i := 12) rfl; have c13 := HC.cell (i := 13) rfl; have c14 := HC.cell (i := 14) rfl; clear HC) | fail)
    refine (T1 _).mono ?_
    rintro e wN ⟨rfl, rfl⟩
    go_wp2_with (first | ((with_reducible refine at_plain ?_); intro K hK; (with_reducible refine at_bx ?_); refine wpH_bxA rfl rfl H ?_; clear H; intro b0 w0 H; have HC := (H.found Found.here).2; have c0 := HC.cell (i := 0) rfl; have c1 := HC.cell (i := 1) rfl; have c2 := HC.cell (i := 2) rfl; have c3 := HC.cell (i := 3) rfl; have c4 := HC.cell (i := 4) rfl; have c5 := HC.cell (i := 5) rfl; have c6 := HC.cell (i := 6) rfl; have c7 := HC.cell (i := 7) rfl; have c8 := HC.cell (i := 8) rfl; have c9 := HC.cell (i := 9) rfl; have c10 := HC.cell (i := 10) rfl; have c11 := HC.cell (i := 11) rfl; have c12 := HC.cell (i := 12) rfl; have c13 := HC.cell (i := 13) rfl; have c14 := HC.cell (i := 14) rfl; clear HC) | fail)
    refine (S0 _).mono ?_
    rintro e wN ⟨rfl, rfl⟩
    go_wp2
    go_ret
    exact ⟨ret_bool (by rw [e.out]), H.grown⟩
  cases z1
  · have e : Hid (r = false) := by show r = false; rw [Bool.eq_false_iff]; intro hr; have := (E.out.1 hr).1; simp at this
    clear E T6 y0 y1 y2
    have H := Heap.nil w
    go_enter Try.func74, Try.ntmps74
    go_wp2_with (first | ((with_reducible refine at_plain ?_); intro K hK; (with_reducible refine at_bx ?_); refine wpH_bxA rfl rfl H ?_; clear H; intro b0 w0 H; have HC := (H.found Found.here).2; have c0 := HC.cell (i := 0) rfl; have c1 := HC.cell (i := 1) rfl; have c2 := HC.cell (i := 2) rfl; have c3 := HC.cell (i := 3) rfl; have c4 := HC.cell (i := 4) rfl; have c5 := HC.cell (i := 5) rfl; have c6 := HC.cell (i := 6) rfl; have c7 := HC.cell (i := 7) rfl; have c8 := HC.cell (i := 8) rfl; have c9 := HC.cell (i := 9) rfl; have c10 := HC.cell (i := 10) rfl; have c11 := HC.cell (i := 11) rfl; have c12 := HC.cell (i := 12) rfl; have c13 := HC.cell (i := 13) rfl; have c14 := HC.cell (i := 14) rfl; clear HC) | fail)
    refine (T1 _).mono ?_
    rintro e wN ⟨rfl, rfl⟩
    go_wp2_with (first | ((with_reducible refine at_plain ?_); intro K hK; (with_reducible refine at_bx ?_); refine wpH_bxA rfl rfl H ?_; clear H; intro b0 w0 H; have HC := (H.found Found.here).2; have c0 := HC.cell (i := 0) rfl; have c1 := HC.cell (i := 1) rfl; have c2 := HC.cell (i := 2) rfl; have c3 := HC.cell (i := 3) rfl; have c4 := HC.cell (i := 4) rfl; have c5 := HC.cell (i := 5) rfl; have c6 := HC.cell (i := 6) rfl; have c7 := HC.cell (i := 7) rfl; have c8 := HC.cell (i := 8) rfl; have c9 := HC.cell (i := 9) rfl; have c10 := HC.cell (i := 10) rfl; have c11 := HC.cell (i := 11) rfl; have c12 := HC.cell (i := 12) rfl; have c13 := HC.cell (i := 13) rfl; have c14 := HC.cell (i := 14) rfl; clear HC) | fail)
    refine (S0 _).mono ?_
    rintro e wN ⟨rfl, rfl⟩
    go_wp2_with (first | ((with_reducible refine at_plain ?_); intro K hK; (with_reducible refine at_bx ?_); refine wpH_bxA rfl rfl H ?_; clear H; intro b0 w0 H; have HC := (H.found Found.here).2; have c0 := HC.cell (i := 0) rfl; have c1 := HC.cell (i := 1) rfl; have c2 := HC.cell (i := 2) rfl; have c3 := HC.cell (i := 3) rfl; have c4 := HC.cell (i := 4) rfl; have c5 := HC.cell (i := 5) rfl; have c6 := HC.cell (i := 6) rfl; have c7 := HC.cell (i := 7) rfl; have c8 := HC.cell (i := 8) rfl; have c9 := HC.cell (i := 9) rfl; have c10 := HC.cell (i := 10) rfl; have c11 := HC.cell (i := 11) rfl; have c12 := HC.cell (i := 12) rfl; have c13 := HC.cell (i := 13) rfl; have c14 := HC.cell (i := 14) rfl; clear HC) | fail)
    refine (S1 _).mono ?_
    rintro e wN ⟨rfl, rfl⟩
    go_wp2
    go_ret
    exact ⟨ret_bool (by rw [e.out]), H.grown⟩
  cases z2
  · have e : Hid (r = false) := by show r = false; rw [Bool.eq_false_iff]; intro hr; have := (E.out.1 hr).1; simp at this
    clear E T6 y0 y1 y2
    have H := Heap.nil w
    go_enter Try.func74, Try.ntmps74
    go_wp2_with (first | ((with_reducible refine at_plain ?_); intro K hK; (with_reducible refine at_bx ?_); refine wpH_bxA rfl rfl H ?_; clear H; intro b0 w0 H; have HC := (H.found Found.here).2; have c0 := HC.cell (i := 0) rfl; have c1 := HC.cell (i := 1) rfl; have c2 := HC.cell (i := 2) rfl; have c3 := HC.cell (i := 3) rfl; have c4 := HC.cell (i := 4) rfl; have c5 := HC.cell (i := 5) rfl; have c6 := HC.cell (i := 6) rfl; have c7 := HC.cell (i := 7) rfl; have c8 := HC.cell (i := 8) rfl; have c9 := HC.cell (i := 9) rfl; have c10 := HC.cell (i := 10) rfl; have c11 := HC.cell (i := 11) rfl; have c12 := HC.cell (i := 12) rfl; have c13 := HC.cell (i := 13) rfl; have c14 := HC.cell (i := 14) rfl; clear HC) | fail)
    refine (T1 _).mono ?_
    rintro e wN ⟨rfl, rfl⟩
    go_wp2_with (first | ((with_reducible refine at_plain ?_); intro K hK; (with_reducible refine at_bx ?_); refine wpH_bxA rfl rfl H ?_; clear H; intro b0 w0 H; have HC := (H.found Found.here).2; have c0 := HC.cell (i := 0) rfl; have c1 := HC.cell (i := 1) rfl; have c2 := HC.cell (i := 2) rfl; have c3 := HC.cell (i := 3) rfl; have c4 := HC.cell (i := 4) rfl; have c5 := HC.cell (i := 5) rfl; have c6 := HC.cell (i := 6) rfl; have c7 := HC.cell (i := 7) rfl; have c8 := HC.cell (i := 8) rfl; have c9 := HC.cell (i := 9) rfl; have c10 := HC.cell (i := 10) rfl; have c11 := HC.cell (i := 11) rfl; have c12 := HC.cell (i := 12) rfl; have c13 := HC.cell (i := 13) rfl; have c14 := HC.cell (i := 14) rfl; clear HC) | fail)
    refine (S0 _).mono ?_
    rintro e wN ⟨rfl, rfl⟩
    go_wp2_with (first | ((with_reducible refine at_plain ?_); intro K hK; (with_reducible refine at_bx ?_); refine wpH_bxA rfl rfl H ?_; clear H; intro b0 w0 H; have HC := (H.found Found.here).2; have c0 := HC.cell (i := 0) rfl; have c1 := HC.cell (i := 1) rfl; have c2 := HC.cell (i := 2) rfl; have c3 := HC.cell (i := 3) rfl; have c4 := HC.cell (i := 4) rfl; have c5 := HC.cell (i := 5) rfl; have c6 := HC.cell (i := 6) rfl; have c7 := HC.cell (i := 7) rfl; have c8 := HC.cell (i := 8) rfl; have c9 := HC.cell (i := 9) rfl; have c10 := HC.cell (i := 10) rfl; have c11 := HC.cell (i := 11) rfl; have c12 := HC.cell (i := 12) rfl; have c13 := HC.cell (i := 13) rfl; have c14 := HC.cell (i := 14) rfl; clear HC) | fail)
    refine (S1 _).mono ?_
    rintro e wN ⟨rfl, rfl⟩
    go_wp2_with (first | ((with_reducible refine at_plain ?_); intro K hK; (with_reducible refine at_bx ?_); refine wpH_bxA rfl rfl H ?_; clear H; intro b0 w0 H; have HC := (H.found Found.here).2; have c0 := HC.cell (i := 0) rfl; have c1 := HC.cell (i := 1) rfl; have c2 := HC.cell (i := 2) rfl; have c3 := HC.cell (i := 3) rfl; have c4 := HC.cell (i := 4) rfl; have c5 := HC.cell (i := 5) rfl; have c6 := HC.cell (i := 6) rfl; have c7 := HC.cell (i := 7) rfl; have c8 := HC.cell (i := 8) rfl; have c9 := HC.cell (i := 9) rfl; have c10 := HC.cell (i := 10) rfl; have c11 := HC.cell (i := 11) rfl; have c12 := HC.cell (i := 12) rfl; have c13 := HC.cell (i := 13) rfl; have c14 := HC.cell (i := 14) rfl; clear HC) | fail)
    refine (S2 _).mono ?_
    rintro e wN ⟨rfl, rfl⟩
    go_wp2
    go_ret
    exact ⟨ret_bool (by rw [e.out]), H.grown⟩
  obtain ⟨x0, x0'⟩ := y0 rfl
  obtain ⟨x1, x1'⟩ := y1 rfl
  obtain ⟨x2, x2'⟩ := y2 rfl
  clear y0 y1 y2
  have H := Heap.nil w
  go_enter Try.func74, Try.ntmps74
  go_wp2_with (first | ((with_reducible refine at_plain ?_); intro K hK; (with_reducible refine at_bx ?_); refine wpH_bxA rfl rfl H ?_; clear H; intro b0 w0 H; have HC := (H.found Found.here).2; have c0 := HC.cell (i := 0) rfl; have c1 := HC.cell (i := 1) rfl; have c2 := HC.cell (i := 2) rfl; have c3 := HC.cell (i := 3) rfl; have c4 := HC.cell (i := 4) rfl; have c5 := HC.cell (i := 5) rfl; have c6 := HC.cell (i := 6) rfl; have c7 := HC.cell (i := 7) rfl; have c8 := HC.cell (i := 8) rfl; have c9 := HC.cell (i := 9) rfl; have c10 := HC.cell (i := 10) rfl; have c11 := HC.cell (i := 11) rfl; have c12 := HC.cell (i := 12) rfl; have c13 := HC.cell (i := 13) rfl; have c14 := HC.cell (i := 14) rfl; clear HC) | fail)
  refine (T1 _).mono ?_
  rintro e wN ⟨rfl, rfl⟩
  go_wp2_with (first | ((with_reducible refine at_plain ?_); intro K hK; (with_reducible refine at_bx ?_); refine wpH_bxA rfl rfl H ?_; clear H; intro b0 w0 H; have HC := (H.found Found.here).2; have c0 := HC.cell (i := 0) rfl; have c1 := HC.cell (i := 1) rfl; have c2 := HC.cell (i := 2) rfl; have c3 := HC.cell (i := 3) rfl; have c4 := HC.cell (i := 4) rfl; have c5 := HC.cell (i := 5) rfl; have c6 := HC.cell (i := 6) rfl; have c7 := HC.cell (i := 7) rfl; have c8 := HC.cell (i := 8) rfl; have c9 := HC.cell (i := 9) rfl; have c10 := HC.cell (i := 10) rfl; have c11 := HC.cell (i := 11) rfl; have c12 := HC.cell (i := 12) rfl; have c13 := HC.cell (i := 13) rfl; have c14 := HC.cell (i := 14) rfl; clear HC) | fail)
  refine (S0 _).mono ?_
  rintro e wN ⟨rfl, rfl⟩
  go_wp2_with (first | ((with_reducible refine at_plain ?_); intro K hK; (with_reducible refine at_bx ?_); refine wpH_bxA rfl rfl H ?_; clear H; intro b0 w0 H; have HC := (H.found Found.here).2; have c0 := HC.cell (i := 0) rfl; have c1 := HC.cell (i := 1) rfl; have c2 := HC.cell (i := 2) rfl; have c3 := HC.cell (i := 3) rfl; have c4 := HC.cell (i := 4) rfl; have c5 := HC.cell (i := 5) rfl; have c6 := HC.cell (i := 6) rfl; have c7 := HC.cell (i := 7) rfl; have c8 := HC.cell (i := 8) rfl; have c9 := HC.cell (i := 9) rfl; have c10 := HC.cell (i := 10) rfl; have c11 := HC.cell (i := 11) rfl; have c12 := HC.cell (i := 12) rfl; have c13 := HC.cell (i := 13) rfl; have c14 := HC.cell (i := 14) rfl; clear HC) | fail)
  refine (S1 _).mono ?_
  rintro e wN ⟨rfl, rfl⟩
  go_wp2_with (first | ((with_reducible refine at_plain ?_); intro K hK; (with_reducible refine at_bx ?_); refine wpH_bxA rfl rfl H ?_; clear H; intro b0 w0 H; have HC := (H.found Found.here).2; have c0 := HC.cell (i := 0) rfl; have c1 := HC.cell (i := 1) rfl; have c2 := HC.cell (i := 2) rfl; have c3 := HC.cell (i := 3) rfl; have c4 := HC.cell (i := 4) rfl; have c5 := HC.cell (i := 5) rfl; have c6 := HC.cell (i := 6) rfl; have c7 := HC.cell (i := 7) rfl; have c8 := HC.cell (i := 8) rfl; have c9 := HC.cell (i := 9) rfl; have c10 := HC.cell (i := 10) rfl; have c11 := HC.cell (i := 11) rfl; have c12 := HC.cell (i := 12) rfl; have c13 := HC.cell (i := 13) rfl; have c14 := HC.cell (i := 14) rfl; clear HC) | fail)
  refine (S2 _).mono ?_
  rintro e wN ⟨rfl, rfl⟩
  clear T1 S0 S1 S2
  go_wp2_with (first | ((first | ((with_reducible refine at_plain ?_); intro K hK) | go_guarded); first | ((with_reducible refine at_ld ?_); first | (refine wpH_ldA rfl rfl H (by repeat (first | exact Found.here | apply Found.there)) (by first | exact row63 | exact row89 | exact row109 | exact row57) ?_) | (refine wpH_ld1 rfl rfl H (by repeat (first | exact Found.here | apply Found.there)) (by first | exact one3 | exact one4 | exact one26 | exact one22 | exact one91) (by rfl) ?_)) | ((with_reducible refine at_st ?_); first | (refine wpH_stA rfl rfl rfl H (by repeat (first | exact Turned.here | apply Turned.there)) (by first | exact row63 | exact row89 | exact row109 | exact row57) (by rfl) (by kernel_rfl) ?_; clear H; intro wN H) | (refine wpH_st1 (v := .int _ _) rfl rfl rfl rfl rfl H (by first | exact one3 | exact one4 | exact one26 | exact one22 | exact one91) (by repeat (first | exact Found.here | apply Found.there)) (by repeat (first | exact SetAt.z | apply SetAt.s)) (by repeat (first | exact Turned.here | apply Turned.there)) ?_; clear H; intro wN H)) | ((with_reducible refine at_al ?_); refine wpH_al rfl (by first | exact zero63 | exact zero89 | exact zero109 | exact zero57) H ?_; clear H; intro bN wN H) | ((with_reducible refine at_bx ?_); refine wpH_bxA rfl rfl H ?_; clear H; intro bN wN H)) | (go_at_call 93; refine (T6 (by omega) (by omega) _).mono ?_; rintro e wN ⟨rfl, hw⟩; replace H := H.call hw; clear hw) | fail)
  all_goals go_ret
  all_goals refine ⟨ret_bool (bool_of ?_), H.grown⟩
  all_goals rw [E.out]
  all_goals clear E T6
  all_goals first
    | (simp only [Bool.false_eq_true, false_iff]; rintro ⟨-, ⟨l1, l2, l3, l4, l5⟩, -⟩; first | exact neq_no ‹_› l2 | omega)
    | exact ⟨fun hq => ⟨by simp, ⟨by omega, neq_yes (by assumption), by omega, by omega, by omega⟩, hq⟩, fun h => h.2.2⟩
end Go.Proofs.Ytpaalpnoppblaaa
