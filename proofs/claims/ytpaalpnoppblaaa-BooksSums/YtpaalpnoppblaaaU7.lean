/-
  Drafts: what begins one, and each step on it. Conditions: the numbers' bounds alone.
-/
import Derived.Test.YtpaalpnoppblaaaU6
namespace Go.Proofs.Ytpaalpnoppblaaa
open Go.RowKit
set_option linter.unusedVariables false
set_option maxHeartbeats 1000000 in
set_option maxRecDepth 100000 in
theorem draftOf_any (m : Mi) (w : World) :
    Calls Try.prog 78 #[.agg #[.int .i64 m.id, .int .i64 m.fr, .int .i64 m.to, .int .i64 m.se, .int .i64 m.ac, .int .i64 m.lo, .int .i64 m.pa, .int .i64 m.hi, .int .i64 m.dr, .int .i64 m.n, .int .i64 m.st, .int .i64 m.sr, .int .i64 m.tt, .int .i64 m.tr, .int .i64 m.rr]] w fun e w' => e = .returned (.agg #[.int .i64 m.id, .int .i64 m.fr, .int .i64 m.to, .int .i64 m.se, .int .i64 m.ac, .int .i64 m.lo, .int .i64 m.pa, .int .i64 m.hi, .int .i64 m.dr, .int .i64 m.n, .int .i64 m.st, .int .i64 m.sr, .int .i64 m.tt, .int .i64 m.tr, .int .i64 m.rr]) ∧ Below w.heap.size w w' := by
  have H := Heap.nil w
  go_enter Try.func78, Try.ntmps78
  go_wp2_with (first | ((first | ((with_reducible refine at_plain ?_); intro K hK) | go_guarded); first | ((with_reducible refine at_ld ?_); first | (refine wpH_ldA rfl rfl H (by repeat (first | exact Found.here | apply Found.there)) (by first | exact row63 | exact row89 | exact row109 | exact row57) ?_) | (refine wpH_ld1 rfl rfl H (by repeat (first | exact Found.here | apply Found.there)) (by first | exact one3 | exact one4 | exact one26 | exact one22 | exact one91) (by rfl) ?_)) | ((with_reducible refine at_st ?_); first | (refine wpH_stA rfl rfl rfl H (by repeat (first | exact Turned.here | apply Turned.there)) (by first | exact row63 | exact row89 | exact row109 | exact row57) (by rfl) (by kernel_rfl) ?_; clear H; intro wN H) | (refine wpH_st1 (v := .int _ _) rfl rfl rfl rfl rfl H (by first | exact one3 | exact one4 | exact one26 | exact one22 | exact one91) (by repeat (first | exact Found.here | apply Found.there)) (by repeat (first | exact SetAt.z | apply SetAt.s)) (by repeat (first | exact Turned.here | apply Turned.there)) ?_; clear H; intro wN H)) | ((with_reducible refine at_al ?_); refine wpH_al rfl (by first | exact zero63 | exact zero89 | exact zero109 | exact zero57) H ?_; clear H; intro bN wN H) | ((with_reducible refine at_bx ?_); refine wpH_bxA rfl rfl H ?_; clear H; intro bN wN H)) | (exact bodyPost_ret (results_H1 rfl H (by repeat (first | exact Found.here | apply Found.there)) (by first | exact row63 | exact row89 | exact row109 | exact row57) rfl) rfl ⟨rfl, H.grown⟩))
set_option maxHeartbeats 1000000 in
set_option maxRecDepth 100000 in
theorem begun_1 (m : Mi) (s : Int) (h : rightB m = false) (w : World) :
    Calls Try.prog 83 #[.agg #[.int .i64 m.id, .int .i64 m.fr, .int .i64 m.to, .int .i64 m.se, .int .i64 m.ac, .int .i64 m.lo, .int .i64 m.pa, .int .i64 m.hi, .int .i64 m.dr, .int .i64 m.n, .int .i64 m.st, .int .i64 m.sr, .int .i64 m.tt, .int .i64 m.tr, .int .i64 m.rr], .int .i64 s] w fun e w' => e = .returned (.tuple #[.agg #[.int .i64 zeroM.id, .int .i64 zeroM.fr, .int .i64 zeroM.to, .int .i64 zeroM.se, .int .i64 zeroM.ac, .int .i64 zeroM.lo, .int .i64 zeroM.pa, .int .i64 zeroM.hi, .int .i64 zeroM.dr, .int .i64 zeroM.n, .int .i64 zeroM.st, .int .i64 zeroM.sr, .int .i64 zeroM.tt, .int .i64 zeroM.tr, .int .i64 zeroM.rr], .int .i64 1]) ∧ Below w.heap.size w w' := by
  have T1 := fun w => right_any m w
  rw [h] at T1
  have H := Heap.nil w
  go_enter Try.func83, Try.ntmps83
  go_wp2_with (first | ((first | ((with_reducible refine at_plain ?_); intro K hK) | go_guarded); first | ((with_reducible refine at_ld ?_); first | (refine wpH_ldA rfl rfl H (by repeat (first | exact Found.here | apply Found.there)) (by first | exact row63 | exact row89 | exact row109 | exact row57) ?_) | (refine wpH_ld1 rfl rfl H (by repeat (first | exact Found.here | apply Found.there)) (by first | exact one3 | exact one4 | exact one26 | exact one22 | exact one91) (by rfl) ?_)) | ((with_reducible refine at_st ?_); first | (refine wpH_stA rfl rfl rfl H (by repeat (first | exact Turned.here | apply Turned.there)) (by first | exact row63 | exact row89 | exact row109 | exact row57) (by rfl) (by kernel_rfl) ?_; clear H; intro wN H) | (refine wpH_st1 (v := .int _ _) rfl rfl rfl rfl rfl H (by first | exact one3 | exact one4 | exact one26 | exact one22 | exact one91) (by repeat (first | exact Found.here | apply Found.there)) (by repeat (first | exact SetAt.z | apply SetAt.s)) (by repeat (first | exact Turned.here | apply Turned.there)) ?_; clear H; intro wN H)) | ((with_reducible refine at_al ?_); refine wpH_al rfl (by first | exact zero63 | exact zero89 | exact zero109 | exact zero57) H ?_; clear H; intro bN wN H) | ((with_reducible refine at_bx ?_); refine wpH_bxA rfl rfl H ?_; clear H; intro bN wN H)) | (go_at_call 78; refine (draftOf_any m _).mono ?_; rintro e wN ⟨rfl, hw⟩; replace H := H.call hw; clear hw) | (go_at_call 43; refine (T1 _).mono ?_; rintro e wN ⟨rfl, hw⟩; replace H := H.call hw; clear hw) | (exact bodyPost_ret (results_H2 rfl H (by repeat (first | exact Found.here | apply Found.there)) (by first | exact row63 | exact row89 | exact row109 | exact row57) rfl rfl) rfl ⟨rfl, H.grown⟩))
set_option maxHeartbeats 1000000 in
set_option maxRecDepth 100000 in
theorem begun_9 (m : Mi) (s : Int) (h : rightB m = true) (h9 : win s 1 9000 = false) (w : World) :
    Calls Try.prog 83 #[.agg #[.int .i64 m.id, .int .i64 m.fr, .int .i64 m.to, .int .i64 m.se, .int .i64 m.ac, .int .i64 m.lo, .int .i64 m.pa, .int .i64 m.hi, .int .i64 m.dr, .int .i64 m.n, .int .i64 m.st, .int .i64 m.sr, .int .i64 m.tt, .int .i64 m.tr, .int .i64 m.rr], .int .i64 s] w fun e w' => e = .returned (.tuple #[.agg #[.int .i64 zeroM.id, .int .i64 zeroM.fr, .int .i64 zeroM.to, .int .i64 zeroM.se, .int .i64 zeroM.ac, .int .i64 zeroM.lo, .int .i64 zeroM.pa, .int .i64 zeroM.hi, .int .i64 zeroM.dr, .int .i64 zeroM.n, .int .i64 zeroM.st, .int .i64 zeroM.sr, .int .i64 zeroM.tt, .int .i64 zeroM.tr, .int .i64 zeroM.rr], .int .i64 9]) ∧ Below w.heap.size w w' := by
  have T1 := fun w => right_any m w
  have T2 := fun w => isSize_any s w
  rw [h] at T1
  rw [h9] at T2
  have H := Heap.nil w
  go_enter Try.func83, Try.ntmps83
  go_wp2_with (first | ((first | ((with_reducible refine at_plain ?_); intro K hK) | go_guarded); first | ((with_reducible refine at_ld ?_); first | (refine wpH_ldA rfl rfl H (by repeat (first | exact Found.here | apply Found.there)) (by first | exact row63 | exact row89 | exact row109 | exact row57) ?_) | (refine wpH_ld1 rfl rfl H (by repeat (first | exact Found.here | apply Found.there)) (by first | exact one3 | exact one4 | exact one26 | exact one22 | exact one91) (by rfl) ?_)) | ((with_reducible refine at_st ?_); first | (refine wpH_stA rfl rfl rfl H (by repeat (first | exact Turned.here | apply Turned.there)) (by first | exact row63 | exact row89 | exact row109 | exact row57) (by rfl) (by kernel_rfl) ?_; clear H; intro wN H) | (refine wpH_st1 (v := .int _ _) rfl rfl rfl rfl rfl H (by first | exact one3 | exact one4 | exact one26 | exact one22 | exact one91) (by repeat (first | exact Found.here | apply Found.there)) (by repeat (first | exact SetAt.z | apply SetAt.s)) (by repeat (first | exact Turned.here | apply Turned.there)) ?_; clear H; intro wN H)) | ((with_reducible refine at_al ?_); refine wpH_al rfl (by first | exact zero63 | exact zero89 | exact zero109 | exact zero57) H ?_; clear H; intro bN wN H) | ((with_reducible refine at_bx ?_); refine wpH_bxA rfl rfl H ?_; clear H; intro bN wN H)) | (go_at_call 78; refine (draftOf_any m _).mono ?_; rintro e wN ⟨rfl, hw⟩; replace H := H.call hw; clear hw) | (go_at_call 43; refine (T1 _).mono ?_; rintro e wN ⟨rfl, hw⟩; replace H := H.call hw; clear hw) | (go_at_call 94; refine (T2 _).mono ?_; rintro e wN ⟨rfl, rfl⟩) | (exact bodyPost_ret (results_H2 rfl H (by repeat (first | exact Found.here | apply Found.there)) (by first | exact row63 | exact row89 | exact row109 | exact row57) rfl rfl) rfl ⟨rfl, H.grown⟩))
set_option maxHeartbeats 1000000 in
set_option maxRecDepth 100000 in
theorem begun_0 (m : Mi) (s : Int) (h : rightB m = true) (h9 : win s 1 9000 = true) (w : World) :
    Calls Try.prog 83 #[.agg #[.int .i64 m.id, .int .i64 m.fr, .int .i64 m.to, .int .i64 m.se, .int .i64 m.ac, .int .i64 m.lo, .int .i64 m.pa, .int .i64 m.hi, .int .i64 m.dr, .int .i64 m.n, .int .i64 m.st, .int .i64 m.sr, .int .i64 m.tt, .int .i64 m.tr, .int .i64 m.rr], .int .i64 s] w fun e w' => e = .returned (.tuple #[.agg #[.int .i64 m.id, .int .i64 m.fr, .int .i64 m.to, .int .i64 m.se, .int .i64 m.ac, .int .i64 m.lo, .int .i64 m.pa, .int .i64 m.hi, .int .i64 m.dr, .int .i64 m.n, .int .i64 m.st, .int .i64 m.sr, .int .i64 m.tt, .int .i64 m.tr, .int .i64 m.rr], .int .i64 0]) ∧ Below w.heap.size w w' := by
  have T1 := fun w => right_any m w
  have T2 := fun w => isSize_any s w
  rw [h] at T1
  rw [h9] at T2
  have H := Heap.nil w
  go_enter Try.func83, Try.ntmps83
  go_wp2_with (first | ((first | ((with_reducible refine at_plain ?_); intro K hK) | go_guarded); first | ((with_reducible refine at_ld ?_); first | (refine wpH_ldA rfl rfl H (by repeat (first | exact Found.here | apply Found.there)) (by first | exact row63 | exact row89 | exact row109 | exact row57) ?_) | (refine wpH_ld1 rfl rfl H (by repeat (first | exact Found.here | apply Found.there)) (by first | exact one3 | exact one4 | exact one26 | exact one22 | exact one91) (by rfl) ?_)) | ((with_reducible refine at_st ?_); first | (refine wpH_stA rfl rfl rfl H (by repeat (first | exact Turned.here | apply Turned.there)) (by first | exact row63 | exact row89 | exact row109 | exact row57) (by rfl) (by kernel_rfl) ?_; clear H; intro wN H) | (refine wpH_st1 (v := .int _ _) rfl rfl rfl rfl rfl H (by first | exact one3 | exact one4 | exact one26 | exact one22 | exact one91) (by repeat (first | exact Found.here | apply Found.there)) (by repeat (first | exact SetAt.z | apply SetAt.s)) (by repeat (first | exact Turned.here | apply Turned.there)) ?_; clear H; intro wN H)) | ((with_reducible refine at_al ?_); refine wpH_al rfl (by first | exact zero63 | exact zero89 | exact zero109 | exact zero57) H ?_; clear H; intro bN wN H) | ((with_reducible refine at_bx ?_); refine wpH_bxA rfl rfl H ?_; clear H; intro bN wN H)) | (go_at_call 78; refine (draftOf_any m _).mono ?_; rintro e wN ⟨rfl, hw⟩; replace H := H.call hw; clear hw) | (go_at_call 43; refine (T1 _).mono ?_; rintro e wN ⟨rfl, hw⟩; replace H := H.call hw; clear hw) | (go_at_call 94; refine (T2 _).mono ?_; rintro e wN ⟨rfl, rfl⟩) | (exact bodyPost_ret (results_H2 rfl H (by repeat (first | exact Found.here | apply Found.there)) (by first | exact row63 | exact row89 | exact row109 | exact row57) rfl rfl) rfl ⟨rfl, H.grown⟩))
/-- One packet more sent, lost, acked; one sample more. -/
def sentM (m : Mi) (s : Int) : Mi := { m with pa := m.pa + 1, se := m.se + s }
def lostM (m : Mi) (s : Int) : Mi := { m with dr := m.dr + 1, lo := m.lo + s }
def hitM (m : Mi) (s : Int) : Mi := { m with hi := m.hi + 1, ac := m.ac + s }
def sampM (m : Mi) (t r : Int) : Mi := { m with n := m.n + 1, st := m.st + t, sr := m.sr + r, tt := m.tt + t * t, tr := m.tr + t * r, rr := m.rr + r * r }
set_option maxHeartbeats 1000000 in
set_option maxRecDepth 100000 in
theorem psend_any (m : Mi) (s : Int) (s0 : 0 ≤ s) (s1 : s ≤ 9000) (p0 : 0 ≤ m.pa) (p1 : m.pa ≤ 1048576) (q0 : 0 ≤ m.se) (q1 : m.se ≤ 9437184000) {w : World} {b : Nat} (hO : Ob w b [.int .i64 m.id, .int .i64 m.fr, .int .i64 m.to, .int .i64 m.se, .int .i64 m.ac, .int .i64 m.lo, .int .i64 m.pa, .int .i64 m.hi, .int .i64 m.dr, .int .i64 m.n, .int .i64 m.st, .int .i64 m.sr, .int .i64 m.tt, .int .i64 m.tr, .int .i64 m.rr]) :
    Calls Try.prog 84 #[.pointer (some ⟨b, 0, none⟩), .int .i64 s] w fun e w' => e = .returned (.tuple #[]) ∧ Turn w w' b [.int .i64 (sentM m s).id, .int .i64 (sentM m s).fr, .int .i64 (sentM m s).to, .int .i64 (sentM m s).se, .int .i64 (sentM m s).ac, .int .i64 (sentM m s).lo, .int .i64 (sentM m s).pa, .int .i64 (sentM m s).hi, .int .i64 (sentM m s).dr, .int .i64 (sentM m s).n, .int .i64 (sentM m s).st, .int .i64 (sentM m s).sr, .int .i64 (sentM m s).tt, .int .i64 (sentM m s).tr, .int .i64 (sentM m s).rr] := by
  have T := Turn.refl hO
  go_enter Try.func84, Try.ntmps84
  go_wp2_with ((first | ((with_reducible refine at_plain ?_); intro K hK) | go_guarded); first | ((with_reducible refine at_ld ?_); refine wpH_ld1T rfl rfl T (by first | exact one3 | exact one4 | exact one26 | exact one22 | exact one91) (by rfl) ?_) | ((with_reducible refine at_st ?_); refine wpH_st1T (v := .int _ _) rfl rfl rfl rfl rfl T (by first | exact one3 | exact one4 | exact one26 | exact one22 | exact one91) (by repeat (first | exact SetAt.z | apply SetAt.s)) ?_; clear T; intro wN T))
  all_goals (first | exact bodyPost_ret (results_0 rfl) rfl ⟨rfl, T⟩ | exact bodyPost_end (results_0 rfl) rfl ⟨rfl, T⟩)
set_option maxHeartbeats 1000000 in
set_option maxRecDepth 100000 in
theorem plose_any (m : Mi) (s : Int) (s0 : 0 ≤ s) (s1 : s ≤ 9000) (p0 : 0 ≤ m.dr) (p1 : m.dr ≤ 1048576) (q0 : 0 ≤ m.lo) (q1 : m.lo ≤ 9437184000) {w : World} {b : Nat} (hO : Ob w b [.int .i64 m.id, .int .i64 m.fr, .int .i64 m.to, .int .i64 m.se, .int .i64 m.ac, .int .i64 m.lo, .int .i64 m.pa, .int .i64 m.hi, .int .i64 m.dr, .int .i64 m.n, .int .i64 m.st, .int .i64 m.sr, .int .i64 m.tt, .int .i64 m.tr, .int .i64 m.rr]) :
    Calls Try.prog 85 #[.pointer (some ⟨b, 0, none⟩), .int .i64 s] w fun e w' => e = .returned (.tuple #[]) ∧ Turn w w' b [.int .i64 (lostM m s).id, .int .i64 (lostM m s).fr, .int .i64 (lostM m s).to, .int .i64 (lostM m s).se, .int .i64 (lostM m s).ac, .int .i64 (lostM m s).lo, .int .i64 (lostM m s).pa, .int .i64 (lostM m s).hi, .int .i64 (lostM m s).dr, .int .i64 (lostM m s).n, .int .i64 (lostM m s).st, .int .i64 (lostM m s).sr, .int .i64 (lostM m s).tt, .int .i64 (lostM m s).tr, .int .i64 (lostM m s).rr] := by
  have T := Turn.refl hO
  go_enter Try.func85, Try.ntmps85
  go_wp2_with ((first | ((with_reducible refine at_plain ?_); intro K hK) | go_guarded); first | ((with_reducible refine at_ld ?_); refine wpH_ld1T rfl rfl T (by first | exact one3 | exact one4 | exact one26 | exact one22 | exact one91) (by rfl) ?_) | ((with_reducible refine at_st ?_); refine wpH_st1T (v := .int _ _) rfl rfl rfl rfl rfl T (by first | exact one3 | exact one4 | exact one26 | exact one22 | exact one91) (by repeat (first | exact SetAt.z | apply SetAt.s)) ?_; clear T; intro wN T))
  all_goals (first | exact bodyPost_ret (results_0 rfl) rfl ⟨rfl, T⟩ | exact bodyPost_end (results_0 rfl) rfl ⟨rfl, T⟩)
set_option maxHeartbeats 1000000 in
set_option maxRecDepth 100000 in
theorem pack_any (m : Mi) (s : Int) (s0 : 0 ≤ s) (s1 : s ≤ 9000) (p0 : 0 ≤ m.hi) (p1 : m.hi ≤ 1048576) (q0 : 0 ≤ m.ac) (q1 : m.ac ≤ 9437184000) {w : World} {b : Nat} (hO : Ob w b [.int .i64 m.id, .int .i64 m.fr, .int .i64 m.to, .int .i64 m.se, .int .i64 m.ac, .int .i64 m.lo, .int .i64 m.pa, .int .i64 m.hi, .int .i64 m.dr, .int .i64 m.n, .int .i64 m.st, .int .i64 m.sr, .int .i64 m.tt, .int .i64 m.tr, .int .i64 m.rr]) :
    Calls Try.prog 86 #[.pointer (some ⟨b, 0, none⟩), .int .i64 s] w fun e w' => e = .returned (.tuple #[]) ∧ Turn w w' b [.int .i64 (hitM m s).id, .int .i64 (hitM m s).fr, .int .i64 (hitM m s).to, .int .i64 (hitM m s).se, .int .i64 (hitM m s).ac, .int .i64 (hitM m s).lo, .int .i64 (hitM m s).pa, .int .i64 (hitM m s).hi, .int .i64 (hitM m s).dr, .int .i64 (hitM m s).n, .int .i64 (hitM m s).st, .int .i64 (hitM m s).sr, .int .i64 (hitM m s).tt, .int .i64 (hitM m s).tr, .int .i64 (hitM m s).rr] := by
  have T := Turn.refl hO
  go_enter Try.func86, Try.ntmps86
  go_wp2_with ((first | ((with_reducible refine at_plain ?_); intro K hK) | go_guarded); first | ((with_reducible refine at_ld ?_); refine wpH_ld1T rfl rfl T (by first | exact one3 | exact one4 | exact one26 | exact one22 | exact one91) (by rfl) ?_) | ((with_reducible refine at_st ?_); refine wpH_st1T (v := .int _ _) rfl rfl rfl rfl rfl T (by first | exact one3 | exact one4 | exact one26 | exact one22 | exact one91) (by repeat (first | exact SetAt.z | apply SetAt.s)) ?_; clear T; intro wN T))
  all_goals (first | exact bodyPost_ret (results_0 rfl) rfl ⟨rfl, T⟩ | exact bodyPost_end (results_0 rfl) rfl ⟨rfl, T⟩)
set_option maxHeartbeats 1000000 in
set_option maxRecDepth 100000 in
theorem psample_no (m : Mi) (s a : Int) (s0 : 0 ≤ s) (s1 : s ≤ 1099511627776) (a0 : s ≤ a) (a1 : a ≤ 1099511627776) (f0 : 0 ≤ m.fr) (f1 : m.fr ≤ 1099511627776) (hn : m.n = 1024 ∨ win (s - m.fr) 0 60000000 = false ∨ win (a - s) 0 60000000 = false) {w : World} {b : Nat} (hO : Ob w b [.int .i64 m.id, .int .i64 m.fr, .int .i64 m.to, .int .i64 m.se, .int .i64 m.ac, .int .i64 m.lo, .int .i64 m.pa, .int .i64 m.hi, .int .i64 m.dr, .int .i64 m.n, .int .i64 m.st, .int .i64 m.sr, .int .i64 m.tt, .int .i64 m.tr, .int .i64 m.rr]) :
    Calls Try.prog 87 #[.pointer (some ⟨b, 0, none⟩), .int .i64 s, .int .i64 a] w fun e w' => e = .returned (.tuple #[]) ∧ Turn w w' b [.int .i64 m.id, .int .i64 m.fr, .int .i64 m.to, .int .i64 m.se, .int .i64 m.ac, .int .i64 m.lo, .int .i64 m.pa, .int .i64 m.hi, .int .i64 m.dr, .int .i64 m.n, .int .i64 m.st, .int .i64 m.sr, .int .i64 m.tt, .int .i64 m.tr, .int .i64 m.rr] := by
  have T1 := fun w => within_any (s - m.fr) 0 60000000 w
  have T2 := fun w => within_any (a - s) 0 60000000 w
  have T := Turn.refl hO
  by_cases h1 : m.n = 1024
  · clear hn
    go_enter Try.func87, Try.ntmps87
    go_wp2_with ((first | ((with_reducible refine at_plain ?_); intro K hK) | go_guarded); first | ((with_reducible refine at_ld ?_); refine wpH_ld1T rfl rfl T (by first | exact one3 | exact one4 | exact one26 | exact one22 | exact one91) (by rfl) ?_) | ((with_reducible refine at_st ?_); refine wpH_st1T (v := .int _ _) rfl rfl rfl rfl rfl T (by first | exact one3 | exact one4 | exact one26 | exact one22 | exact one91) (by repeat (first | exact SetAt.z | apply SetAt.s)) ?_; clear T; intro wN T))
    all_goals (first | exact bodyPost_ret (results_0 rfl) rfl ⟨rfl, T⟩ | exact bodyPost_end (results_0 rfl) rfl ⟨rfl, T⟩)
  · cases h2 : win (s - m.fr) 0 60000000
    · rw [h2] at T1
      clear hn
      go_enter Try.func87, Try.ntmps87
      go_wp2_with ((first | ((with_reducible refine at_plain ?_); intro K hK) | go_guarded); first | ((with_reducible refine at_ld ?_); refine wpH_ld1T rfl rfl T (by first | exact one3 | exact one4 | exact one26 | exact one22 | exact one91) (by rfl) ?_) | ((with_reducible refine at_st ?_); refine wpH_st1T (v := .int _ _) rfl rfl rfl rfl rfl T (by first | exact one3 | exact one4 | exact one26 | exact one22 | exact one91) (by repeat (first | exact SetAt.z | apply SetAt.s)) ?_; clear T; intro wN T))
      refine (T1 _).mono ?_
      rintro e wN ⟨rfl, rfl⟩
      go_wp2_with ((first | ((with_reducible refine at_plain ?_); intro K hK) | go_guarded); first | ((with_reducible refine at_ld ?_); refine wpH_ld1T rfl rfl T (by first | exact one3 | exact one4 | exact one26 | exact one22 | exact one91) (by rfl) ?_) | ((with_reducible refine at_st ?_); refine wpH_st1T (v := .int _ _) rfl rfl rfl rfl rfl T (by first | exact one3 | exact one4 | exact one26 | exact one22 | exact one91) (by repeat (first | exact SetAt.z | apply SetAt.s)) ?_; clear T; intro wN T))
      all_goals (first | exact bodyPost_ret (results_0 rfl) rfl ⟨rfl, T⟩ | exact bodyPost_end (results_0 rfl) rfl ⟨rfl, T⟩)
    · rw [h2] at T1 hn
      have h3 : win (a - s) 0 60000000 = false := by rcases hn with h | h | h; exact absurd h h1; cases h; exact h
      rw [h3] at T2
      clear hn h2 h3
      go_enter Try.func87, Try.ntmps87
      go_wp2_with ((first | ((with_reducible refine at_plain ?_); intro K hK) | go_guarded); first | ((with_reducible refine at_ld ?_); refine wpH_ld1T rfl rfl T (by first | exact one3 | exact one4 | exact one26 | exact one22 | exact one91) (by rfl) ?_) | ((with_reducible refine at_st ?_); refine wpH_st1T (v := .int _ _) rfl rfl rfl rfl rfl T (by first | exact one3 | exact one4 | exact one26 | exact one22 | exact one91) (by repeat (first | exact SetAt.z | apply SetAt.s)) ?_; clear T; intro wN T))
      refine (T1 _).mono ?_
      rintro e wN ⟨rfl, rfl⟩
      go_wp2_with ((first | ((with_reducible refine at_plain ?_); intro K hK) | go_guarded); first | ((with_reducible refine at_ld ?_); refine wpH_ld1T rfl rfl T (by first | exact one3 | exact one4 | exact one26 | exact one22 | exact one91) (by rfl) ?_) | ((with_reducible refine at_st ?_); refine wpH_st1T (v := .int _ _) rfl rfl rfl rfl rfl T (by first | exact one3 | exact one4 | exact one26 | exact one22 | exact one91) (by repeat (first | exact SetAt.z | apply SetAt.s)) ?_; clear T; intro wN T))
      refine (T2 _).mono ?_
      rintro e wN ⟨rfl, rfl⟩
      go_wp2_with ((first | ((with_reducible refine at_plain ?_); intro K hK) | go_guarded); first | ((with_reducible refine at_ld ?_); refine wpH_ld1T rfl rfl T (by first | exact one3 | exact one4 | exact one26 | exact one22 | exact one91) (by rfl) ?_) | ((with_reducible refine at_st ?_); refine wpH_st1T (v := .int _ _) rfl rfl rfl rfl rfl T (by first | exact one3 | exact one4 | exact one26 | exact one22 | exact one91) (by repeat (first | exact SetAt.z | apply SetAt.s)) ?_; clear T; intro wN T))
      all_goals (first | exact bodyPost_ret (results_0 rfl) rfl ⟨rfl, T⟩ | exact bodyPost_end (results_0 rfl) rfl ⟨rfl, T⟩)
set_option maxHeartbeats 2000000 in
set_option maxRecDepth 100000 in
theorem psample_yes (m : Mi) (s a : Int) (s0 : 0 ≤ s) (s1 : s ≤ 1099511627776) (a0 : s ≤ a) (a1 : a ≤ 1099511627776) (f0 : 0 ≤ m.fr) (f1 : m.fr ≤ 1099511627776) (n0 : 0 ≤ m.n) (n1 : m.n < 1024) (h1 : win (s - m.fr) 0 60000000 = true) (h2 : win (a - s) 0 60000000 = true)
    (t0 : 0 ≤ m.st) (t1 : m.st ≤ 61440000000) (r0 : 0 ≤ m.sr) (r1 : m.sr ≤ 61440000000) (u0 : 0 ≤ m.tt) (u1 : m.tt ≤ 3686400000000000000) (v0 : 0 ≤ m.tr) (v1 : m.tr ≤ 3686400000000000000) (x0 : 0 ≤ m.rr) (x1 : m.rr ≤ 3686400000000000000) {w : World} {b : Nat} (hO : Ob w b [.int .i64 m.id, .int .i64 m.fr, .int .i64 m.to, .int .i64 m.se, .int .i64 m.ac, .int .i64 m.lo, .int .i64 m.pa, .int .i64 m.hi, .int .i64 m.dr, .int .i64 m.n, .int .i64 m.st, .int .i64 m.sr, .int .i64 m.tt, .int .i64 m.tr, .int .i64 m.rr]) :
    Calls Try.prog 87 #[.pointer (some ⟨b, 0, none⟩), .int .i64 s, .int .i64 a] w fun e w' => e = .returned (.tuple #[]) ∧ Turn w w' b [.int .i64 (sampM m (s - m.fr) (a - s)).id, .int .i64 (sampM m (s - m.fr) (a - s)).fr, .int .i64 (sampM m (s - m.fr) (a - s)).to, .int .i64 (sampM m (s - m.fr) (a - s)).se, .int .i64 (sampM m (s - m.fr) (a - s)).ac, .int .i64 (sampM m (s - m.fr) (a - s)).lo, .int .i64 (sampM m (s - m.fr) (a - s)).pa, .int .i64 (sampM m (s - m.fr) (a - s)).hi, .int .i64 (sampM m (s - m.fr) (a - s)).dr, .int .i64 (sampM m (s - m.fr) (a - s)).n, .int .i64 (sampM m (s - m.fr) (a - s)).st, .int .i64 (sampM m (s - m.fr) (a - s)).sr, .int .i64 (sampM m (s - m.fr) (a - s)).tt, .int .i64 (sampM m (s - m.fr) (a - s)).tr, .int .i64 (sampM m (s - m.fr) (a - s)).rr] := by
  have T1 := fun w => within_any (s - m.fr) 0 60000000 w
  have T2 := fun w => within_any (a - s) 0 60000000 w
  obtain ⟨c0, c1⟩ := win_iff.1 h1
  obtain ⟨d0, d1⟩ := win_iff.1 h2
  rw [h1] at T1
  rw [h2] at T2
  have hn : ¬ m.n = 1024 := by omega
  have pp : 0 ≤ (s - m.fr) * (s - m.fr) ∧ (s - m.fr) * (s - m.fr) ≤ 60000000 * 60000000 := ⟨Int.mul_nonneg c0 c0, Int.mul_le_mul c1 c1 c0 (by omega)⟩
  have pq : 0 ≤ (s - m.fr) * (a - s) ∧ (s - m.fr) * (a - s) ≤ 60000000 * 60000000 := ⟨Int.mul_nonneg c0 d0, Int.mul_le_mul c1 d1 d0 (by omega)⟩
  have qq : 0 ≤ (a - s) * (a - s) ∧ (a - s) * (a - s) ≤ 60000000 * 60000000 := ⟨Int.mul_nonneg d0 d0, Int.mul_le_mul d1 d1 d0 (by omega)⟩
  have e1 : Hid (([.int .i64 (sampM m (s - m.fr) (a - s)).id, .int .i64 (sampM m (s - m.fr) (a - s)).fr, .int .i64 (sampM m (s - m.fr) (a - s)).to, .int .i64 (sampM m (s - m.fr) (a - s)).se, .int .i64 (sampM m (s - m.fr) (a - s)).ac, .int .i64 (sampM m (s - m.fr) (a - s)).lo, .int .i64 (sampM m (s - m.fr) (a - s)).pa, .int .i64 (sampM m (s - m.fr) (a - s)).hi, .int .i64 (sampM m (s - m.fr) (a - s)).dr, .int .i64 (sampM m (s - m.fr) (a - s)).n, .int .i64 (sampM m (s - m.fr) (a - s)).st, .int .i64 (sampM m (s - m.fr) (a - s)).sr, .int .i64 (sampM m (s - m.fr) (a - s)).tt, .int .i64 (sampM m (s - m.fr) (a - s)).tr, .int .i64 (sampM m (s - m.fr) (a - s)).rr] : List Value) = [.int .i64 m.id, .int .i64 m.fr, .int .i64 m.to, .int .i64 m.se, .int .i64 m.ac, .int .i64 m.lo, .int .i64 m.pa, .int .i64 m.hi, .int .i64 m.dr, .int .i64 (m.n + 1), .int .i64 (m.st + (s - m.fr)), .int .i64 (m.sr + (a - s)), .int .i64 (m.tt + (s - m.fr) * (s - m.fr)), .int .i64 (m.tr + (s - m.fr) * (a - s)), .int .i64 (m.rr + (a - s) * (a - s))]) := rfl
  rw [e1.out]
  clear h1 h2 e1
  obtain ⟨pp0, pp1⟩ := pp
  obtain ⟨pq0, pq1⟩ := pq
  obtain ⟨qq0, qq1⟩ := qq
  rw [show (60000000 : Int) * 60000000 = 3600000000000000 from rfl] at pp1 pq1 qq1
  have T := Turn.refl hO
  go_enter Try.func87, Try.ntmps87
  go_wp2_with ((first | ((with_reducible refine at_plain ?_); intro K hK) | go_guarded); first | ((with_reducible refine at_ld ?_); refine wpH_ld1T rfl rfl T (by first | exact one3 | exact one4 | exact one26 | exact one22 | exact one91) (by rfl) ?_) | ((with_reducible refine at_st ?_); refine wpH_st1T (v := .int _ _) rfl rfl rfl rfl rfl T (by first | exact one3 | exact one4 | exact one26 | exact one22 | exact one91) (by repeat (first | exact SetAt.z | apply SetAt.s)) ?_; clear T; intro wN T))
  refine (T1 _).mono ?_
  rintro e wN ⟨rfl, rfl⟩
  go_wp2_with ((first | ((with_reducible refine at_plain ?_); intro K hK) | go_guarded); first | ((with_reducible refine at_ld ?_); refine wpH_ld1T rfl rfl T (by first | exact one3 | exact one4 | exact one26 | exact one22 | exact one91) (by rfl) ?_) | ((with_reducible refine at_st ?_); refine wpH_st1T (v := .int _ _) rfl rfl rfl rfl rfl T (by first | exact one3 | exact one4 | exact one26 | exact one22 | exact one91) (by repeat (first | exact SetAt.z | apply SetAt.s)) ?_; clear T; intro wN T))
  refine (T2 _).mono ?_
  rintro e wN ⟨rfl, rfl⟩
  go_wp2_with ((first | ((with_reducible refine at_plain ?_); intro K hK) | go_guarded); first | ((with_reducible refine at_ld ?_); refine wpH_ld1T rfl rfl T (by first | exact one3 | exact one4 | exact one26 | exact one22 | exact one91) (by rfl) ?_) | ((with_reducible refine at_st ?_); refine wpH_st1T (v := .int _ _) rfl rfl rfl rfl rfl T (by first | exact one3 | exact one4 | exact one26 | exact one22 | exact one91) (by repeat (first | exact SetAt.z | apply SetAt.s)) ?_; clear T; intro wN T))
  all_goals (first | exact bodyPost_ret (results_0 rfl) rfl ⟨rfl, T⟩ | exact bodyPost_end (results_0 rfl) rfl ⟨rfl, T⟩)
end Go.Proofs.Ytpaalpnoppblaaa
