/-
  What a step of a script makes of an account. No conditions but the numbers' own ranges.
-/
import Derived.Test.YtjhkbaadlicelaaU9
import Derived.Test.YtjhkbaadlicelaaU11
namespace Go.Proofs.Ytjhkbaadlicelaa
open Go.RowKit
set_option linter.unusedVariables false
def stepE (m : Mi) (k s x a : Int) : Int := if k = 0 then sendE m s else if k = 1 then ackE m s x a else if k = 2 then loseE m s else closeE m a
def stepV (m : Mi) (k s x a : Int) : Mi := if k = 0 then sendV m s else if k = 1 then ackV m s x a else if k = 2 then loseV m s else closeV m a
set_option maxHeartbeats 2000000 in
set_option maxRecDepth 100000 in
theorem step_any (m : Mi) (k s x a : Int) (x0 : -9223372036854775808 ≤ x) (x1 : x ≤ 9223372036854775807) (w : World) :
    Calls Try.prog 22 #[.agg #[.int .i64 m.id, .int .i64 m.fr, .int .i64 m.to, .int .i64 m.se, .int .i64 m.ac, .int .i64 m.lo, .int .i64 m.pa, .int .i64 m.hi, .int .i64 m.dr, .int .i64 m.n, .int .i64 m.st, .int .i64 m.sr, .int .i64 m.tt, .int .i64 m.tr, .int .i64 m.rr], .agg #[.int .i64 k, .int .i64 s, .int .i64 x, .int .i64 a]] w fun e w' => e = .returned (.tuple #[.agg #[.int .i64 (stepV m k s x a).id, .int .i64 (stepV m k s x a).fr, .int .i64 (stepV m k s x a).to, .int .i64 (stepV m k s x a).se, .int .i64 (stepV m k s x a).ac, .int .i64 (stepV m k s x a).lo, .int .i64 (stepV m k s x a).pa, .int .i64 (stepV m k s x a).hi, .int .i64 (stepV m k s x a).dr, .int .i64 (stepV m k s x a).n, .int .i64 (stepV m k s x a).st, .int .i64 (stepV m k s x a).sr, .int .i64 (stepV m k s x a).tt, .int .i64 (stepV m k s x a).tr, .int .i64 (stepV m k s x a).rr], .int .i64 (stepE m k s x a)]) ∧ Below w.heap.size w w' := by
  have H := Heap.nil w
  have T0 := fun w => send_any m s w
  have T1 := fun w => ack_any m s x a x0 x1 w
  have T2 := fun w => lose_any m s w
  have T3 := fun w => close_any m a w
  by_cases h0 : k = 0
  · have e1 : stepE m k s x a = sendE m s := by simp [stepE, h0]
    have e2 : stepV m k s x a = sendV m s := by simp [stepV, h0]
    rw [e1, e2]
    subst h0
    clear e1 e2 T1 T2 T3
    generalize sendE m s = E at *
    generalize sendV m s = V at *
    go_enter Try.func22, Try.ntmps22
    go_wp2_with (first | ((first | ((with_reducible refine at_plain ?_); intro K hK) | go_guarded); first | ((with_reducible refine at_ld ?_); first | (refine wpH_ldA rfl rfl H (by repeat (first | exact Found.here | apply Found.there)) (by first | exact row23 | exact row39 | exact row41 | exact row34) ?_) | (refine wpH_ld1 rfl rfl H (by repeat (first | exact Found.here | apply Found.there)) (by first | exact one3 | exact one4 | exact one24) (by rfl) ?_)) | ((with_reducible refine at_st ?_); first | (refine wpH_stA rfl rfl rfl H (by repeat (first | exact Turned.here | apply Turned.there)) (by first | exact row23 | exact row39 | exact row41 | exact row34) (by rfl) (by kernel_rfl) ?_; clear H; intro wN H) | (refine wpH_st1 (v := .int _ _) rfl rfl rfl rfl rfl H (by first | exact one3 | exact one4 | exact one24) (by repeat (first | exact Found.here | apply Found.there)) (by repeat (first | exact SetAt.z | apply SetAt.s)) (by repeat (first | exact Turned.here | apply Turned.there)) ?_; clear H; intro wN H)) | ((with_reducible refine at_al ?_); refine wpH_al rfl (by first | exact zero23 | exact zero39 | exact zero41 | exact zero34) H ?_; clear H; intro bN wN H) | ((with_reducible refine at_bx ?_); refine wpH_bxA rfl rfl H ?_; clear H; intro bN wN H)) | (go_at_call 7; refine (T0 _).mono ?_; rintro e wN ⟨rfl, hw⟩; replace H := H.call hw; clear hw) | (exact bodyPost_ret (results_H2 rfl H (by repeat (first | exact Found.here | apply Found.there)) (by first | exact row23 | exact row39 | exact row41 | exact row34) rfl rfl) rfl ⟨rfl, H.grown⟩))
  by_cases h1 : k = 1
  · have e1 : stepE m k s x a = ackE m s x a := by simp [stepE, h1]
    have e2 : stepV m k s x a = ackV m s x a := by simp [stepV, h1]
    rw [e1, e2]
    subst h1
    clear e1 e2 T0 T2 T3
    generalize ackE m s x a = E at *
    generalize ackV m s x a = V at *
    go_enter Try.func22, Try.ntmps22
    go_wp2_with (first | ((first | ((with_reducible refine at_plain ?_); intro K hK) | go_guarded); first | ((with_reducible refine at_ld ?_); first | (refine wpH_ldA rfl rfl H (by repeat (first | exact Found.here | apply Found.there)) (by first | exact row23 | exact row39 | exact row41 | exact row34) ?_) | (refine wpH_ld1 rfl rfl H (by repeat (first | exact Found.here | apply Found.there)) (by first | exact one3 | exact one4 | exact one24) (by rfl) ?_)) | ((with_reducible refine at_st ?_); first | (refine wpH_stA rfl rfl rfl H (by repeat (first | exact Turned.here | apply Turned.there)) (by first | exact row23 | exact row39 | exact row41 | exact row34) (by rfl) (by kernel_rfl) ?_; clear H; intro wN H) | (refine wpH_st1 (v := .int _ _) rfl rfl rfl rfl rfl H (by first | exact one3 | exact one4 | exact one24) (by repeat (first | exact Found.here | apply Found.there)) (by repeat (first | exact SetAt.z | apply SetAt.s)) (by repeat (first | exact Turned.here | apply Turned.there)) ?_; clear H; intro wN H)) | ((with_reducible refine at_al ?_); refine wpH_al rfl (by first | exact zero23 | exact zero39 | exact zero41 | exact zero34) H ?_; clear H; intro bN wN H) | ((with_reducible refine at_bx ?_); refine wpH_bxA rfl rfl H ?_; clear H; intro bN wN H)) | (go_at_call 9; refine (T1 _).mono ?_; rintro e wN ⟨rfl, hw⟩; replace H := H.call hw; clear hw) | (exact bodyPost_ret (results_H2 rfl H (by repeat (first | exact Found.here | apply Found.there)) (by first | exact row23 | exact row39 | exact row41 | exact row34) rfl rfl) rfl ⟨rfl, H.grown⟩))
  by_cases h2 : k = 2
  · have e1 : stepE m k s x a = loseE m s := by simp [stepE, h2]
    have e2 : stepV m k s x a = loseV m s := by simp [stepV, h2]
    rw [e1, e2]
    subst h2
    clear e1 e2 T1 T0 T3
    generalize loseE m s = E at *
    generalize loseV m s = V at *
    go_enter Try.func22, Try.ntmps22
    go_wp2_with (first | ((first | ((with_reducible refine at_plain ?_); intro K hK) | go_guarded); first | ((with_reducible refine at_ld ?_); first | (refine wpH_ldA rfl rfl H (by repeat (first | exact Found.here | apply Found.there)) (by first | exact row23 | exact row39 | exact row41 | exact row34) ?_) | (refine wpH_ld1 rfl rfl H (by repeat (first | exact Found.here | apply Found.there)) (by first | exact one3 | exact one4 | exact one24) (by rfl) ?_)) | ((with_reducible refine at_st ?_); first | (refine wpH_stA rfl rfl rfl H (by repeat (first | exact Turned.here | apply Turned.there)) (by first | exact row23 | exact row39 | exact row41 | exact row34) (by rfl) (by kernel_rfl) ?_; clear H; intro wN H) | (refine wpH_st1 (v := .int _ _) rfl rfl rfl rfl rfl H (by first | exact one3 | exact one4 | exact one24) (by repeat (first | exact Found.here | apply Found.there)) (by repeat (first | exact SetAt.z | apply SetAt.s)) (by repeat (first | exact Turned.here | apply Turned.there)) ?_; clear H; intro wN H)) | ((with_reducible refine at_al ?_); refine wpH_al rfl (by first | exact zero23 | exact zero39 | exact zero41 | exact zero34) H ?_; clear H; intro bN wN H) | ((with_reducible refine at_bx ?_); refine wpH_bxA rfl rfl H ?_; clear H; intro bN wN H)) | (go_at_call 11; refine (T2 _).mono ?_; rintro e wN ⟨rfl, hw⟩; replace H := H.call hw; clear hw) | (exact bodyPost_ret (results_H2 rfl H (by repeat (first | exact Found.here | apply Found.there)) (by first | exact row23 | exact row39 | exact row41 | exact row34) rfl rfl) rfl ⟨rfl, H.grown⟩))
  · have e1 : stepE m k s x a = closeE m a := by simp [stepE, h0, h1, h2]
    have e2 : stepV m k s x a = closeV m a := by simp [stepV, h0, h1, h2]
    rw [e1, e2]
    clear e1 e2 T1 T0 T2
    generalize closeE m a = E at *
    generalize closeV m a = V at *
    go_enter Try.func22, Try.ntmps22
    go_wp2_with (first | ((first | ((with_reducible refine at_plain ?_); intro K hK) | go_guarded); first | ((with_reducible refine at_ld ?_); first | (refine wpH_ldA rfl rfl H (by repeat (first | exact Found.here | apply Found.there)) (by first | exact row23 | exact row39 | exact row41 | exact row34) ?_) | (refine wpH_ld1 rfl rfl H (by repeat (first | exact Found.here | apply Found.there)) (by first | exact one3 | exact one4 | exact one24) (by rfl) ?_)) | ((with_reducible refine at_st ?_); first | (refine wpH_stA rfl rfl rfl H (by repeat (first | exact Turned.here | apply Turned.there)) (by first | exact row23 | exact row39 | exact row41 | exact row34) (by rfl) (by kernel_rfl) ?_; clear H; intro wN H) | (refine wpH_st1 (v := .int _ _) rfl rfl rfl rfl rfl H (by first | exact one3 | exact one4 | exact one24) (by repeat (first | exact Found.here | apply Found.there)) (by repeat (first | exact SetAt.z | apply SetAt.s)) (by repeat (first | exact Turned.here | apply Turned.there)) ?_; clear H; intro wN H)) | ((with_reducible refine at_al ?_); refine wpH_al rfl (by first | exact zero23 | exact zero39 | exact zero41 | exact zero34) H ?_; clear H; intro bN wN H) | ((with_reducible refine at_bx ?_); refine wpH_bxA rfl rfl H ?_; clear H; intro bN wN H)) | (go_at_call 13; refine (T3 _).mono ?_; rintro e wN ⟨rfl, hw⟩; replace H := H.call hw; clear hw) | (exact bodyPost_ret (results_H2 rfl H (by repeat (first | exact Found.here | apply Found.there)) (by first | exact row23 | exact row39 | exact row41 | exact row34) rfl rfl) rfl ⟨rfl, H.grown⟩))
/-! The document's example. -/
def kd (j : Nat) : Int := match j with | 0 => 0 | 1 => 0 | 2 => 1 | 3 => 2 | _ => 3
def sz (j : Nat) : Int := match j with | 0 => 1500 | 1 => 500 | 2 => 1500 | 3 => 500 | _ => 0
def sn (j : Nat) : Int := match j with | 2 => 110 | _ => 0
def aa (j : Nat) : Int := match j with | 2 => 160 | 4 => 200 | _ => 0
def cntM : Nat → Mi
  | 0 => ⟨3, 100, -1, 0, 0, 0, 0, 0, 0, 0, 0, 0, 0, 0, 0⟩
  | 1 => ⟨3, 100, -1, 1500, 0, 0, 1, 0, 0, 0, 0, 0, 0, 0, 0⟩
  | 2 => ⟨3, 100, -1, 2000, 0, 0, 2, 0, 0, 0, 0, 0, 0, 0, 0⟩
  | 3 => ⟨3, 100, -1, 2000, 1500, 0, 2, 1, 0, 1, 10, 50, 100, 500, 2500⟩
  | 4 => ⟨3, 100, -1, 2000, 1500, 500, 2, 1, 1, 1, 10, 50, 100, 500, 2500⟩
  | _ => ⟨3, 100, 200, 2000, 1500, 500, 2, 1, 1, 1, 10, 50, 100, 500, 2500⟩
theorem cnt_open : openV 3 100 = cntM 0 ∧ openE 3 100 = 0 := by decide +kernel
theorem cnt_step : ∀ j, j < 5 → stepV (cntM j) (kd j) (sz j) (sn j) (aa j) = cntM (j + 1) ∧ stepE (cntM j) (kd j) (sz j) (sn j) (aa j) = 0 := by decide +kernel
theorem cnt_end : sendE (cntM 5) 1 = 15 ∧ doneB (cntM 5) = true ∧ sendV (cntM 5) 1 = zeroM := by decide +kernel
end Go.Proofs.Ytjhkbaadlicelaa
