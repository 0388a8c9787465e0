/-
  AccountLeft's walks: a step that is refused, and one that is taken. Conditions: what the step's answer says.
-/
import Derived.Test.YtjhkbaadlicelaaU17
import Derived.Test.YtjhkbaadlicelaaU21
import Derived.Deep.CutRange
import Derived.Deep.DeepCutAuto
namespace Go.Proofs.Ytjhkbaadlicelaa
open Go.RowKit
set_option linter.unusedVariables false
set_option maxHeartbeats 4000000 in
set_option maxRecDepth 100000 in
theorem walk_left0 (m : Mi) (k s x a E : Int) (hE : (E != 0) = true) (T0 : ∀ w, Calls Try.prog 22 #[.agg #[.int .i64 m.id, .int .i64 m.fr, .int .i64 m.to, .int .i64 m.se, .int .i64 m.ac, .int .i64 m.lo, .int .i64 m.pa, .int .i64 m.hi, .int .i64 m.dr, .int .i64 m.n, .int .i64 m.st, .int .i64 m.sr, .int .i64 m.tt, .int .i64 m.tr, .int .i64 m.rr], .agg #[.int .i64 k, .int .i64 s, .int .i64 x, .int .i64 a]] w fun e w' => e = .returned (.tuple #[.agg #[.int .i64 zeroM.id, .int .i64 zeroM.fr, .int .i64 zeroM.to, .int .i64 zeroM.se, .int .i64 zeroM.ac, .int .i64 zeroM.lo, .int .i64 zeroM.pa, .int .i64 zeroM.hi, .int .i64 zeroM.dr, .int .i64 zeroM.n, .int .i64 zeroM.st, .int .i64 zeroM.sr, .int .i64 zeroM.tt, .int .i64 zeroM.tr, .int .i64 zeroM.rr], .int .i64 E]) ∧ Below w.heap.size w w') (w : World) :
    Calls Try.prog 6 #[.agg #[.int .i64 m.id, .int .i64 m.fr, .int .i64 m.to, .int .i64 m.se, .int .i64 m.ac, .int .i64 m.lo, .int .i64 m.pa, .int .i64 m.hi, .int .i64 m.dr, .int .i64 m.n, .int .i64 m.st, .int .i64 m.sr, .int .i64 m.tt, .int .i64 m.tr, .int .i64 m.rr], .agg #[.int .i64 k, .int .i64 s, .int .i64 x, .int .i64 a]] w fun e w' => e = .returned (.bool true) ∧ Below w.heap.size w w' := by
  have H := Heap.nil w
  go_enter Try.func6, Try.ntmps6
  go_wp2_with (first | ((first | ((with_reducible refine at_plain ?_); intro K hK) | go_guarded); first | ((with_reducible refine at_ld ?_); first | (refine wpH_ldA rfl rfl H (by repeat (first | exact Found.here | apply Found.there)) (by first | exact row23 | exact row39 | exact row41 | exact row34) ?_) | (refine wpH_ld1 rfl rfl H (by repeat (first | exact Found.here | apply Found.there)) (by first | exact one3 | exact one4 | exact one24) (by rfl) ?_)) | ((with_reducible refine at_st ?_); first | (refine wpH_stA rfl rfl rfl H (by repeat (first | exact Turned.here | apply Turned.there)) (by first | exact row23 | exact row39 | exact row41 | exact row34) (by rfl) (by kernel_rfl) ?_; clear H; intro wN H) | (refine wpH_st1 (v := .int _ _) rfl rfl rfl rfl rfl H (by first | exact one3 | exact one4 | exact one24) (by repeat (first | exact Found.here | apply Found.there)) (by repeat (first | exact SetAt.z | apply SetAt.s)) (by repeat (first | exact Turned.here | apply Turned.there)) ?_; clear H; intro wN H)) | ((with_reducible refine at_al ?_); refine wpH_al rfl (by first | exact zero23 | exact zero39 | exact zero41 | exact zero34) H ?_; clear H; intro bN wN H) | ((with_reducible refine at_bx ?_); refine wpH_bxA rfl rfl H ?_; clear H; intro bN wN H)) | (go_at_call 22; refine (T0 _).mono ?_; rintro e wN ⟨rfl, hw⟩; replace H := H.call hw; clear hw) | (go_at_call 17; refine (counted_any _).mono ?_; rintro e wN ⟨rfl, hw⟩; replace H := H.call hw; clear hw) | fail)
  go_ret
  exact ⟨rfl, H.grown⟩
attribute [local go_sem] Later.cell Later.frozen
set_option maxHeartbeats 8000000 in
set_option maxRecDepth 100000 in
theorem walk_left1 (m V : Mi) (k s x a B : Int) (T0 : ∀ w, Calls Try.prog 22 #[.agg #[.int .i64 m.id, .int .i64 m.fr, .int .i64 m.to, .int .i64 m.se, .int .i64 m.ac, .int .i64 m.lo, .int .i64 m.pa, .int .i64 m.hi, .int .i64 m.dr, .int .i64 m.n, .int .i64 m.st, .int .i64 m.sr, .int .i64 m.tt, .int .i64 m.tr, .int .i64 m.rr], .agg #[.int .i64 k, .int .i64 s, .int .i64 x, .int .i64 a]] w fun e w' => e = .returned (.tuple #[.agg #[.int .i64 V.id, .int .i64 V.fr, .int .i64 V.to, .int .i64 V.se, .int .i64 V.ac, .int .i64 V.lo, .int .i64 V.pa, .int .i64 V.hi, .int .i64 V.dr, .int .i64 V.n, .int .i64 V.st, .int .i64 V.sr, .int .i64 V.tt, .int .i64 V.tr, .int .i64 V.rr], .int .i64 0]) ∧ Below w.heap.size w w')
    (T1 : ∀ w, Calls Try.prog 18 #[.agg #[.int .i64 m.id, .int .i64 m.fr, .int .i64 m.to, .int .i64 m.se, .int .i64 m.ac, .int .i64 m.lo, .int .i64 m.pa, .int .i64 m.hi, .int .i64 m.dr, .int .i64 m.n, .int .i64 m.st, .int .i64 m.sr, .int .i64 m.tt, .int .i64 m.tr, .int .i64 m.rr]] w fun e w' => e = .returned (.bool true) ∧ Below w.heap.size w w')
    (T2 : ∀ w, Calls Try.prog 18 #[.agg #[.int .i64 V.id, .int .i64 V.fr, .int .i64 V.to, .int .i64 V.se, .int .i64 V.ac, .int .i64 V.lo, .int .i64 V.pa, .int .i64 V.hi, .int .i64 V.dr, .int .i64 V.n, .int .i64 V.st, .int .i64 V.sr, .int .i64 V.tt, .int .i64 V.tr, .int .i64 V.rr]] w fun e w' => e = .returned (.bool true) ∧ Below w.heap.size w w')
    (T3 : ∀ w, Calls Try.prog 20 #[.agg #[.int .i64 V.id, .int .i64 V.fr, .int .i64 V.to, .int .i64 V.se, .int .i64 V.ac, .int .i64 V.lo, .int .i64 V.pa, .int .i64 V.hi, .int .i64 V.dr, .int .i64 V.n, .int .i64 V.st, .int .i64 V.sr, .int .i64 V.tt, .int .i64 V.tr, .int .i64 V.rr]] w fun e w' => e = .returned (.bool (decide (0 ≤ V.to) && (V.pa - V.hi - V.dr == 0))) ∧ Below w.heap.size w w')
    (hB : Hid (byN k = B)) (B0 : -1 ≤ B) (B1 : B ≤ 1)
    (p0 : 0 ≤ m.pa) (p1 : m.pa ≤ 1048576) (h0 : 0 ≤ m.hi) (h1 : m.hi ≤ 1048576) (d0 : 0 ≤ m.dr) (d1 : m.dr ≤ 1048576)
    (P0 : 0 ≤ V.pa) (P1 : V.pa ≤ 1048576) (H0 : 0 ≤ V.hi) (H1 : V.hi ≤ 1048576) (D0 : 0 ≤ V.dr) (D1 : V.dr ≤ 1048576)
    (A0 : 0 ≤ V.ac) (A1 : V.ac ≤ 9437184000) (L0 : 0 ≤ V.lo) (L1 : V.lo ≤ 9437184000) 
    (is : (V.pa - V.hi - V.dr == m.pa - m.hi - m.dr + B) = true) (nn : 0 ≤ V.pa - V.hi - V.dr) (le : V.ac + V.lo ≤ V.se)
    (eqs : (V.ac + V.lo == V.se) = (V.pa - V.hi - V.dr == 0)) (id : (V.id == m.id) = true) (fr : (V.fr == m.fr) = true) (w : World) :
    Calls Try.prog 6 #[.agg #[.int .i64 m.id, .int .i64 m.fr, .int .i64 m.to, .int .i64 m.se, .int .i64 m.ac, .int .i64 m.lo, .int .i64 m.pa, .int .i64 m.hi, .int .i64 m.dr, .int .i64 m.n, .int .i64 m.st, .int .i64 m.sr, .int .i64 m.tt, .int .i64 m.tr, .int .i64 m.rr], .agg #[.int .i64 k, .int .i64 s, .int .i64 x, .int .i64 a]] w fun e w' => e = .returned (.bool true) ∧ Below w.heap.size w w' := by
  have H := Heap.nil w
  go_enter Try.func6, Try.ntmps6
  go_upto_if 42 with (first | ((first | ((with_reducible refine at_plain ?_); intro K hK) | go_guarded); first | ((with_reducible refine at_ld ?_); first | (refine wpH_ldA rfl rfl H (by repeat (first | exact Found.here | apply Found.there)) (by first | exact row23 | exact row39 | exact row41 | exact row34) ?_) | (refine wpH_ld1 rfl rfl H (by repeat (first | exact Found.here | apply Found.there)) (by first | exact one3 | exact one4 | exact one24) (by rfl) ?_)) | ((with_reducible refine at_st ?_); first | (refine wpH_stA rfl rfl rfl H (by repeat (first | exact Turned.here | apply Turned.there)) (by first | exact row23 | exact row39 | exact row41 | exact row34) (by rfl) (by kernel_rfl) ?_; clear H; intro wN H) | (refine wpH_st1 (v := .int _ _) rfl rfl rfl rfl rfl H (by first | exact one3 | exact one4 | exact one24) (by repeat (first | exact Found.here | apply Found.there)) (by repeat (first | exact SetAt.z | apply SetAt.s)) (by repeat (first | exact Turned.here | apply Turned.there)) ?_; clear H; intro wN H)) | ((with_reducible refine at_al ?_); refine wpH_al rfl (by first | exact zero23 | exact zero39 | exact zero41 | exact zero34) H ?_; clear H; intro bN wN H) | ((with_reducible refine at_bx ?_); refine wpH_bxA rfl rfl H ?_; clear H; intro bN wN H)) | (go_at_call 22; refine (T0 _).mono ?_; rintro e wN ⟨rfl, hw⟩; replace H := H.call hw; clear hw) | fail)
  clear T0
  rename_i q bm wa bs wb wd we k1 a1
  go_cut [9] (fun v wx => v = .int .i64 (if k = 0 then 1 else 0) ∧ Heap w wx [(bN, [.int .i64 V.id, .int .i64 V.fr, .int .i64 V.to, .int .i64 V.se, .int .i64 V.ac, .int .i64 V.lo, .int .i64 V.pa, .int .i64 V.hi, .int .i64 V.dr, .int .i64 V.n, .int .i64 V.st, .int .i64 V.sr, .int .i64 V.tt, .int .i64 V.tr, .int .i64 V.rr]), (bs, [.int .i64 k, .int .i64 s, .int .i64 x, .int .i64 a]), (bm, [.int .i64 m.id, .int .i64 m.fr, .int .i64 m.to, .int .i64 m.se, .int .i64 m.ac, .int .i64 m.lo, .int .i64 m.pa, .int .i64 m.hi, .int .i64 m.dr, .int .i64 m.n, .int .i64 m.st, .int .i64 m.sr, .int .i64 m.tt, .int .i64 m.tr, .int .i64 m.rr])])
  case first =>
    clear T1 T2 T3 is nn le eqs id fr p0 p1 h0 h1 d0 d1 P0 P1 H0 H1 D0 D1 A0 A1 L0 L1 hB
    by_cases hk : k = 0
    · have hb : (k == 0) = true := by simpa using hk
      go_wp2_with (first | ((first | ((with_reducible refine at_plain ?_); intro K hK) | go_guarded); first | ((with_reducible refine at_ld ?_); first | (refine wpH_ldA rfl rfl H (by repeat (first | exact Found.here | apply Found.there)) (by first | exact row23 | exact row39 | exact row41 | exact row34) ?_) | (refine wpH_ld1 rfl rfl H (by repeat (first | exact Found.here | apply Found.there)) (by first | exact one3 | exact one4 | exact one24) (by rfl) ?_)) | ((with_reducible refine at_st ?_); first | (refine wpH_stA rfl rfl rfl H (by repeat (first | exact Turned.here | apply Turned.there)) (by first | exact row23 | exact row39 | exact row41 | exact row34) (by rfl) (by kernel_rfl) ?_; clear H; intro wN H) | (refine wpH_st1 (v := .int _ _) rfl rfl rfl rfl rfl H (by first | exact one3 | exact one4 | exact one24) (by repeat (first | exact Found.here | apply Found.there)) (by repeat (first | exact SetAt.z | apply SetAt.s)) (by repeat (first | exact Turned.here | apply Turned.there)) ?_; clear H; intro wN H)) | ((with_reducible refine at_al ?_); refine wpH_al rfl (by first | exact zero23 | exact zero39 | exact zero41 | exact zero34) H ?_; clear H; intro bN wN H) | ((with_reducible refine at_bx ?_); refine wpH_bxA rfl rfl H ?_; clear H; intro bN wN H)) | fail)
      go_meet
      case rel => exact ⟨by rw [if_pos hk], H⟩
    · have hb : (k == 0) = false := by simpa using hk
      go_wp2_with (first | ((first | ((with_reducible refine at_plain ?_); intro K hK) | go_guarded); first | ((with_reducible refine at_ld ?_); first | (refine wpH_ldA rfl rfl H (by repeat (first | exact Found.here | apply Found.there)) (by first | exact row23 | exact row39 | exact row41 | exact row34) ?_) | (refine wpH_ld1 rfl rfl H (by repeat (first | exact Found.here | apply Found.there)) (by first | exact one3 | exact one4 | exact one24) (by rfl) ?_)) | ((with_reducible refine at_st ?_); first | (refine wpH_stA rfl rfl rfl H (by repeat (first | exact Turned.here | apply Turned.there)) (by first | exact row23 | exact row39 | exact row41 | exact row34) (by rfl) (by kernel_rfl) ?_; clear H; intro wN H) | (refine wpH_st1 (v := .int _ _) rfl rfl rfl rfl rfl H (by first | exact one3 | exact one4 | exact one24) (by repeat (first | exact Found.here | apply Found.there)) (by repeat (first | exact SetAt.z | apply SetAt.s)) (by repeat (first | exact Turned.here | apply Turned.there)) ?_; clear H; intro wN H)) | ((with_reducible refine at_al ?_); refine wpH_al rfl (by first | exact zero23 | exact zero39 | exact zero41 | exact zero34) H ?_; clear H; intro bN wN H) | ((with_reducible refine at_bx ?_); refine wpH_bxA rfl rfl H ?_; clear H; intro bN wN H)) | fail)
      go_meet
      case rel => exact ⟨by rw [if_neg hk], H⟩
  case rest =>
    obtain ⟨rfl, H⟩ := hcut
    obtain ⟨v9, hv⟩ : ∃ v9 : Int, Hid ((if k = 0 then 1 else 0) = v9) := ⟨_, rfl⟩
    rw [hv.out]
    go_upto_region 9 with (first | ((first | ((with_reducible refine at_plain ?_); intro K hK) | go_guarded); first | ((with_reducible refine at_ld ?_); first | (refine wpH_ldA rfl rfl H (by repeat (first | exact Found.here | apply Found.there)) (by first | exact row23 | exact row39 | exact row41 | exact row34) ?_) | (refine wpH_ld1 rfl rfl H (by repeat (first | exact Found.here | apply Found.there)) (by first | exact one3 | exact one4 | exact one24) (by rfl) ?_)) | ((with_reducible refine at_st ?_); first | (refine wpH_stA rfl rfl rfl H (by repeat (first | exact Turned.here | apply Turned.there)) (by first | exact row23 | exact row39 | exact row41 | exact row34) (by rfl) (by kernel_rfl) ?_; clear H; intro wN H) | (refine wpH_st1 (v := .int _ _) rfl rfl rfl rfl rfl H (by first | exact one3 | exact one4 | exact one24) (by repeat (first | exact Found.here | apply Found.there)) (by repeat (first | exact SetAt.z | apply SetAt.s)) (by repeat (first | exact Turned.here | apply Turned.there)) ?_; clear H; intro wN H)) | ((with_reducible refine at_al ?_); refine wpH_al rfl (by first | exact zero23 | exact zero39 | exact zero41 | exact zero34) H ?_; clear H; intro bN wN H) | ((with_reducible refine at_bx ?_); refine wpH_bxA rfl rfl H ?_; clear H; intro bN wN H)) | fail)
    go_cut [50] (fun v wx => v = .bool (decide (k = 1 ∨ k = 2)) ∧ Heap w wx [(bN, [.int .i64 V.id, .int .i64 V.fr, .int .i64 V.to, .int .i64 V.se, .int .i64 V.ac, .int .i64 V.lo, .int .i64 V.pa, .int .i64 V.hi, .int .i64 V.dr, .int .i64 V.n, .int .i64 V.st, .int .i64 V.sr, .int .i64 V.tt, .int .i64 V.tr, .int .i64 V.rr]), (bs, [.int .i64 k, .int .i64 s, .int .i64 x, .int .i64 a]), (bm, [.int .i64 m.id, .int .i64 m.fr, .int .i64 m.to, .int .i64 m.se, .int .i64 m.ac, .int .i64 m.lo, .int .i64 m.pa, .int .i64 m.hi, .int .i64 m.dr, .int .i64 m.n, .int .i64 m.st, .int .i64 m.sr, .int .i64 m.tt, .int .i64 m.tr, .int .i64 m.rr])])
    case first =>
      clear T1 T2 T3 is nn le eqs id fr p0 p1 h0 h1 d0 d1 P0 P1 H0 H1 D0 D1 A0 A1 L0 L1 hB
      by_cases hk : k = 1
      · have hb : (k == 1) = true := by simpa using hk
        have e : Hid (decide (k = 1 ∨ k = 2) = true) := decide_eq_true (.inl hk)
        clear hk
        go_wp2_with (first | ((first | ((with_reducible refine at_plain ?_); intro K hK) | go_guarded); first | ((with_reducible refine at_ld ?_); first | (refine wpH_ldA rfl rfl H (by repeat (first | exact Found.here | apply Found.there)) (by first | exact row23 | exact row39 | exact row41 | exact row34) ?_) | (refine wpH_ld1 rfl rfl H (by repeat (first | exact Found.here | apply Found.there)) (by first | exact one3 | exact one4 | exact one24) (by rfl) ?_)) | ((with_reducible refine at_st ?_); first | (refine wpH_stA rfl rfl rfl H (by repeat (first | exact Turned.here | apply Turned.there)) (by first | exact row23 | exact row39 | exact row41 | exact row34) (by rfl) (by kernel_rfl) ?_; clear H; intro wN H) | (refine wpH_st1 (v := .int _ _) rfl rfl rfl rfl rfl H (by first | exact one3 | exact one4 | exact one24) (by repeat (first | exact Found.here | apply Found.there)) (by repeat (first | exact SetAt.z | apply SetAt.s)) (by repeat (first | exact Turned.here | apply Turned.there)) ?_; clear H; intro wN H)) | ((with_reducible refine at_al ?_); refine wpH_al rfl (by first | exact zero23 | exact zero39 | exact zero41 | exact zero34) H ?_; clear H; intro bN wN H) | ((with_reducible refine at_bx ?_); refine wpH_bxA rfl rfl H ?_; clear H; intro bN wN H)) | fail)
        go_meet
        case rel => exact ⟨by rw [e.out], H⟩
      · have hb : (k == 1) = false := by simpa using hk
        go_wp2_with (first | ((first | ((with_reducible refine at_plain ?_); intro K hK) | go_guarded); first | ((with_reducible refine at_ld ?_); first | (refine wpH_ldA rfl rfl H (by repeat (first | exact Found.here | apply Found.there)) (by first | exact row23 | exact row39 | exact row41 | exact row34) ?_) | (refine wpH_ld1 rfl rfl H (by repeat (first | exact Found.here | apply Found.there)) (by first | exact one3 | exact one4 | exact one24) (by rfl) ?_)) | ((with_reducible refine at_st ?_); first | (refine wpH_stA rfl rfl rfl H (by repeat (first | exact Turned.here | apply Turned.there)) (by first | exact row23 | exact row39 | exact row41 | exact row34) (by rfl) (by kernel_rfl) ?_; clear H; intro wN H) | (refine wpH_st1 (v := .int _ _) rfl rfl rfl rfl rfl H (by first | exact one3 | exact one4 | exact one24) (by repeat (first | exact Found.here | apply Found.there)) (by repeat (first | exact SetAt.z | apply SetAt.s)) (by repeat (first | exact Turned.here | apply Turned.there)) ?_; clear H; intro wN H)) | ((with_reducible refine at_al ?_); refine wpH_al rfl (by first | exact zero23 | exact zero39 | exact zero41 | exact zero34) H ?_; clear H; intro bN wN H) | ((with_reducible refine at_bx ?_); refine wpH_bxA rfl rfl H ?_; clear H; intro bN wN H)) | fail)
        go_meet
        case rel => exact ⟨congrArg Value.bool (by rw [beq_dec]; simp [hk]), H⟩
    case rest =>
      obtain ⟨rfl, H⟩ := hcut
      go_upto_if 50 with (first | ((first | ((with_reducible refine at_plain ?_); intro K hK) | go_guarded); first | ((with_reducible refine at_ld ?_); first | (refine wpH_ldA rfl rfl H (by repeat (first | exact Found.here | apply Found.there)) (by first | exact row23 | exact row39 | exact row41 | exact row34) ?_) | (refine wpH_ld1 rfl rfl H (by repeat (first | exact Found.here | apply Found.there)) (by first | exact one3 | exact one4 | exact one24) (by rfl) ?_)) | ((with_reducible refine at_st ?_); first | (refine wpH_stA rfl rfl rfl H (by repeat (first | exact Turned.here | apply Turned.there)) (by first | exact row23 | exact row39 | exact row41 | exact row34) (by rfl) (by kernel_rfl) ?_; clear H; intro wN H) | (refine wpH_st1 (v := .int _ _) rfl rfl rfl rfl rfl H (by first | exact one3 | exact one4 | exact one24) (by repeat (first | exact Found.here | apply Found.there)) (by repeat (first | exact SetAt.z | apply SetAt.s)) (by repeat (first | exact Turned.here | apply Turned.there)) ?_; clear H; intro wN H)) | ((with_reducible refine at_al ?_); refine wpH_al rfl (by first | exact zero23 | exact zero39 | exact zero41 | exact zero34) H ?_; clear H; intro bN wN H) | ((with_reducible refine at_bx ?_); refine wpH_bxA rfl rfl H ?_; clear H; intro bN wN H)) | fail)
      go_cut [9] (fun v wx => v = .int .i64 B ∧ Heap w wx [(bN, [.int .i64 V.id, .int .i64 V.fr, .int .i64 V.to, .int .i64 V.se, .int .i64 V.ac, .int .i64 V.lo, .int .i64 V.pa, .int .i64 V.hi, .int .i64 V.dr, .int .i64 V.n, .int .i64 V.st, .int .i64 V.sr, .int .i64 V.tt, .int .i64 V.tr, .int .i64 V.rr]), (bs, [.int .i64 k, .int .i64 s, .int .i64 x, .int .i64 a]), (bm, [.int .i64 m.id, .int .i64 m.fr, .int .i64 m.to, .int .i64 m.se, .int .i64 m.ac, .int .i64 m.lo, .int .i64 m.pa, .int .i64 m.hi, .int .i64 m.dr, .int .i64 m.n, .int .i64 m.st, .int .i64 m.sr, .int .i64 m.tt, .int .i64 m.tr, .int .i64 m.rr])])
      case first =>
        clear T1 T2 T3 is nn le eqs id fr p0 p1 h0 h1 d0 d1 P0 P1 H0 H1 D0 D1 A0 A1 L0 L1
        by_cases hk : k = 1 ∨ k = 2
        · rw [decide_eq_true hk]
          go_wp2_with (first | ((first | ((with_reducible refine at_plain ?_); intro K hK) | go_guarded); first | ((with_reducible refine at_ld ?_); first | (refine wpH_ldA rfl rfl H (by repeat (first | exact Found.here | apply Found.there)) (by first | exact row23 | exact row39 | exact row41 | exact row34) ?_) | (refine wpH_ld1 rfl rfl H (by repeat (first | exact Found.here | apply Found.there)) (by first | exact one3 | exact one4 | exact one24) (by rfl) ?_)) | ((with_reducible refine at_st ?_); first | (refine wpH_stA rfl rfl rfl H (by repeat (first | exact Turned.here | apply Turned.there)) (by first | exact row23 | exact row39 | exact row41 | exact row34) (by rfl) (by kernel_rfl) ?_; clear H; intro wN H) | (refine wpH_st1 (v := .int _ _) rfl rfl rfl rfl rfl H (by first | exact one3 | exact one4 | exact one24) (by repeat (first | exact Found.here | apply Found.there)) (by repeat (first | exact SetAt.z | apply SetAt.s)) (by repeat (first | exact Turned.here | apply Turned.there)) ?_; clear H; intro wN H)) | ((with_reducible refine at_al ?_); refine wpH_al rfl (by first | exact zero23 | exact zero39 | exact zero41 | exact zero34) H ?_; clear H; intro bN wN H) | ((with_reducible refine at_bx ?_); refine wpH_bxA rfl rfl H ?_; clear H; intro bN wN H)) | fail)
          go_meet
          case rel => exact ⟨by rw [← hB.out]; unfold byN; rw [if_neg (by omega), if_pos hk], H⟩
        · rw [decide_eq_false hk]
          go_wp2_with (first | ((first | ((with_reducible refine at_plain ?_); intro K hK) | go_guarded); first | ((with_reducible refine at_ld ?_); first | (refine wpH_ldA rfl rfl H (by repeat (first | exact Found.here | apply Found.there)) (by first | exact row23 | exact row39 | exact row41 | exact row34) ?_) | (refine wpH_ld1 rfl rfl H (by repeat (first | exact Found.here | apply Found.there)) (by first | exact one3 | exact one4 | exact one24) (by rfl) ?_)) | ((with_reducible refine at_st ?_); first | (refine wpH_stA rfl rfl rfl H (by repeat (first | exact Turned.here | apply Turned.there)) (by first | exact row23 | exact row39 | exact row41 | exact row34) (by rfl) (by kernel_rfl) ?_; clear H; intro wN H) | (refine wpH_st1 (v := .int _ _) rfl rfl rfl rfl rfl H (by first | exact one3 | exact one4 | exact one24) (by repeat (first | exact Found.here | apply Found.there)) (by repeat (first | exact SetAt.z | apply SetAt.s)) (by repeat (first | exact Turned.here | apply Turned.there)) ?_; clear H; intro wN H)) | ((with_reducible refine at_al ?_); refine wpH_al rfl (by first | exact zero23 | exact zero39 | exact zero41 | exact zero34) H ?_; clear H; intro bN wN H) | ((with_reducible refine at_bx ?_); refine wpH_bxA rfl rfl H ?_; clear H; intro bN wN H)) | fail)
          go_meet
          case rel => exact ⟨by rw [← hB.out, ← hv.out]; unfold byN; rw [if_neg hk], H⟩
      case rest =>
        obtain ⟨rfl, H⟩ := hcut
        go_wp2_with (first | ((first | ((with_reducible refine at_plain ?_); intro K hK) | go_guarded); first | ((with_reducible refine at_ld ?_); first | (refine wpH_ldA rfl rfl H (by repeat (first | exact Found.here | apply Found.there)) (by first | exact row23 | exact row39 | exact row41 | exact row34) ?_) | (refine wpH_ld1 rfl rfl H (by repeat (first | exact Found.here | apply Found.there)) (by first | exact one3 | exact one4 | exact one24) (by rfl) ?_)) | ((with_reducible refine at_st ?_); first | (refine wpH_stA rfl rfl rfl H (by repeat (first | exact Turned.here | apply Turned.there)) (by first | exact row23 | exact row39 | exact row41 | exact row34) (by rfl) (by kernel_rfl) ?_; clear H; intro wN H) | (refine wpH_st1 (v := .int _ _) rfl rfl rfl rfl rfl H (by first | exact one3 | exact one4 | exact one24) (by repeat (first | exact Found.here | apply Found.there)) (by repeat (first | exact SetAt.z | apply SetAt.s)) (by repeat (first | exact Turned.here | apply Turned.there)) ?_; clear H; intro wN H)) | ((with_reducible refine at_al ?_); refine wpH_al rfl (by first | exact zero23 | exact zero39 | exact zero41 | exact zero34) H ?_; clear H; intro bN wN H) | ((with_reducible refine at_bx ?_); refine wpH_bxA rfl rfl H ?_; clear H; intro bN wN H)) | fail)
        have hM := H.found (.there (.there .here))
        have hV := H.found .here
        have lM := hM.2.lt
        have lV := hV.2.lt
        have c0 := hM.2.cell (i := 0) rfl
        have c1 := hM.2.cell (i := 1) rfl
        have c2 := hM.2.cell (i := 2) rfl
        have c3 := hM.2.cell (i := 3) rfl
        have c4 := hM.2.cell (i := 4) rfl
        have c5 := hM.2.cell (i := 5) rfl
        have c6 := hM.2.cell (i := 6) rfl
        have c7 := hM.2.cell (i := 7) rfl
        have c8 := hM.2.cell (i := 8) rfl
        have c9 := hM.2.cell (i := 9) rfl
        have c10 := hM.2.cell (i := 10) rfl
        have c11 := hM.2.cell (i := 11) rfl
        have c12 := hM.2.cell (i := 12) rfl
        have c13 := hM.2.cell (i := 13) rfl
        have c14 := hM.2.cell (i := 14) rfl
        have y0 := hV.2.cell (i := 0) rfl
        have y1 := hV.2.cell (i := 1) rfl
        have y2 := hV.2.cell (i := 2) rfl
        have y3 := hV.2.cell (i := 3) rfl
        have y4 := hV.2.cell (i := 4) rfl
        have y5 := hV.2.cell (i := 5) rfl
        have y6 := hV.2.cell (i := 6) rfl
        have y7 := hV.2.cell (i := 7) rfl
        have y8 := hV.2.cell (i := 8) rfl
        have y9 := hV.2.cell (i := 9) rfl
        have y10 := hV.2.cell (i := 10) rfl
        have y11 := hV.2.cell (i := 11) rfl
        have y12 := hV.2.cell (i := 12) rfl
        have y13 := hV.2.cell (i := 13) rfl
        have y14 := hV.2.cell (i := 14) rfl
        clear hM hV hB hv
        have G := H.grown
        clear H
        have j0 : -3000000 ≤ m.pa - m.hi - m.dr ∧ m.pa - m.hi - m.dr ≤ 3000000 := by omega
        obtain ⟨j0, j1⟩ := j0
        generalize hI : V.pa - V.hi - V.dr = I at *
        generalize hJ : m.pa - m.hi - m.dr = J at *
        clear hI hJ
        generalize hz : (I == 0) = z at T3 eqs
        dsimp only [List.append]
        have hne : Nonempty (Later wc) := Later.ne wc
        refine wp_region_later (by kernel_rfl) (by as_aux_lemma => kernel_rfl) ?_
        generalize ht : decide (0 ≤ V.to) = y at T3
        repeat (go_big_quiet_step (first | (go_at_call 17; exact Later.call _ (counted_any _)) | (go_at_call_of 18 (Value.int IntKind.i64 m.pa); exact Later.call _ (T1 _)) | (go_at_call_of 18 (Value.int IntKind.i64 V.pa); exact Later.call _ (T2 _)) | (go_at_call 20; exact Later.call _ (T3 _))))
        cases y
        all_goals
          repeat (go_big_quiet_step (fail))
          refine wpQuiet_nil ?_
          rintro w5 ⟨⟨_, hw5⟩, rfl⟩
          go_wp2
          go_ret
          exact ⟨rfl, Below.call G G.size hw5⟩
end Go.Proofs.Ytjhkbaadlicelaa
