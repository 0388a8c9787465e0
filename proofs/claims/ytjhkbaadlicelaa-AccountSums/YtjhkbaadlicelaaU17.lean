/-
  The document's example is told. No conditions.
-/
import Derived.Test.YtjhkbaadlicelaaU16
import Derived.Deep.DeepCutAuto
import Derived.Deep.RegionHeld3
namespace Go.Proofs.Ytjhkbaadlicelaa
open Go.RowKit
set_option linter.unusedVariables false
/-- A whole row out of a block, whatever was made since. -/
theorem ld_since {P : Program} {w wr : World} {L : List (Nat × List Value)} {b : Nat} {vs : List Value} {ty : TypeId} (H : Heap w wr L) (hf : Found L b vs) (ht : RowT P ty vs.length) :
    ∀ w', Below wr.heap.size wr w' → (Instr.loadAt ty (.pointer (some ⟨b, 0, none⟩))).run P w' = .ok (.agg vs.toArray) w' := fun w' hb => by
  obtain ⟨⟨d, hu, hd⟩, hs⟩ := ht
  exact run_loadAt_mid w' b 0 ty vs d ((H.call hb).found hf).2.c hu hd hs
def stepsL : List Value := [.int .i64 0, .int .i64 1500, .int .i64 0, .int .i64 0, .int .i64 0, .int .i64 500, .int .i64 0, .int .i64 0, .int .i64 1, .int .i64 1500, .int .i64 110, .int .i64 160, .int .i64 2, .int .i64 500, .int .i64 0, .int .i64 0, .int .i64 3, .int .i64 0, .int .i64 0, .int .i64 200]
theorem AtM.zero (w : World) (t : TypeId) : AtM (w.alloc (.cells #[.int .i64 0, .int .i64 0, .int .i64 0, .int .i64 0, .int .i64 0, .int .i64 0, .int .i64 0, .int .i64 0, .int .i64 0, .int .i64 0, .int .i64 0, .int .i64 0, .int .i64 0, .int .i64 0, .int .i64 0] t)) w.heap.size zeroM := AtM.fresh w zeroM t
theorem below_thru {W X w1 : World} (h : Below W.heap.size W X) (h1 : Below X.heap.size X w1) : Below W.heap.size W w1 := h.trans (h1.mono h.size)
def field (j i : Nat) : Int := match i with | 0 => kd j | 1 => sz j | 2 => sn j | _ => aa j
theorem step_cell (j : Nat) (hj : j < 5) (i : Nat) (hi : i < 4) : stepsL[j * 4 + i]? = some (.int .i64 (field j i)) := by
  have h5 : j = 0 ∨ j = 1 ∨ j = 2 ∨ j = 3 ∨ j = 4 := by omega
  have h4 : i = 0 ∨ i = 1 ∨ i = 2 ∨ i = 3 := by omega
  rcases h5 with rfl | rfl | rfl | rfl | rfl <;> rcases h4 with rfl | rfl | rfl | rfl <;> rfl
set_option maxHeartbeats 4000000 in
set_option maxRecDepth 100000 in
theorem counted_any (w : World) : Calls Try.prog 17 #[] w fun e w' => e = .returned (.bool true) ∧ Below w.heap.size w w' := by
  have H := Heap.nil w
  have T0 := fun w => open_any 3 100 w
  rw [cnt_open.1, cnt_open.2] at T0
  go_enter Try.func17, Try.ntmps17
  go_wp2_with (first | ((first | ((with_reducible refine at_plain ?_); intro K hK) | go_guarded); first | ((with_reducible refine at_ld ?_); first | (refine wpH_ldA rfl rfl H (by repeat (first | exact Found.here | apply Found.there)) (by first | exact row23 | exact row39 | exact row41 | exact row34) ?_) | (refine wpH_ld1 rfl rfl H (by repeat (first | exact Found.here | apply Found.there)) (by first | exact one3 | exact one4 | exact one24) (by rfl) ?_)) | ((with_reducible refine at_st ?_); first | (refine wpH_stA rfl rfl rfl H (by repeat (first | exact Turned.here | apply Turned.there)) (by first | exact row23 | exact row39 | exact row41 | exact row34) (by rfl) (by kernel_rfl) ?_; clear H; intro wN H) | (refine wpH_st1 (v := .int _ _) rfl rfl rfl rfl rfl H (by first | exact one3 | exact one4 | exact one24) (by repeat (first | exact Found.here | apply Found.there)) (by repeat (first | exact SetAt.z | apply SetAt.s)) (by repeat (first | exact Turned.here | apply Turned.there)) ?_; clear H; intro wN H)) | ((with_reducible refine at_al ?_); refine wpH_al rfl (by first | exact zero23 | exact zero39 | exact zero41 | exact zero34) H ?_; clear H; intro bN wN H) | ((with_reducible refine at_bx ?_); refine wpH_bxA rfl rfl H ?_; clear H; intro bN wN H)) | (go_at_call 15; refine (T0 _).mono ?_; rintro e wN ⟨rfl, hw⟩; replace H := H.call hw; clear hw) | fail)
  go_loopw [2, 4] (fun e' i' wr => ∃ j : Nat, j ≤ 5 ∧ i' = .int .i64 j ∧ e' = .int .i64 0 ∧ Heap w wr [(wN.heap.size, stepsL), (bN, [.int .i64 (cntM j).id, .int .i64 (cntM j).fr, .int .i64 (cntM j).to, .int .i64 (cntM j).se, .int .i64 (cntM j).ac, .int .i64 (cntM j).lo, .int .i64 (cntM j).pa, .int .i64 (cntM j).hi, .int .i64 (cntM j).dr, .int .i64 (cntM j).n, .int .i64 (cntM j).st, .int .i64 (cntM j).sr, .int .i64 (cntM j).tt, .int .i64 (cntM j).tr, .int .i64 (cntM j).rr])]) (fun _ i' _ => 5 - (intOf i').toNat)
  case atStart => exact ⟨0, by omega, rfl, rfl, H.new _ _⟩
  case round =>
    obtain ⟨j, hj, rfl, rfl, HR⟩ := hrel
    by_cases h5 : j < 5
    · have CS := cnt_step j h5
      have x0 : -9223372036854775808 ≤ sn j ∧ sn j ≤ 9223372036854775807 := by unfold sn; split <;> omega
      have T := fun w => step_any (cntM j) (kd j) (sz j) (sn j) (aa j) x0.1 x0.2 w
      rw [CS.1, CS.2] at T
      have HB := HR.found (.there .here)
      have HS := HR.found .here
      have c0 := HB.2.cell (i := 0) rfl
      have c1 := HB.2.cell (i := 1) rfl
      have c2 := HB.2.cell (i := 2) rfl
      have c3 := HB.2.cell (i := 3) rfl
      have c4 := HB.2.cell (i := 4) rfl
      have c5 := HB.2.cell (i := 5) rfl
      have c6 := HB.2.cell (i := 6) rfl
      have c7 := HB.2.cell (i := 7) rfl
      have c8 := HB.2.cell (i := 8) rfl
      have c9 := HB.2.cell (i := 9) rfl
      have c10 := HB.2.cell (i := 10) rfl
      have c11 := HB.2.cell (i := 11) rfl
      have c12 := HB.2.cell (i := 12) rfl
      have c13 := HB.2.cell (i := 13) rfl
      have c14 := HB.2.cell (i := 14) rfl
      have d0 : wr.cell? ⟨wN.heap.size, j * 4, none⟩ = some (.int .i64 (kd j)) := HS.2.cell (step_cell j h5 0 (by omega))
      have d1 : wr.cell? ⟨wN.heap.size, j * 4 + 1, none⟩ = some (.int .i64 (sz j)) := HS.2.cell (step_cell j h5 1 (by omega))
      have d2 : wr.cell? ⟨wN.heap.size, j * 4 + 2, none⟩ = some (.int .i64 (sn j)) := HS.2.cell (step_cell j h5 2 (by omega))
      have d3 : wr.cell? ⟨wN.heap.size, j * 4 + 3, none⟩ = some (.int .i64 (aa j)) := HS.2.cell (step_cell j h5 3 (by omega))
      have lB := HB.2.lt
      have lS := HS.2.lt
      have hc : ∀ w', Below wr.heap.size wr w' → ∀ b o, b < wr.heap.size → w'.cell? ⟨b, o, none⟩ = wr.cell? ⟨b, o, none⟩ := fun w' h b o hb => h.cell (p := ⟨b, o, none⟩) hb
      clear HB HS
      go_wp2_with fail
      go_cut [5, 6] (fun v5 v6 wc => ∃ b5 : Nat, v5 = .pointer (some ⟨b5, 0, none⟩) ∧ v6 = .int .i64 0 ∧ Heap w wc [(b5, [.int .i64 (cntM (j + 1)).id, .int .i64 (cntM (j + 1)).fr, .int .i64 (cntM (j + 1)).to, .int .i64 (cntM (j + 1)).se, .int .i64 (cntM (j + 1)).ac, .int .i64 (cntM (j + 1)).lo, .int .i64 (cntM (j + 1)).pa, .int .i64 (cntM (j + 1)).hi, .int .i64 (cntM (j + 1)).dr, .int .i64 (cntM (j + 1)).n, .int .i64 (cntM (j + 1)).st, .int .i64 (cntM (j + 1)).sr, .int .i64 (cntM (j + 1)).tt, .int .i64 (cntM (j + 1)).tr, .int .i64 (cntM (j + 1)).rr]), (wN.heap.size, stepsL), (bN, [.int .i64 (cntM j).id, .int .i64 (cntM j).fr, .int .i64 (cntM j).to, .int .i64 (cntM j).se, .int .i64 (cntM j).ac, .int .i64 (cntM j).lo, .int .i64 (cntM j).pa, .int .i64 (cntM j).hi, .int .i64 (cntM j).dr, .int .i64 (cntM j).n, .int .i64 (cntM j).st, .int .i64 (cntM j).sr, .int .i64 (cntM j).tt, .int .i64 (cntM j).tr, .int .i64 (cntM j).rr])])
      case first =>
        clear T0 CS
        go_region_held3 (fun w' => Below wr.heap.size wr w') (go_grown)
          (first
            | (go_at_call 22; refine (T _).mono ?_; rintro e w1 ⟨rfl, hw1⟩; have g1 : Below wr.heap.size wr w1 := below_thru (by assumption) hw1; have z1 := g1.size; try (have Z : AtM w1 wr.heap.size zeroM := AtM.of hw1 (AtM.zero _ _).drew; obtain ⟨y0, y1, y2, y3, y4, y5, y6, y7, y8, y9, y10, y11, y12, y13, y14, yf, yl⟩ := Z)))
        · go_wp2_with fail
          go_meet
          case rel => exact ⟨_, rfl, rfl, (HR.call g1).new _ _⟩
        · go_wp2_with fail
          go_meet
          case rel =>
            have H2 := (HR.new _ _).drew.call hw1
            exact ⟨_, rfl, rfl, H2.turn .here (Turn.cells (us := [.int .i64 (cntM (j + 1)).id, .int .i64 (cntM (j + 1)).fr, .int .i64 (cntM (j + 1)).to, .int .i64 (cntM (j + 1)).se, .int .i64 (cntM (j + 1)).ac, .int .i64 (cntM (j + 1)).lo, .int .i64 (cntM (j + 1)).pa, .int .i64 (cntM (j + 1)).hi, .int .i64 (cntM (j + 1)).dr, .int .i64 (cntM (j + 1)).n, .int .i64 (cntM (j + 1)).st, .int .i64 (cntM (j + 1)).sr, .int .i64 (cntM (j + 1)).tt, .int .i64 (cntM (j + 1)).tr, .int .i64 (cntM (j + 1)).rr]) (H2.found .here).2 rfl)⟩
      case rest =>
        clear T T0 CS hc HR lB lS c0 c1 c2 c3 c4 c5 c6 c7 c8 c9 c10 c11 c12 c13 c14 d0 d1 d2 d3 H x0
        obtain ⟨b5, rfl, rfl, H⟩ := hcut
        go_wp2_with (first | ((first | ((with_reducible refine at_plain ?_); intro K hK) | go_guarded); first | ((with_reducible refine at_ld ?_); first | (refine wpH_ldA rfl rfl H (by repeat (first | exact Found.here | apply Found.there)) (by first | exact row23 | exact row39 | exact row41 | exact row34) ?_) | (refine wpH_ld1 rfl rfl H (by repeat (first | exact Found.here | apply Found.there)) (by first | exact one3 | exact one4 | exact one24) (by rfl) ?_)) | ((with_reducible refine at_st ?_); first | (refine wpH_stA rfl rfl rfl H (by repeat (first | exact Turned.here | apply Turned.there)) (by first | exact row23 | exact row39 | exact row41 | exact row34) (by rfl) (by kernel_rfl) ?_; clear H; intro wN H) | (refine wpH_st1 (v := .int _ _) rfl rfl rfl rfl rfl H (by first | exact one3 | exact one4 | exact one24) (by repeat (first | exact Found.here | apply Found.there)) (by repeat (first | exact SetAt.z | apply SetAt.s)) (by repeat (first | exact Turned.here | apply Turned.there)) ?_; clear H; intro wN H)) | ((with_reducible refine at_al ?_); refine wpH_al rfl (by first | exact zero23 | exact zero39 | exact zero41 | exact zero34) H ?_; clear H; intro bN wN H) | ((with_reducible refine at_bx ?_); refine wpH_bxA rfl rfl H ?_; clear H; intro bN wN H)) | fail)
        go_roundw
        case rel => exact ⟨j + 1, by omega, by go_num, rfl, H.tail⟩
        case measure => simp [intOf]; omega
    · obtain rfl : j = 5 := by omega
      clear T0 H
      have H : Heap w wr [(wN.heap.size, stepsL), (bN, [.int .i64 3, .int .i64 100, .int .i64 200, .int .i64 2000, .int .i64 1500, .int .i64 500, .int .i64 2, .int .i64 1, .int .i64 1, .int .i64 1, .int .i64 10, .int .i64 50, .int .i64 100, .int .i64 500, .int .i64 2500])] := HR
      clear HR
      have TS := fun w => send_any (cntM 5) 1 w
      have TD := fun w => done_any (cntM 5) w
      rw [cnt_end.1, cnt_end.2.2] at TS
      rw [cnt_end.2.1] at TD
      go_wp2_with (first | ((first | ((with_reducible refine at_plain ?_); intro K hK) | go_guarded); first | ((with_reducible refine at_ld ?_); first | (refine wpH_ldA rfl rfl H (by repeat (first | exact Found.here | apply Found.there)) (by first | exact row23 | exact row39 | exact row41 | exact row34) ?_) | (refine wpH_ld1 rfl rfl H (by repeat (first | exact Found.here | apply Found.there)) (by first | exact one3 | exact one4 | exact one24) (by rfl) ?_)) | ((with_reducible refine at_st ?_); first | (refine wpH_stA rfl rfl rfl H (by repeat (first | exact Turned.here | apply Turned.there)) (by first | exact row23 | exact row39 | exact row41 | exact row34) (by rfl) (by kernel_rfl) ?_; clear H; intro wN H) | (refine wpH_st1 (v := .int _ _) rfl rfl rfl rfl rfl H (by first | exact one3 | exact one4 | exact one24) (by repeat (first | exact Found.here | apply Found.there)) (by repeat (first | exact SetAt.z | apply SetAt.s)) (by repeat (first | exact Turned.here | apply Turned.there)) ?_; clear H; intro wN H)) | ((with_reducible refine at_al ?_); refine wpH_al rfl (by first | exact zero23 | exact zero39 | exact zero41 | exact zero34) H ?_; clear H; intro bN wN H) | ((with_reducible refine at_bx ?_); refine wpH_bxA rfl rfl H ?_; clear H; intro bN wN H)) | (go_at_call 7; refine (TS _).mono ?_; rintro e wN ⟨rfl, hw⟩; replace H := H.call hw; clear hw) | (go_at_call 20; refine (TD _).mono ?_; rintro e wN ⟨rfl, hw⟩; replace H := H.call hw; clear hw) | fail)
      go_ret
      exact ⟨rfl, H.grown⟩
end Go.Proofs.Ytjhkbaadlicelaa
