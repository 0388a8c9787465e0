/-
  The reference's without, Peek, Next and All; two rows that are the same are told to be so. No conditions but the row's own, and that it is short.
-/
import Derived.Test.YtoonffglkadofaaGB
namespace Go.Proofs.Ytoonffglkadofaa
open Go.RowKit
set_option linter.unusedVariables false
attribute [local go_sem] Later.cell Later.frozen
theorem out_no {l : List Ev} {k i : Nat} (hi : i < l.length) (h : i ≠ k) : (l.take (i + 1)).eraseIdx k = (l.take i).eraseIdx k ++ [evp l i] := by
  rw [evp_get hi, List.take_succ_eq_append_getElem hi]
  by_cases hk : k < i
  · rw [List.eraseIdx_append_of_lt_length (by rw [List.length_take]; omega)]
  · rw [List.eraseIdx_of_length_le (by rw [List.length_append, List.length_take]; simp; omega), List.eraseIdx_of_length_le (by rw [List.length_take]; omega)]
theorem out_yes {l : List Ev} {i : Nat} (hi : i < l.length) : (l.take (i + 1)).eraseIdx i = (l.take i).eraseIdx i := by
  rw [List.take_succ_eq_append_getElem hi, List.eraseIdx_append_of_length_le (by rw [List.length_take]; omega), List.length_take, List.eraseIdx_of_length_le (k := i) (by rw [List.length_take]; omega)]
  simp [Nat.min_eq_left (Nat.le_of_lt hi)]
section
attribute [local go_sem ↓] append_shut
set_option maxHeartbeats 2000000 in
set_option maxRecDepth 100000 in
theorem without_any (ao : Option Addr) (n c k : Nat) (l : List Ev) (hl : l.length = n) (hn : n ≤ 1000) (hk : k ≤ 1000) (w : World) (E : Evs w ao n c (evp l)) :
    Calls Try.prog 24 #[.slice ao n c, .int .i64 k] w fun e w' => (∃ ao' n' c', e = .returned (.slice ao' n' c') ∧ w'.ownsRow w.heap.size 32 4 (.slice ao' n' c') n' (ecs (l.eraseIdx k))) ∧ Below w.heap.size w w' := by
  have hcap := E.cap
  have hmax := E.max
  have hmx : maxLen = 9223372036854775807 := rfl
  go_enter Try.func24, Try.ntmps24
  go_wp2_with fail
  go_loopw [5, 6] (fun v5 v6 wr => ∃ (i q : Nat) (ti : Option Addr) (tc : Nat), i ≤ n ∧ q ≤ i ∧ v6 = .int .i64 i ∧ v5 = .slice ti q tc ∧ wr.ownsRow w.heap.size 32 4 (.slice ti q tc) q (ecs ((l.take i).eraseIdx k)) ∧ Below w.heap.size w wr) (fun _ v6 _ => n - (intOf v6).toNat)
  case atStart => exact ⟨0, 0, none, 0, Nat.zero_le _, Nat.le_refl _, rfl, rfl, by rw [List.take_zero, List.eraseIdx_nil]; exact World.ownsRow_nil _ _ _ _, Below.refl _ _⟩
  case round =>
    obtain ⟨i, q, ti, tc, hi, hq, rfl, rfl, own, hB⟩ := hrel
    by_cases hin : i < n
    · have hin2 : (i : Int) < n := by omega
      obtain ⟨b, o, rfl, hbl, hc⟩ := (E.below hB).at' (by omega)
      obtain ⟨a0, a1, a2, a3⟩ := hc i hin
      clear hc
      by_cases hik : i = k
      · have hik2 : (i : Int) = k := by omega
        have hP : Hid ((l.take (i + 1)).eraseIdx k = (l.take i).eraseIdx k) := by show _ = _; rw [← hik]; exact out_yes (by omega)
        have hik3 : ((i : Int) == k) = true := by simp [hik]
        subst hik
        clear hik2 hik3
        go_wp2_with fail
        go_roundw
        case rel => exact ⟨i + 1, q, ti, tc, by omega, by omega, by go_num, rfl, by rw [hP.out]; exact own, hB⟩
        case measure => simp [intOf]; omega
      · have hik2 : ¬ (i : Int) = k := by omega
        have hP : Hid ((l.take (i + 1)).eraseIdx k = (l.take i).eraseIdx k ++ [evp l i]) := out_no (by omega) hik
        generalize evp l i = x at *
        generalize (l.take i).eraseIdx k = P at *
        obtain ⟨ta, td, w3, hr, own3, hgr, hv3⟩ := eapp_run 40 (own.alloc (.cells #[.int .i64 x.a, .int .i64 x.k, .int .i64 x.o, .int .u64 x.s] 32)) (by have := hB.size; simp; omega) (by omega) (At4.fresh wr (.int .i64 x.a) (.int .i64 x.k) (.int .i64 x.o) (.int .u64 x.s) 32)
        have hB3 : Below w.heap.size w w3 := Below.grown (hB.alloc hB.size _) hgr (by have := hB.size; simp; omega) (fun b hb => (own.lt b hb).1)
        clear own hgr hv3 hB
        go_wp2_with fail
        go_roundw
        case rel => exact ⟨i + 1, q + 1, ta, td, by omega, by omega, by go_num, rfl, by rw [hP.out]; exact own3, hB3⟩
        case measure => simp [intOf]; omega
    · obtain rfl : i = n := by omega
      rw [List.take_of_length_le (by omega)] at own
      go_wp2_with fail
      go_ret
      exact ⟨⟨ti, q, tc, rfl, own⟩, hB⟩
end
end Go.Proofs.Ytoonffglkadofaa
