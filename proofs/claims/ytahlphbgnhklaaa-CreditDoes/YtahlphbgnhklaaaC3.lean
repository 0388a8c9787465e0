/-
  The reference's shifts, bit by bit, are those of the numbers. No conditions but the numbers' own ranges.
-/
import Derived.Test.YtahlphbgnhklaaaC1
import Derived.Test.YtahlphbgnhklaaaA2
namespace Go.Proofs.Ytahlphbgnhklaaa
open Go.RowKit
set_option linter.unusedVariables false

set_option maxHeartbeats 800000 in
set_option maxRecDepth 100000 in
theorem refLeft_mid (a n : Int) (ha : W128 a) (h0 : 0 ≤ n) (h1 : n < 128) (w : World) :
    Calls Try.prog 46 #[.agg #[.int .u64 (hiw a), .int .u64 (low a)], .int .i64 n] w fun e w' => e = .returned (.agg #[.int .u64 (hiw (leftv a n)), .int .u64 (low (leftv a n))]) ∧ Below w.heap.size w w' := by
  go_enter Try.func46, Try.ntmps46
  go_wp2
  go_loopw [6] (fun i wr => ∃ k : Nat, ∃ o : Int, k ≤ 128 ∧ i = .int .i64 k ∧ Hid (LeftAt a n k o) ∧
      At2 wr w.heap.size (.int .u64 (hiw a)) (.int .u64 (low a)) ∧ At2 wr (w.heap.size + 1) (.int .u64 0) (.int .u64 0) ∧ At2 wr (w.heap.size + 1 + 1) (.int .u64 (hiw o)) (.int .u64 (low o)) ∧ Below w.heap.size w wr)
    (fun i _ => 128 - (intOf i).toNat)
  case atStart =>
    refine ⟨0, 0, by omega, rfl, LeftAt.zero a n, ?_, ?_, ?_, by go_grown⟩ <;> (constructor <;> simp [go_sem, hiw, low])
  case round =>
    obtain ⟨k, o, hk, rfl, HA, A0, A1, A2, hbel⟩ := hrel
    obtain ⟨x0, x1, x2, x3, x4⟩ := id A0
    obtain ⟨y0, y1, y2, y3, y4⟩ := id A1
    obtain ⟨z0, z1, z2, z3, z4⟩ := id A2
    by_cases hlt : k < 128
    · by_cases hs : (k : Int) + n < 128
      · go_wp2_with fail
        refine (bit_any a k ha (by omega) (by omega) _).mono ?_
        rintro e w1 ⟨rfl, hw1⟩
        have B0 := A0.below hw1 A0.lt
        have B1 := A1.below hw1 A1.lt
        have B2 := A2.below hw1 A2.lt
        have hbel1 := hbel.trans (hw1.mono hbel.size)
        clear x0 x1 x2 x3 x4 y0 y1 y2 y3 y4 z0 z1 z2 z3 z4 A0 A1 A2 hbel
        obtain ⟨z0, z1, z2, z3, z4⟩ := id B2
        by_cases hb : bitv a k = 1
        · have HA1 : Hid (LeftAt a n ((k : Int) + 1) (o + p2 ((k : Int) + n))) := HA.out.set (by omega) h0 hs hb
          have hz : Hid (bitv o ((k : Int) + n) = 0) := bit_below (HA.out.small (by omega) h0 (by omega)).2.1 (HA.out.small (by omega) h0 (by omega)).2.2
          have HB : Hid (bitv a k = 1) := hb
          have hbb : (bitv a k == 1) = true := by simpa using hb
          clear hb
          go_wp2_with fail
          refine (set_any o _ HA.out.W (by omega) (by omega) hz.out _).mono ?_
          rintro e w2 ⟨rfl, hw2⟩
          replace B0 := B0.below hw2 B0.lt
          replace B1 := B1.below hw2 B1.lt
          replace B2 := B2.below hw2 B2.lt
          have hbel2 := hbel1.trans (hw2.mono hbel1.size)
          clear z0 z1 z2 z3 z4 hbel1 hw1 hw2
          obtain ⟨z0, z1, z2, z3, z4⟩ := id B2
          go_wp2
          go_roundw
          case rel =>
            refine ⟨k + 1, _, by omega, by go_num, HA1, B0.others (by omega) _ _, B1.others (by omega) _ _, B2.put _ _, by go_grown⟩
          case measure => simp [intOf]; omega
        · have HA1 : Hid (LeftAt a n ((k : Int) + 1) o) := HA.out.keep (by omega) h0 (by omega)
          have hbb : (bitv a k == 1) = false := by simpa using hb
          clear hb
          go_wp2_with fail
          go_roundw
          case rel => exact ⟨k + 1, o, by omega, by go_num, HA1, B0, B1, B2, hbel1⟩
          case measure => simp [intOf]; omega
      · have HA1 : Hid (LeftAt a n ((k : Int) + 1) o) := HA.out.keep (by omega) h0 (by omega)
        go_wp2_with fail
        go_roundw
        case rel => exact ⟨k + 1, o, by omega, by go_num, HA1, A0, A1, A2, hbel⟩
        case measure => simp [intOf]; omega
    · go_wp2
      obtain rfl := LeftAt.done ha h0 h1 (by have e : (k : Int) = 128 := by omega
                                             rw [← e]; exact HA.out)
      have r0 := (A1.put0 (.int .u64 (hiw (leftv a n)))).c0
      have r1 := (A1.put (.int .u64 (hiw (leftv a n))) (.int .u64 (low (leftv a n)))).c1
      exact bodyPost_ret (v := .agg #[.int .u64 (hiw (leftv a n)), .int .u64 (low (leftv a n))]) (by simp [results, Try.results46, go_sem, r0, r1]) rfl ⟨rfl, by go_grown⟩

set_option maxHeartbeats 800000 in
set_option maxRecDepth 100000 in
theorem refLeft_any (a n : Int) (ha : W128 a) (w : World) :
    Calls Try.prog 46 #[.agg #[.int .u64 (hiw a), .int .u64 (low a)], .int .i64 n] w fun e w' => e = .returned (.agg #[.int .u64 (hiw (leftv a n)), .int .u64 (low (leftv a n))]) ∧ Below w.heap.size w w' := by
  by_cases h0 : n < 0
  · have E : leftv a n = a := by unfold leftv; rw [if_pos h0]
    rw [E]; clear E
    go_enter Try.func46, Try.ntmps46
    go_wp2
    go_returns
    exact ⟨rfl, by go_grown⟩
  · by_cases h1 : n < 128
    · exact refLeft_mid a n ha (by omega) h1 w
    · have E : leftv a n = 0 := by unfold leftv; rw [if_neg h0, if_pos (by omega)]
      rw [E]; clear E
      go_enter Try.func46, Try.ntmps46
      go_wp2
      go_rounds 1
      go_returns
      exact ⟨rfl, by go_grown⟩

end Go.Proofs.Ytahlphbgnhklaaa
