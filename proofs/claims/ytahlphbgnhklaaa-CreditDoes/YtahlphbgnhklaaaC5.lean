/-
  The reference's quotients, bit by bit, are those of the numbers. No conditions but the numbers' own ranges.
-/
import Derived.Test.YtahlphbgnhklaaaC2
import Derived.Test.YtahlphbgnhklaaaC4
namespace Go.Proofs.Ytahlphbgnhklaaa
open Go.RowKit
set_option linter.unusedVariables false

theorem leftv_1 {r : Int} (h0 : 0 ≤ r) (h1 : r ≤ 18446744073709551615) : leftv r 1 = 2 * r := by
  unfold leftv
  have e : p2 1 = 2 := by decide +kernel
  rw [if_neg (by omega), if_neg (by omega), e]; omega
theorem W128_of {r : Int} (h0 : 0 ≤ r) (h1 : r < 36893488147419103232) : W128 r := ⟨h0, by omega⟩
theorem hiw_small {d : Int} (h0 : 0 ≤ d) (h1 : d ≤ 18446744073709551615) : hiw d = 0 := by unfold hiw; omega
theorem low_small {d : Int} (h0 : 0 ≤ d) (h1 : d ≤ 18446744073709551615) : low d = d := by unfold low; omega

set_option maxHeartbeats 2000000 in
set_option maxRecDepth 100000 in
theorem refDiv_any (a d : Int) (ha : W128 a) (hd0 : 0 < d) (hd1 : d ≤ 18446744073709551615) (w : World) :
    Calls Try.prog 37 #[.agg #[.int .u64 (hiw a), .int .u64 (low a)], .int .u64 d] w fun e w' => e = .returned (.tuple #[.agg #[.int .u64 (hiw (a / d)), .int .u64 (low (a / d))], .int .u64 (a % d), .int .i64 0]) ∧ Below w.heap.size w w' := by
  have hdd : (d == 0) = false := by simp; omega
  have hWd : W128 d := ⟨by omega, by omega⟩
  go_enter Try.func37, Try.ntmps37
  go_wp2
  go_loopw [10] (fun i wr => ∃ k o r : Int, -1 ≤ k ∧ k ≤ 127 ∧ i = .int .i64 k ∧ Hid (DivAt a d (k + 1) o r) ∧
      At2 wr w.heap.size (.int .u64 (hiw a)) (.int .u64 (low a)) ∧ At2 wr (w.heap.size + 1) (.int .u64 0) (.int .u64 0) ∧ At2 wr (w.heap.size + 1 + 1) (.int .u64 (hiw o)) (.int .u64 (low o)) ∧
      At2 wr (w.heap.size + 1 + 1 + 1) (.int .u64 (hiw r)) (.int .u64 (low r)) ∧ At2 wr (w.heap.size + 1 + 1 + 1 + 1) (.int .u64 (hiw d)) (.int .u64 (low d)) ∧ Below w.heap.size w wr)
    (fun i _ => (intOf i + 1).toNat)
  case atStart =>
    refine ⟨127, 0, 0, by omega, by omega, rfl, DivAt.start ha hd0, ?_, ?_, ?_, ?_, ?_, by go_grown⟩
    case refine_5 =>
      rw [hiw_small (by omega) hd1, low_small (by omega) hd1]
      constructor <;> simp [go_sem]
    all_goals (constructor <;> simp [go_sem, hiw, low])
  case round =>
    obtain ⟨k, o, r, hk0, hk1, rfl, HA, A0, A1, A2, A3, A4, hbel⟩ := hrel
    obtain ⟨x0, x1, x2, x3, x4⟩ := id A0
    obtain ⟨y0, y1, y2, y3, y4⟩ := id A1
    obtain ⟨z0, z1, z2, z3, z4⟩ := id A2
    obtain ⟨u0, u1, u2, u3, u4⟩ := id A3
    by_cases hlt : 0 ≤ k
    · obtain ⟨r0, r1⟩ := HA.out.r_lt hd0
      have hWr : W128 r := W128_of r0 (by omega)
      have hWo : W128 o := HA.out.W ha hd0
      have HZ : Hid (bitv o k = 0) := HA.out.bit hlt
      have EL : Hid (leftv r 1 = 2 * r) := leftv_1 r0 (by omega)
      go_wp2_with fail
      refine (refLeft_any r 1 hWr _).mono ?_
      rintro e w1 ⟨rfl, hw1⟩
      rw [EL.out]
      have B0 := A0.below hw1 A0.lt
      have B1 := A1.below hw1 A1.lt
      have B2 := A2.below hw1 A2.lt
      have B3 := A3.below hw1 A3.lt
      have B4 := A4.below hw1 A4.lt
      have hb1 := Below.call hbel hbel.size hw1
      clear x0 x1 x2 x3 x4 y0 y1 y2 y3 y4 z0 z1 z2 z3 z4 u0 u1 u2 u3 u4 A0 A1 A2 A3 A4 hbel hw1
      obtain ⟨x0, x1, x2, x3, x4⟩ := id B0
      obtain ⟨u0, u1, u2, u3, u4⟩ := id B3
      go_wp2_with fail
      refine (bit_any a k ha hlt (by omega) _).mono ?_
      rintro e w2 ⟨rfl, hw2⟩
      replace B0 := (B0.others (c := (w.heap.size + 1 + 1 + 1)) (by omega) (.int .u64 (hiw (2 * r))) (.int .u64 (low (2 * r)))).below hw2 (by simpa using B0.lt)
      replace B1 := (B1.others (c := (w.heap.size + 1 + 1 + 1)) (by omega) (.int .u64 (hiw (2 * r))) (.int .u64 (low (2 * r)))).below hw2 (by simpa using B1.lt)
      replace B2 := (B2.others (c := (w.heap.size + 1 + 1 + 1)) (by omega) (.int .u64 (hiw (2 * r))) (.int .u64 (low (2 * r)))).below hw2 (by simpa using B2.lt)
      replace B4 := (B4.others (c := (w.heap.size + 1 + 1 + 1)) (by omega) (.int .u64 (hiw (2 * r))) (.int .u64 (low (2 * r)))).below hw2 (by simpa using B4.lt)
      replace B3 := (B3.put (.int .u64 (hiw (2 * r))) (.int .u64 (low (2 * r)))).below hw2 (by simpa using B3.lt)
      have hb2 := Below.call (show Below w.heap.size w _ by go_grown) (by simpa using hb1.size) hw2
      clear x0 x1 x2 x3 x4 u0 u1 u2 u3 u4 hb1 hw2
      go_upto_if 27 with fail
      go_cut [] (fun wc => At2 wc w.heap.size (.int .u64 (hiw a)) (.int .u64 (low a)) ∧ At2 wc (w.heap.size + 1) (.int .u64 0) (.int .u64 0) ∧ At2 wc (w.heap.size + 1 + 1) (.int .u64 (hiw o)) (.int .u64 (low o)) ∧
        At2 wc (w.heap.size + 1 + 1 + 1) (.int .u64 (hiw (2 * r + bitv a k))) (.int .u64 (low (2 * r + bitv a k))) ∧ At2 wc (w.heap.size + 1 + 1 + 1 + 1) (.int .u64 (hiw d)) (.int .u64 (low d)) ∧ Below w.heap.size w wc)
      case first =>
        obtain ⟨u0, u1, u2, u3, u4⟩ := id B3
        by_cases hb : bitv a k = 1
        · have hbb : (bitv a k == 1) = true := by simpa using hb
          have EX : Hid (2 * r + p2 0 = 2 * r + bitv a k) := by show _ = _; rw [hb]; rfl
          have HZ0 : Hid (bitv (2 * r) 0 = 0) := by show _ = _; unfold bitv; rw [p2_0, Int.ediv_one]; omega
          clear hb
          go_wp2_with fail
          refine (set_any (2 * r) 0 (W128_of (by omega) (by omega)) (by omega) (by omega) HZ0.out _).mono ?_
          rintro e w3 ⟨rfl, hw3⟩
          rw [EX.out]
          replace B0 := B0.below hw3 B0.lt
          replace B1 := B1.below hw3 B1.lt
          replace B2 := B2.below hw3 B2.lt
          replace B3 := B3.below hw3 B3.lt
          replace B4 := B4.below hw3 B4.lt
          have hb3 := Below.call hb2 hb2.size hw3
          clear u0 u1 u2 u3 u4 hb2 hw3
          obtain ⟨u0, u1, u2, u3, u4⟩ := id B3
          go_wp2_with fail
          go_meet
          case rel => exact ⟨B0.others (by omega) _ _, B1.others (by omega) _ _, B2.others (by omega) _ _, B3.put _ _, B4.others (by omega) _ _, by go_grown⟩
        · have hbb : (bitv a k == 1) = false := by simpa using hb
          have EX : 2 * r + bitv a k = 2 * r := by have := bitv_or a k; omega
          go_wp2_with fail
          go_meet
          case rel => rw [EX]; exact ⟨B0, B1, B2, B3, B4, hb2⟩
      case rest =>
        obtain ⟨C0, C1, C2, C3, C4, hbc⟩ := hcut
        clear B0 B1 B2 B3 B4 hb2
        obtain ⟨xx, HX⟩ : ∃ xx, Hid (xx = 2 * r + bitv a k) := ⟨_, rfl⟩
        have hWx : W128 xx := by have := HX.out; have := bitv_01 a k; exact W128_of (by omega) (by omega)
        rw [← HX.out] at C3
        obtain ⟨u0, u1, u2, u3, u4⟩ := id C3
        obtain ⟨v0, v1, v2, v3, v4⟩ := id C4
        go_wp2_with fail
        refine (refCmp_any xx d hWx hWd _).mono ?_
        rintro e w4 ⟨rfl, hw4⟩
        replace C0 := C0.below hw4 C0.lt
        replace C1 := C1.below hw4 C1.lt
        replace C2 := C2.below hw4 C2.lt
        replace C3 := C3.below hw4 C3.lt
        replace C4 := C4.below hw4 C4.lt
        replace hbc := Below.call hbc hbc.size hw4
        clear hw4 u0 u1 u2 u3 u4 v0 v1 v2 v3 v4
        obtain ⟨u0, u1, u2, u3, u4⟩ := id C3
        obtain ⟨v0, v1, v2, v3, v4⟩ := id C4
        by_cases hge : d ≤ xx
        · have hcmp : 0 ≤ cmpv xx d := by
            unfold cmpv; rw [if_neg (by omega)]; split <;> omega
          have HD : Hid (DivAt a d k (o + p2 k) (xx - d)) := HA.out.sub hlt hd0 HX.out hge
          have ES : Hid (subv xx d = xx - d) := by
            have := hWx.1; have := hWx.2; show subv xx d = _; unfold subv; omega
          clear hge
          go_wp2_with fail
          refine (refSub_any xx d hWx hWd _).mono ?_
          rintro e w5 ⟨rfl, hw5⟩
          rw [ES.out]
          replace C0 := C0.below hw5 C0.lt
          replace C1 := C1.below hw5 C1.lt
          replace C2 := C2.below hw5 C2.lt
          replace C3 := C3.below hw5 C3.lt
          replace C4 := C4.below hw5 C4.lt
          replace hbc := Below.call hbc hbc.size hw5
          clear hw5 u0 u1 u2 u3 u4 v0 v1 v2 v3 v4
          obtain ⟨z0, z1, z2, z3, z4⟩ := id C2
          obtain ⟨u0, u1, u2, u3, u4⟩ := id C3
          go_wp2_with fail
          refine (set_any o k hWo hlt (by omega) HZ.out _).mono ?_
          rintro e w6 ⟨rfl, hw6⟩
          have hx6 := hw6.size
          simp only [World.size_alloc, World.size_setCell] at hx6
          replace C0 := ((C0.others (c := (w.heap.size + 1 + 1 + 1)) (by omega) _ _).alloc _).below hw6 (by have := C0.lt; simp; omega)
          replace C1 := ((C1.others (c := (w.heap.size + 1 + 1 + 1)) (by omega) _ _).alloc _).below hw6 (by have := C1.lt; simp; omega)
          replace C2 := ((C2.others (c := (w.heap.size + 1 + 1 + 1)) (by omega) _ _).alloc _).below hw6 (by have := C2.lt; simp; omega)
          replace C4 := ((C4.others (c := (w.heap.size + 1 + 1 + 1)) (by omega) _ _).alloc _).below hw6 (by have := C4.lt; simp; omega)
          replace C3 := ((C3.put _ _).alloc _).below hw6 (by have := C3.lt; simp; omega)
          have hb6 := Below.call (show Below w.heap.size w _ by go_grown) (by have := hbc.size; simp; omega) hw6
          clear z0 z1 z2 z3 z4 u0 u1 u2 u3 u4 hw6 hbc
          obtain ⟨z0, z1, z2, z3, z4⟩ := id C2
          go_wp2
          go_roundw
          case rel =>
            exact ⟨k - 1, o + p2 k, xx - d, by omega, by omega, by go_num, by rw [show k - 1 + 1 = k by omega]; exact HD, C0.others (by omega) _ _, C1.others (by omega) _ _, C2.put _ _, C3.others (by omega) _ _, C4.others (by omega) _ _, by go_grown⟩
          case measure => simp [intOf]; omega
        · have hcmp : cmpv xx d < 0 := by
            unfold cmpv; rw [if_pos (by omega)]; omega
          have HD : Hid (DivAt a d k o xx) := HA.out.keep hlt hd0 HX.out (by omega)
          clear hge
          go_wp2_with fail
          go_roundw
          case rel => exact ⟨k - 1, o, xx, by omega, by omega, by go_num, by rw [show k - 1 + 1 = k by omega]; exact HD, C0, C1, C2, C3, C4, hbc⟩
          case measure => simp [intOf]; omega
    · have e : k + 1 = 0 := by omega
      have HF := HA.out
      rw [e] at HF
      obtain ⟨rfl, rfl⟩ := HF.done
      have m0 := Int.emod_nonneg a (show d ≠ 0 by omega)
      have m1 := Int.emod_lt_of_pos a hd0
      have EL : Hid (low (a % d) = a % d) := low_small m0 (by omega)
      go_wp2
      go_region
      all_goals
        rw [EL.out]
        go_wp2
        have r0 := (A1.put0 (.int .u64 (hiw (a / d)))).c0
        have r1 := (A1.put (.int .u64 (hiw (a / d))) (.int .u64 (low (a / d)))).c1
        exact bodyPost_ret (v := .tuple #[.agg #[.int .u64 (hiw (a / d)), .int .u64 (low (a / d))], .int .u64 (a % d), .int .i64 0]) (by simp [results, Try.results37, go_sem, r0, r1]) rfl ⟨rfl, by go_grown⟩
set_option maxHeartbeats 800000 in
set_option maxRecDepth 100000 in
theorem refDiv_0 (a : Int) (ha : W128 a) (w : World) :
    Calls Try.prog 37 #[.agg #[.int .u64 (hiw a), .int .u64 (low a)], .int .u64 0] w fun e w' => e = .returned (.tuple #[.agg #[.int .u64 0, .int .u64 0], .int .u64 0, .int .i64 1]) ∧ Below w.heap.size w w' := by
  go_enter Try.func37, Try.ntmps37
  go_wp2
  go_returns
  exact ⟨rfl, by go_grown⟩

end Go.Proofs.Ytahlphbgnhklaaa
