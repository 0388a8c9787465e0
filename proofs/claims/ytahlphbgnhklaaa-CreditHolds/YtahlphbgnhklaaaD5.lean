/-
  bits.Div64, walked: quotient and rest of a number of 128 bits by one of 64 that is above its upper half. No other condition.
-/
import Derived.Test.YtahlphbgnhklaaaD4
import Derived.Test.YtahlphbgnhklaaaA4
import Derived.Deep.CutBlock
import Derived.Deep.DeepCutAuto
namespace Go.Proofs.Ytahlphbgnhklaaa
open Go.RowKit
set_option linter.unusedVariables false

set_option maxHeartbeats 400000 in
theorem div64_zero (l y : Int) (l0 : 0 ≤ l) (l1 : l ≤ 18446744073709551615) (y0 : 0 < y) (y1 : y ≤ 18446744073709551615) (w : World) :
    Calls Try.prog 43 #[.int .u64 0, .int .u64 l, .int .u64 y] w fun e w' => e = .returned (.tuple #[.int .u64 (l / y), .int .u64 (l % y)]) ∧ Below w.heap.size w w' := by
  have hy : (y == 0) = false := by simp; omega
  have hd0 := Int.ediv_nonneg l0 (show 0 ≤ y by omega)
  have hd1 := Int.ediv_le_self y l0
  go_enter Try.func43, Try.ntmps43
  go_wp2
  go_quiet (fail)
  go_wp2
  go_ret2
  exact ⟨rfl, ⟨rfl, rfl, rfl, Nat.le_refl _, fun _ _ => rfl⟩⟩

set_option maxHeartbeats 2000000 in
set_option maxRecDepth 100000 in
theorem div64_pos (h l y s Yn Y1 Y0 U L D1 D0 Q q1 R1 Q2 q0 R2 : Int) (h0 : 0 < h) (hb : h < y) (l0 : 0 ≤ l) (l1 : l ≤ 18446744073709551615) (y1 : y ≤ 18446744073709551615)
    (s0 : 0 ≤ s) (s1 : s ≤ 63) (ES : Hid (64 - lenv y = s))
    (E1 : IntKind.u64.wrap (y * 2 ^ s.toNat) = Yn) (E3 : Yn / 4294967296 = Y1) (E2 : bits .and .u64 Yn 4294967295 = Y0)
    (E4 : bits .or .u64 (IntKind.u64.wrap (h * 2 ^ s.toNat)) (l / 2 ^ (64 - s).toNat) = U) (E5 : IntKind.u64.wrap (l * 2 ^ s.toNat) = L)
    (E6 : L / 4294967296 = D1) (E7 : bits .and .u64 L 4294967295 = D0) (E8 : U / Y1 = Q)
    (E9 : IntKind.u64.wrap (IntKind.u64.wrap (IntKind.u64.wrap (U * 4294967296) + D1) - IntKind.u64.wrap (q1 * Yn)) = R1) (E10 : R1 / Y1 = Q2)
    (E11 : IntKind.u64.wrap (IntKind.u64.wrap (IntKind.u64.wrap (R1 * 4294967296) + D0) - IntKind.u64.wrap (q0 * Yn)) = R2)
    (Hq1 : Hid (q1 = digit Y1 Y0 U D1)) (Hq0 : Hid (q0 = digit Y1 Y0 R1 D0)) (R2a : 0 ≤ R2) (R2b : R2 ≤ 18446744073709551615)
    (yn0 : 0 ≤ Yn) (yn1 : Yn ≤ 18446744073709551615) (hS1 : DStep Y1 Y0 U D1) (hS2 : DStep Y1 Y0 R1 D0) (R1b : R1 ≤ 18446744073709551615)
    (hU : U ≤ 18446744073709551615) (L0 : 0 ≤ L) (L1 : L ≤ 18446744073709551615) (w : World) :
    Calls Try.prog 43 #[.int .u64 h, .int .u64 l, .int .u64 y] w fun e w' => e = .returned (.tuple #[.int .u64 (q1 * 4294967296 + q0), .int .u64 (R2 / 2 ^ s.toNat)]) ∧ w' = w := by
  have hy : (y == 0) = false := by simp; omega
  have hh : (h == 0) = false := by simp; omega
  obtain ⟨y1a, y1b, y0a, y0b, ua, ub, da, db⟩ := id hS1
  obtain ⟨-, -, -, -, ra1, rb1, d0a, d0b⟩ := id hS2
  have st := hS1.start
  rw [E8] at st
  obtain ⟨I1, q0', q1', r1', p0, p1⟩ := st
  have HI : Hid (DInv Y1 Y0 U D1 Q (U - Q * Y1)) := I1
  clear I1
  have st2 := hS2.start
  rw [E10] at st2
  obtain ⟨I2, q0'', q1'', r1'', p0', p1'⟩ := st2
  have HI2 : Hid (DInv Y1 Y0 R1 D0 Q2 (R1 - Q2 * Y1)) := I2
  clear I2
  obtain ⟨x0, x1⟩ := hS1.digit_lt
  obtain ⟨x2, x3⟩ := hS2.digit_lt
  rw [← Hq1.out] at x0 x1
  rw [← Hq0.out] at x2 x3
  have HS1 : Hid (DStep Y1 Y0 U D1) := hS1
  have HS2 : Hid (DStep Y1 Y0 R1 D0) := hS2
  clear hS1 hS2
  have r0' : 0 ≤ U - Q * Y1 := HI.out.r0
  have r0'' : 0 ≤ R1 - Q2 * Y1 := HI2.out.r0
  go_enter Try.func43, Try.ntmps43
  go_wp2_with fail
  refine (zeros64_any y (by omega) y1 _).mono ?_
  rintro e w1 ⟨rfl, hw1⟩
  rw [hw1, ES.out]
  clear hw1 w1
  go_upto_block 0 with fail
  go_cut [15, 16] (fun v15 v16 wx => wx = w ∧ v15 = .int .u64 q1)
  case first =>
    go_wp2_with fail
    go_loop [15, 16] (fun vq v16 => ∃ q r : Int, vq = .int .u64 q ∧ v16 = .int .u64 r ∧ Hid (DInv Y1 Y0 U D1 q r) ∧ 0 ≤ q ∧ q ≤ 4294967297 ∧ 0 ≤ r ∧ r < 4294967296) (fun vq v16 => (intOf vq).toNat)
    case atStart => exact ⟨Q, U - Q * Y1, by rw [E8], rfl, HI, q0', q1', r0', r1'⟩
    case round =>
      obtain ⟨q, r, rfl, rfl, HD, qa, qb, ra, rb⟩ := hrel
      clear E1 E2 E3 E4 E5 E6 E7 E8 E9 E10 E11 HI p0 p1 p0' p1' hb HS2
      by_cases c1 : 4294967296 ≤ q
      · have HD2 : Hid (DInv Y1 Y0 U D1 (q - 1) (r + Y1)) := HD.out.dec HS1.out (.inl c1)
        by_cases c3 : 4294967296 ≤ r + Y1
        · have EQ : Hid (q - 1 = q1) := (HD2.out.brk HS1.out (by omega) c3).trans Hq1.out.symm
          go_wp2
          go_meet
          case rel => exact ⟨rfl, by rw [EQ.out]⟩
        · go_wp2
          go_round
          case rel => exact ⟨q - 1, r + Y1, rfl, rfl, HD2, by omega, by omega, by omega, by omega⟩
          case measure => simp [intOf]; omega
      · obtain ⟨m0, m1⟩ := HD.out.prod HS1.out (by omega)
        by_cases c2 : 4294967296 * r + D1 < q * Y0
        · have HD2 : Hid (DInv Y1 Y0 U D1 (q - 1) (r + Y1)) := HD.out.dec HS1.out (.inr c2)
          have qz : 0 < q := by
            have := HS1.out.digit_lt; have := HD2.out.ge; omega
          by_cases c3 : 4294967296 ≤ r + Y1
          · have EQ : Hid (q - 1 = q1) := (HD2.out.brk HS1.out (by omega) c3).trans Hq1.out.symm
            go_wp2
            go_meet
            case rel => exact ⟨rfl, by rw [EQ.out]⟩
          · go_wp2
            go_round
            case rel => exact ⟨q - 1, r + Y1, rfl, rfl, HD2, by omega, by omega, by omega, by omega⟩
            case measure => simp [intOf]; omega
        · have EQ : Hid (q = q1) := (HD.out.stop HS1.out c2).trans Hq1.out.symm
          go_wp2
          go_meet
          case rel => exact ⟨rfl, by rw [EQ.out]⟩
  case rest =>
    obtain ⟨rfl, rfl⟩ := hcut
    clear E1 E2 E3 E4 E5 E6 E7 E8 HI p0 p1 hb
    go_upto_block 2 with fail
    go_cut [16, 18] (fun v16 v18 wx => wx = wc ∧ v18 = .int .u64 q0)
    case first =>
      go_wp2_with fail
      go_loop [16, 18] (fun v16 vq => ∃ q r : Int, vq = .int .u64 q ∧ v16 = .int .u64 r ∧ Hid (DInv Y1 Y0 R1 D0 q r) ∧ 0 ≤ q ∧ q ≤ 4294967297 ∧ 0 ≤ r ∧ r < 4294967296) (fun v16 vq => (intOf vq).toNat)
      case atStart => exact ⟨Q2, R1 - Q2 * Y1, by rw [E10], rfl, HI2, q0'', q1'', r0'', r1''⟩
      case round =>
        obtain ⟨q, r, rfl, rfl, HD, qa, qb, ra, rb⟩ := hrel
        clear E9 E10 E11 HI2 p0' p1' HS1
        by_cases c1 : 4294967296 ≤ q
        · have HD2 : Hid (DInv Y1 Y0 R1 D0 (q - 1) (r + Y1)) := HD.out.dec HS2.out (.inl c1)
          by_cases c3 : 4294967296 ≤ r + Y1
          · have EQ : Hid (q - 1 = q0) := (HD2.out.brk HS2.out (by omega) c3).trans Hq0.out.symm
            go_wp2
            go_meet
            case rel => exact ⟨rfl, by rw [EQ.out]⟩
          · go_wp2
            go_round
            case rel => exact ⟨q - 1, r + Y1, rfl, rfl, HD2, by omega, by omega, by omega, by omega⟩
            case measure => simp [intOf]; omega
        · obtain ⟨m0, m1⟩ := HD.out.prod HS2.out (by omega)
          by_cases c2 : 4294967296 * r + D0 < q * Y0
          · have HD2 : Hid (DInv Y1 Y0 R1 D0 (q - 1) (r + Y1)) := HD.out.dec HS2.out (.inr c2)
            have qz : 0 < q := by
              have := HS2.out.digit_lt; have := HD2.out.ge; omega
            by_cases c3 : 4294967296 ≤ r + Y1
            · have EQ : Hid (q - 1 = q0) := (HD2.out.brk HS2.out (by omega) c3).trans Hq0.out.symm
              go_wp2
              go_meet
              case rel => exact ⟨rfl, by rw [EQ.out]⟩
            · go_wp2
              go_round
              case rel => exact ⟨q - 1, r + Y1, rfl, rfl, HD2, by omega, by omega, by omega, by omega⟩
              case measure => simp [intOf]; omega
          · have EQ : Hid (q = q0) := (HD.out.stop HS2.out c2).trans Hq0.out.symm
            go_wp2
            go_meet
            case rel => exact ⟨rfl, by rw [EQ.out]⟩
    case rest =>
      obtain ⟨rfl, rfl⟩ := hcut
      clear E9 E10 HI2 p0' p1'
      go_wp2
      go_ret2
      exact ⟨rfl, rfl⟩
end Go.Proofs.Ytahlphbgnhklaaa
