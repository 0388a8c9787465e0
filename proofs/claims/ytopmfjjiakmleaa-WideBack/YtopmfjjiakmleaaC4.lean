/-
  The reference's products, bit by bit, are those of the numbers. No conditions but the numbers' own ranges.
-/
import Derived.Test.YtopmfjjiakmleaaC3
import Derived.Deep.RegionHeld3
import Derived.Deep.DeepCutAuto
namespace Go.Proofs.Ytopmfjjiakmleaa
open Go.RowKit
set_option linter.unusedVariables false

theorem refLeft_hl (h l n : Int) (a0 : 0 ≤ h) (a1 : h ≤ 18446744073709551615) (b0 : 0 ≤ l) (b1 : l ≤ 18446744073709551615) (w : World) :
    Calls Try.prog 21 #[.agg #[.int .u64 h, .int .u64 l], .int .i64 n] w fun e w' => e = .returned (.agg #[.int .u64 (hiw (leftv (vv h l) n)), .int .u64 (low (leftv (vv h l) n))]) ∧ Below w.heap.size w w' := by
  have := refLeft_any (vv h l) n (vv_W a0 a1 b0 b1) w
  rwa [hiw_vv b0 b1, low_vv b0 b1] at this
theorem At2.alloc {w : World} {b : Nat} {x y : Value} (h : At2 w b x y) (o : Obj) : At2 (w.alloc o) b x y :=
  h.below (B := w.heap.size) ((Below.refl _ _).alloc (Nat.le_refl _) o) h.lt
theorem At2.fresh (w : World) (x y : Value) (t : TypeId) : At2 (w.alloc (.cells #[x, y] t)) w.heap.size x y := by
  constructor <;> simp [go_sem]
theorem At2.after_fresh {w w1 : World} {x y : Value} {t : TypeId} (hb : Below (w.alloc (.cells #[x, y] t)).drew.heap.size (w.alloc (.cells #[x, y] t)).drew w1) : At2 w1 w.heap.size x y :=
  At2.below (w := (w.alloc (.cells #[x, y] t)).drew) (At2.fresh w x y t).drew hb (by simp)
theorem At2.after_fresh' {w w1 : World} {x y : Value} {t : TypeId} (hb : Below (w.alloc (.cells #[x, y] t)).heap.size (w.alloc (.cells #[x, y] t)) w1) : At2 w1 w.heap.size x y :=
  At2.below (w := w.alloc (.cells #[x, y] t)) (At2.fresh w x y t) hb (by simp)
theorem Below.call {B : Nat} {W X w1 : World} (h : Below B W X) (hB : B ≤ X.heap.size) (h1 : Below X.heap.size X w1) : Below B W w1 := h.trans (h1.mono hB)

set_option maxHeartbeats 2000000 in
set_option maxRecDepth 100000 in
theorem refMul_any (x y : Int) (hx0 : 0 ≤ x) (hx1 : x ≤ 18446744073709551615) (hy0 : 0 ≤ y) (hy1 : y ≤ 18446744073709551615) (w : World) :
    Calls Try.prog 19 #[.int .u64 x, .int .u64 y] w fun e w' => e = .returned (.agg #[.int .u64 (hiw (x * y)), .int .u64 (low (x * y))]) ∧ Below w.heap.size w w' := by
  go_enter Try.func19, Try.ntmps19
  go_wp2
  go_loopw [6] (fun i wr => ∃ k : Nat, ∃ o : Int, k ≤ 64 ∧ i = .int .i64 k ∧ Hid (MulAt x y k o) ∧
      At2 wr w.heap.size (.int .u64 0) (.int .u64 0) ∧ At2 wr (w.heap.size + 1) (.int .u64 (hiw o)) (.int .u64 (low o)) ∧ Below w.heap.size w wr)
    (fun i _ => 64 - (intOf i).toNat)
  case atStart =>
    refine ⟨0, 0, by omega, rfl, MulAt.zero x y, ?_, ?_, by go_grown⟩ <;> (constructor <;> simp [go_sem, hiw, low])
  case round =>
    obtain ⟨k, o, hk, rfl, HA, A0, A1, hbel⟩ := hrel
    obtain ⟨x0, x1, x2, x3, x4⟩ := id A0
    obtain ⟨y0', y1', y2, y3, y4⟩ := id A1
    by_cases hlt : k < 64
    · have HB : Hid ((y / 2 ^ (k : Int).toNat).tmod 2 = bitv y k) := bit_small hy0
      by_cases hb : bitv y k = 1
      · have hbb : ((y / 2 ^ (k : Int).toNat).tmod 2 == 1) = true := by rw [HB.out]; simpa using hb
        simp only [Int.toNat_natCast] at hbb
        have HA1 : Hid (MulAt x y ((k : Int) + 1) (addv o (leftv x k))) := HA.out.set hx0 hx1 (by omega) (by omega) hb
        have hW : W128 o := HA.out.W hx0 hx1 (by omega) (by omega)
        have hWl : W128 (leftv (vv 0 x) k) := leftv_W (vv_W (by omega) (by omega) hx0 hx1) _
        clear hb
        go_wp2
        go_cut [7] (fun v7 wc => ∃ b7 : Nat, v7 = .pointer (some ⟨b7, 0, none⟩) ∧ b7 ≠ w.heap.size ∧ b7 ≠ (w.heap.size + 1) ∧ At2 wc b7 (.int .u64 (hiw (addv o (leftv (vv 0 x) k)))) (.int .u64 (low (addv o (leftv (vv 0 x) k)))) ∧ At2 wc w.heap.size (.int .u64 0) (.int .u64 0) ∧ At2 wc (w.heap.size + 1) (.int .u64 (hiw o)) (.int .u64 (low o)) ∧ Below w.heap.size w wc)
        case first =>
          go_region_held3 (fun w' => w'.cell? ⟨(w.heap.size + 1), 0, none⟩ = some (.int .u64 (hiw o)) ∧ w'.cell? ⟨(w.heap.size + 1), 1, none⟩ = some (.int .u64 (low o)) ∧ (w.heap.size + 1) < w'.heap.size)
            (first
              | (exact ⟨by assumption, by assumption, by assumption⟩)
              | (simp [*, go_sem]; done)
              | (simp [*, go_sem]; omega))
            (first
              | (go_at_call 21; refine (refLeft_hl 0 x k (by omega) (by omega) hx0 hx1 _).mono ?_; rintro e w1 ⟨rfl, hb1⟩; have g1 : Below wr.heap.size wr w1 := Below.call (by go_grown) (by simp) hb1; obtain ⟨q0, q1, _, _, q4⟩ := A1.below g1 A1.lt; have z1 := hb1.size; simp only [World.size_drew] at z1; try (have P := At2.after_fresh hb1; obtain ⟨p0, p1, p2, p3, p4⟩ := id P))
              | (go_at_call 10; refine (refAdd_any _ _ hW hWl _).mono ?_; rintro e w2 ⟨rfl, hb2⟩; have g2 : Below wr.heap.size wr w2 := Below.call (by go_grown) (by have := g1.size; simp; omega) hb2; obtain ⟨r0, r1, _, _, r4⟩ := A1.below g2 A1.lt; have z2 := hb2.size; first | (have P2 := P.below hb2 P.lt; obtain ⟨s0, s1, s2, s3, s4⟩ := id P2) | (have P2 := At2.after_fresh' hb2; obtain ⟨s0, s1, s2, s3, s4⟩ := id P2) | skip))
          · go_wp2_with fail
            go_meet
            case rel =>
              have lt := A1.lt
              have hbw := hbel.trans (g2.mono hbel.size)
              have l2 := g2.size
              exact ⟨w2.heap.size, rfl, by omega, by omega, At2.fresh _ _ _ _, (A0.below g2 A0.lt).alloc _, (A1.below g2 A1.lt).alloc _, by go_grown⟩
          · go_wp2_with fail
            go_meet
            case rel =>
              have lt := A1.lt
              have hbw := hbel.trans (g2.mono hbel.size)
              have l1 := g1.size
              exact ⟨w1.heap.size, rfl, by omega, by omega, P2.put _ _, (A0.below g2 A0.lt).others (by omega) _ _, (A1.below g2 A1.lt).others (by omega) _ _, by go_grown⟩
          · go_wp2_with fail
            go_meet
            case rel =>
              have lt := A1.lt
              have hbw := hbel.trans (g2.mono hbel.size)
              exact ⟨wr.heap.size, rfl, by omega, by omega, P2.put _ _, (A0.below g2 A0.lt).others (by omega) _ _, (A1.below g2 A1.lt).others (by omega) _ _, by go_grown⟩
        case rest =>
          obtain ⟨b7, rfl, n0, n1, C7, C0, C1, hbc⟩ := hcut
          clear x0 x1 x2 x3 x4 y0' y1' y2 y3 y4 A0 A1 hbel
          obtain ⟨x0, x1, x2, x3, x4⟩ := id C7
          obtain ⟨y0', y1', y2, y3, y4⟩ := id C1
          have e0 : vv 0 x = x := by unfold vv; omega
          rw [e0] at C7 x0 x1
          go_wp2
          go_roundw
          case rel =>
            exact ⟨k + 1, _, by omega, by go_num, HA1, C0.others (by omega) _ _, C1.put _ _, by go_grown⟩
          case measure => simp [intOf]; omega
      · have hbb : ((y / 2 ^ (k : Int).toNat).tmod 2 == 1) = false := by rw [HB.out]; simpa using hb
        simp only [Int.toNat_natCast] at hbb
        have HA1 : Hid (MulAt x y ((k : Int) + 1) o) := HA.out.keep (by omega) (by omega)
        clear hb
        go_wp2_with fail
        go_roundw
        case rel => exact ⟨k + 1, o, by omega, by go_num, HA1, A0, A1, hbel⟩
        case measure => simp [intOf]; omega
    · go_wp2
      obtain rfl := MulAt.done hy0 hy1 (by have e : (k : Int) = 64 := by omega
                                           rw [← e]; exact HA.out)
      have r0 := (A0.put0 (.int .u64 (hiw (x * y)))).c0
      have r1 := (A0.put (.int .u64 (hiw (x * y))) (.int .u64 (low (x * y)))).c1
      exact bodyPost_ret (v := .agg #[.int .u64 (hiw (x * y)), .int .u64 (low (x * y))]) (by simp [results, Try.results19, go_sem, r0, r1]) rfl ⟨rfl, by go_grown⟩

set_option maxHeartbeats 800000 in
set_option maxRecDepth 100000 in
theorem refLen_any (a : Int) (ha : W128 a) (w : World) :
    Calls Try.prog 25 #[.agg #[.int .u64 (hiw a), .int .u64 (low a)]] w fun e w' => e = .returned (.int .i64 (lenv a)) ∧ Below w.heap.size w w' := by
  go_enter Try.func25, Try.ntmps25
  go_wp2
  go_loopw [3] (fun i wr => ∃ k : Int, -1 ≤ k ∧ k ≤ 127 ∧ i = .int .i64 k ∧ Hid (a < p2 (k + 1)) ∧
      At2 wr w.heap.size (.int .u64 (hiw a)) (.int .u64 (low a)) ∧ Below w.heap.size w wr)
    (fun i _ => (intOf i + 1).toNat)
  case atStart =>
    refine ⟨127, by omega, by omega, rfl, ?_, ?_, by go_grown⟩
    · show a < p2 128
      rw [p2_128]; exact ha.2
    · constructor <;> simp [go_sem]
  case round =>
    obtain ⟨k, hk0, hk1, rfl, HA, A0, hbel⟩ := hrel
    obtain ⟨x0, x1, x2, x3, x4⟩ := id A0
    by_cases hlt : 0 ≤ k
    · go_wp2_with fail
      refine (bit_any a k ha (by omega) (by omega) _).mono ?_
      rintro e w1 ⟨rfl, hw1⟩
      have B0 := A0.below hw1 A0.lt
      have hbel1 := hbel.trans (hw1.mono hbel.size)
      clear x0 x1 x2 x3 x4 A0 hbel
      by_cases hb : bitv a k = 1
      · have hbb : (bitv a k == 1) = true := by simpa using hb
        have E : Hid (lenv a = k + 1) := len_found ha.1 hlt HA.out hb
        clear hb
        go_wp2
        go_ret
        exact ⟨by rw [E.out]; rfl, hbel1⟩
      · have hbb : (bitv a k == 1) = false := by simpa using hb
        have E : Hid (a < p2 k) := len_next ha.1 hlt HA.out hb
        clear hb
        go_wp2
        go_roundw
        case rel => exact ⟨k - 1, by omega, by omega, by go_num, by rw [show k - 1 + 1 = k by omega]; exact E, B0, hbel1⟩
        case measure => simp [intOf]; omega
    · go_wp2
      go_ret
      have e : k + 1 = 0 := by omega
      have h := HA.out
      rw [e, p2_0] at h
      have e0 : a = 0 := by have := ha.1; omega
      exact ⟨by rw [e0]; rfl, hbel⟩
end Go.Proofs.Ytopmfjjiakmleaa
