/-
  The program's New, Fill and Take of layer 25. No conditions but the numbers' own ranges.
-/
import Derived.Test.YtahlphbgnhklaaaN2
import Derived.Test.YtahlphbgnhklaaaD4
import Derived.Test.YtahlphbgnhklaaaA5
namespace Go.Proofs.Ytahlphbgnhklaaa
open Go.RowKit
set_option linter.unusedVariables false
attribute [local go_sem] Later.cell Later.frozen

theorem addw_any (m l : Int) (m0 : 0 ≤ m) (l0 : 0 ≤ l) (l1 : l ≤ 18446744073709551615) (hs : m + l < 340282366920938463463374607431768211456) (w : World) :
    Calls Try.prog 19 #[.agg #[.int .u64 (hiw m), .int .u64 (low m)], .agg #[.int .u64 0, .int .u64 l]] w fun e w' => e = .returned (.tuple #[.agg #[.int .u64 (hiw (m + l)), .int .u64 (low (m + l))], .int .u64 0]) ∧ Below w.heap.size w w' := by
  have h := add_any m l ⟨m0, by omega⟩ ⟨l0, by omega⟩ w
  rw [(hiw_word l0 l1).1, (hiw_word l0 l1).2, show addv m l = m + l by unfold addv; omega, show addc m l = 0 by unfold addc; omega] at h
  exact h
theorem new_any (b a : Int) (b0 : -9223372036854775808 ≤ b) (w : World) :
    Calls Try.prog 8 #[.int .i64 b, .int .i64 a] w fun e w' => e = .returned (.tuple #[.agg #[.int .i64 (nwA b a), .int .i64 (nwH b a)], .int .i64 (nwE b a)]) ∧ Below w.heap.size w w' := by
  rcases nwE_cases b a with ⟨v1, hE⟩ | ⟨v1, v2, hE⟩ | ⟨v1, v2, hE⟩
  · have EA : nwA b a = 0 := by unfold nwA; rw [hE]; rfl
    have EH : nwH b a = 0 := by unfold nwH; rw [hE]; rfl
    rw [EA, EH, hE]; clear EA EH hE
    go_enter Try.func8, Try.ntmps8
    go_wp2_with fail
    refine (right_any _ _ v1 _).mono ?_
    rintro e w1 ⟨rfl, hw1⟩; subst hw1
    go_wp2
    go_returns
    exact ⟨rfl, by go_grown⟩
  · have EA : nwA b a = 0 := by unfold nwA; rw [hE]; rfl
    have EH : nwH b a = 0 := by unfold nwH; rw [hE]; rfl
    rw [EA, EH, hE]; clear EA EH hE
    go_enter Try.func8, Try.ntmps8
    go_wp2_with fail
    refine (right_any _ _ v1 _).mono ?_
    rintro e w1 ⟨rfl, hw1⟩; subst hw1
    go_wp2_with fail
    refine (isTime_any _ _ v2 _).mono ?_
    rintro e w1 ⟨rfl, hw1⟩; subst hw1
    go_wp2
    go_returns
    exact ⟨rfl, by go_grown⟩
  · have EA : nwA b a = a := by unfold nwA; rw [hE]; rfl
    have EH : nwH b a = b * 1000000 := by unfold nwH; rw [hE]; rfl
    rw [EA, EH, hE]; clear EA EH hE
    obtain ⟨b2, b3⟩ := wi_iff.1 v1
    go_enter Try.func8, Try.ntmps8
    go_wp2_with fail
    refine (right_any _ _ v1 _).mono ?_
    rintro e w1 ⟨rfl, hw1⟩; subst hw1
    go_wp2_with fail
    refine (isTime_any _ _ v2 _).mono ?_
    rintro e w1 ⟨rfl, hw1⟩; subst hw1
    go_wp2_with fail
    refine (all_any _ b2 b3 _).mono ?_
    rintro e w1 ⟨rfl, hw1⟩; subst hw1
    go_wp2
    go_returns
    exact ⟨rfl, by go_grown⟩
theorem fill_sum {b a h r t : Int} (h0 : 0 ≤ h) (h1 : h ≤ 1048576000000) (r0 : 1 ≤ r) (r1 : r ≤ 1000000000) (a0 : a ≤ t) (t1 : t - a ≤ 1099511627776) : 0 ≤ r * (t - a) ∧ r * (t - a) ≤ 1099511627776000000000 := by
  have p := Int.mul_nonneg (show 0 ≤ r by omega) (show 0 ≤ t - a by omega)
  have q := Int.mul_le_mul r1 t1 (by omega) (by omega)
  omega
set_option maxHeartbeats 800000 in
theorem filled_any (b a h r t : Int) (b0 : 1 ≤ b) (b1 : b ≤ 1048576) (a0 : 0 ≤ a) (h0 : 0 ≤ h) (h1 : h ≤ b * 1000000) (r0 : 1 ≤ r) (r1 : r ≤ 1000000000) (ht : a ≤ t) (t1 : t ≤ 1099511627776) (w : World) :
    Calls Try.prog 27 #[.agg #[.int .i64 a, .int .i64 h], .int .i64 r, .int .i64 t, .func (.func 28) #[.int .i64 b] #[]] w fun e w' => e = .returned (.agg #[.int .i64 t, .int .i64 (heldv b (r * (t - a) + h))]) ∧ Below w.heap.size w w' := by
  obtain ⟨p0, p1⟩ := fill_sum (b := b) h0 (by omega) r0 r1 ht (by omega)
  go_enter Try.func27, Try.ntmps27
  go_wp2_with fail
  refine (mul_any r (t - a) (by omega) (by omega) (by omega) (by omega) _).mono ?_
  rintro e w1 ⟨rfl, hw1⟩
  have A : At2 w1 w.heap.size (.int .i64 a) (.int .i64 h) := At2.below (by constructor <;> simp [go_sem]) hw1 (by simp <;> omega)
  have R : At2 w1 (w.heap.size + 1) (.int .i64 0) (.int .i64 0) := At2.below (by constructor <;> simp [go_sem]) hw1 (by simp <;> omega)
  have hb : Below w.heap.size w w1 := Below.call (by go_grown) (by simp <;> omega) hw1
  clear hw1
  obtain ⟨x0, x1, x2, x3, x4⟩ := id A
  go_wp2_with fail
  refine (addw_any (r * (t - a)) h p0 h0 (by omega) (by omega) _).mono ?_
  rintro e w2 ⟨rfl, hw2⟩
  clear x0 x1 x2 x3 x4
  replace A := (A.alloc _).below hw2 (by have := A.lt; simp <;> omega)
  replace R := (R.alloc _).below hw2 (by have := R.lt; simp <;> omega)
  replace hb : Below w.heap.size w w2 := Below.call (show Below w.heap.size w _ by have := hb.size; go_grown) (by have := hb.size; simp <;> omega) hw2
  clear hw2
  go_wp2_with fail
  refine (held_any b (r * (t - a) + h) b0 b1 ⟨by omega, by omega⟩ _).mono ?_
  rintro e w3 ⟨rfl, hw3⟩
  replace R := (R.alloc _).below hw3 (by have := R.lt; simp <;> omega)
  replace hb : Below w.heap.size w w3 := Below.call (show Below w.heap.size w _ by have := hb.size; go_grown) (by have := hb.size; simp <;> omega) hw3
  obtain ⟨x0, x1, x2, x3, x4⟩ := id R
  obtain ⟨u0, u1⟩ := R.outs (.int .i64 t) (.int .i64 (heldv b (r * (t - a) + h)))
  go_wp2_with (exact bodyPost_ret (v := .agg #[.int .i64 t, .int .i64 (heldv b (r * (t - a) + h))]) (by simp [results, Try.results27, go_sem, u0, u1]) rfl ⟨rfl, by go_grown⟩)

/-- Fill, whatever comes. -/
theorem fill_any (b a h r t : Int) (h0 : -9223372036854775808 ≤ h) (h1 : h ≤ 9223372036854775807) (w : World) :
    Calls Try.prog 10 #[.int .i64 b, .agg #[.int .i64 a, .int .i64 h], .int .i64 r, .int .i64 t] w fun e w' => e = .returned (.tuple #[.agg #[.int .i64 (flA b a h r t), .int .i64 (flH b a h r t)], .int .i64 (flE b a h r t)]) ∧ Below w.heap.size w w' := by
  rcases flE_cases b a h r t with ⟨v1, hE⟩ | ⟨v1, v2, hE⟩ | ⟨v1, v2, v3, hE⟩ | ⟨v1, v2, v3, hta, hE⟩ | ⟨v1, v2, v3, hta, hE⟩
  · have EA : flA b a h r t = 0 := by unfold flA; rw [hE]; rfl
    have EH : flH b a h r t = 0 := by unfold flH; rw [hE]; rfl
    rw [EA, EH, hE]; clear EA EH hE
    go_enter Try.func10, Try.ntmps10
    go_wp2_with fail
    refine (is_any b a h h0 h1 _ v1 _).mono ?_
    rintro e w1 ⟨rfl, hw1⟩
    have A : At2 w1 w.heap.size (.int .i64 a) (.int .i64 h) := At2.below (by constructor <;> simp [go_sem]) hw1 (by simp <;> omega)
    have R : At2 w1 (w.heap.size + 1) (.int .i64 0) (.int .i64 0) := At2.below (by constructor <;> simp [go_sem]) hw1 (by simp <;> omega)
    have hb : Below w.heap.size w w1 := Below.call (by go_grown) (by simp <;> omega) hw1
    have hs := hb.size
    clear hw1
    obtain ⟨x0, x1, x2, x3, x4⟩ := id A
    obtain ⟨z0, z1, z2, z3, z4⟩ := id R
    obtain ⟨u0, u1⟩ := R.outs (.int .i64 (0)) (.int .i64 (0))
    go_wp2_with (exact bodyPost_ret (v := .tuple #[.agg #[.int .i64 (0), .int .i64 (0)], .int .i64 1]) (by simp [results, Try.results10, go_sem, u0, u1]) rfl ⟨rfl, by go_grown⟩)
  · have EA : flA b a h r t = 0 := by unfold flA; rw [hE]; rfl
    have EH : flH b a h r t = 0 := by unfold flH; rw [hE]; rfl
    rw [EA, EH, hE]; clear EA EH hE
    go_enter Try.func10, Try.ntmps10
    go_wp2_with fail
    refine (is_any b a h h0 h1 _ v1 _).mono ?_
    rintro e w1 ⟨rfl, hw1⟩
    have A : At2 w1 w.heap.size (.int .i64 a) (.int .i64 h) := At2.below (by constructor <;> simp [go_sem]) hw1 (by simp <;> omega)
    have R : At2 w1 (w.heap.size + 1) (.int .i64 0) (.int .i64 0) := At2.below (by constructor <;> simp [go_sem]) hw1 (by simp <;> omega)
    have hb : Below w.heap.size w w1 := Below.call (by go_grown) (by simp <;> omega) hw1
    have hs := hb.size
    clear hw1
    obtain ⟨x0, x1, x2, x3, x4⟩ := id A
    obtain ⟨z0, z1, z2, z3, z4⟩ := id R
    go_wp2_with fail
    refine (within_any _ _ _ _ v2 _).mono ?_
    rintro e w2 ⟨rfl, hw2⟩; subst hw2
    obtain ⟨u0, u1⟩ := R.outs (.int .i64 (0)) (.int .i64 (0))
    go_wp2_with (exact bodyPost_ret (v := .tuple #[.agg #[.int .i64 (0), .int .i64 (0)], .int .i64 8]) (by simp [results, Try.results10, go_sem, u0, u1]) rfl ⟨rfl, by go_grown⟩)
  · have EA : flA b a h r t = 0 := by unfold flA; rw [hE]; rfl
    have EH : flH b a h r t = 0 := by unfold flH; rw [hE]; rfl
    rw [EA, EH, hE]; clear EA EH hE
    go_enter Try.func10, Try.ntmps10
    go_wp2_with fail
    refine (is_any b a h h0 h1 _ v1 _).mono ?_
    rintro e w1 ⟨rfl, hw1⟩
    have A : At2 w1 w.heap.size (.int .i64 a) (.int .i64 h) := At2.below (by constructor <;> simp [go_sem]) hw1 (by simp <;> omega)
    have R : At2 w1 (w.heap.size + 1) (.int .i64 0) (.int .i64 0) := At2.below (by constructor <;> simp [go_sem]) hw1 (by simp <;> omega)
    have hb : Below w.heap.size w w1 := Below.call (by go_grown) (by simp <;> omega) hw1
    have hs := hb.size
    clear hw1
    obtain ⟨x0, x1, x2, x3, x4⟩ := id A
    obtain ⟨z0, z1, z2, z3, z4⟩ := id R
    go_wp2_with fail
    refine (within_any _ _ _ _ v2 _).mono ?_
    rintro e w2 ⟨rfl, hw2⟩; subst hw2
    go_wp2_with fail
    refine (isTime_any _ _ v3 _).mono ?_
    rintro e w2 ⟨rfl, hw2⟩; subst hw2
    obtain ⟨u0, u1⟩ := R.outs (.int .i64 (0)) (.int .i64 (0))
    go_wp2_with (exact bodyPost_ret (v := .tuple #[.agg #[.int .i64 (0), .int .i64 (0)], .int .i64 10]) (by simp [results, Try.results10, go_sem, u0, u1]) rfl ⟨rfl, by go_grown⟩)
  · have EA : flA b a h r t = 0 := by unfold flA; rw [hE]; rfl
    have EH : flH b a h r t = 0 := by unfold flH; rw [hE]; rfl
    rw [EA, EH, hE]; clear EA EH hE
    go_enter Try.func10, Try.ntmps10
    go_wp2_with fail
    refine (is_any b a h h0 h1 _ v1 _).mono ?_
    rintro e w1 ⟨rfl, hw1⟩
    have A : At2 w1 w.heap.size (.int .i64 a) (.int .i64 h) := At2.below (by constructor <;> simp [go_sem]) hw1 (by simp <;> omega)
    have R : At2 w1 (w.heap.size + 1) (.int .i64 0) (.int .i64 0) := At2.below (by constructor <;> simp [go_sem]) hw1 (by simp <;> omega)
    have hb : Below w.heap.size w w1 := Below.call (by go_grown) (by simp <;> omega) hw1
    have hs := hb.size
    clear hw1
    obtain ⟨x0, x1, x2, x3, x4⟩ := id A
    obtain ⟨z0, z1, z2, z3, z4⟩ := id R
    go_wp2_with fail
    refine (within_any _ _ _ _ v2 _).mono ?_
    rintro e w2 ⟨rfl, hw2⟩; subst hw2
    go_wp2_with fail
    refine (isTime_any _ _ v3 _).mono ?_
    rintro e w2 ⟨rfl, hw2⟩; subst hw2
    obtain ⟨u0, u1⟩ := R.outs (.int .i64 (0)) (.int .i64 (0))
    go_wp2_with (exact bodyPost_ret (v := .tuple #[.agg #[.int .i64 (0), .int .i64 (0)], .int .i64 10]) (by simp [results, Try.results10, go_sem, u0, u1]) rfl ⟨rfl, by go_grown⟩)
  · have EA : flA b a h r t = t := by unfold flA; rw [hE]; rfl
    have EH : flH b a h r t = heldv b (r * (t - a) + h) := by unfold flH; rw [hE]; rfl
    rw [EA, EH, hE]; clear EA EH hE
    obtain ⟨⟨b2, b3⟩, ⟨a2, a3⟩, h2, h3⟩ := isv_iff.1 v1
    obtain ⟨r2, r3⟩ := wi_iff.1 v2
    obtain ⟨t2, t3⟩ := wi_iff.1 v3
    have hlt : decide (t < a) = false := decide_eq_false (by omega)
    have hmf : ∀ (fn : Fn) (first cap : Array Value) (w : World), (Instr.makeFunc fn first cap).run Try.prog w = .ok (.func fn first cap) w := fun _ _ _ _ => rfl
    go_enter Try.func10, Try.ntmps10
    go_wp2_with fail
    refine (is_any b a h h0 h1 _ v1 _).mono ?_
    rintro e w1 ⟨rfl, hw1⟩
    have A : At2 w1 w.heap.size (.int .i64 a) (.int .i64 h) := At2.below (by constructor <;> simp [go_sem]) hw1 (by simp <;> omega)
    have R : At2 w1 (w.heap.size + 1) (.int .i64 0) (.int .i64 0) := At2.below (by constructor <;> simp [go_sem]) hw1 (by simp <;> omega)
    have hb : Below w.heap.size w w1 := Below.call (by go_grown) (by simp <;> omega) hw1
    have hs := hb.size
    clear hw1
    obtain ⟨x0, x1, x2, x3, x4⟩ := id A
    obtain ⟨z0, z1, z2, z3, z4⟩ := id R
    go_wp2_with fail
    refine (within_any _ _ _ _ v2 _).mono ?_
    rintro e w2 ⟨rfl, hw2⟩; subst hw2
    go_wp2_with fail
    refine (isTime_any _ _ v3 _).mono ?_
    rintro e w2 ⟨rfl, hw2⟩; subst hw2
    go_wp2_with fail
    refine (filled_any b a h r t b2 b3 a2 h2 h3 r2 r3 hta t3 _).mono ?_
    rintro e w4 ⟨rfl, hw4⟩
    clear x0 x1 x2 x3 x4 z0 z1 z2 z3 z4
    replace R := R.below hw4 R.lt
    replace hb : Below w.heap.size w w4 := Below.call hb hs hw4
    obtain ⟨z0, z1, z2, z3, z4⟩ := id R
    obtain ⟨u0, u1⟩ := R.outs (.int .i64 (t)) (.int .i64 (heldv b (r * (t - a) + h)))
    go_wp2_with (exact bodyPost_ret (v := .tuple #[.agg #[.int .i64 (t), .int .i64 (heldv b (r * (t - a) + h))], .int .i64 0]) (by simp [results, Try.results10, go_sem, u0, u1]) rfl ⟨rfl, by go_grown⟩)

/-- Take, whatever comes. -/
theorem take_any (b a h s : Int) (h0 : -9223372036854775808 ≤ h) (h1 : h ≤ 9223372036854775807) (w : World) :
    Calls Try.prog 12 #[.int .i64 b, .agg #[.int .i64 a, .int .i64 h], .int .i64 s] w fun e w' => e = .returned (.tuple #[.agg #[.int .i64 (tkA b a h s), .int .i64 (tkH b a h s)], .int .i64 (tkE b a h s)]) ∧ Below w.heap.size w w' := by
  rcases tkE_cases b a h s with ⟨v1, hE⟩ | ⟨v1, v2, hE⟩ | ⟨v1, v2, hhs, hE⟩ | ⟨v1, v2, hhs, hE⟩
  · have EA : tkA b a h s = 0 := by unfold tkA; rw [hE]; rfl
    have EH : tkH b a h s = 0 := by unfold tkH; rw [hE]; rfl
    rw [EA, EH, hE]; clear EA EH hE
    go_enter Try.func12, Try.ntmps12
    go_wp2_with fail
    refine (is_any b a h h0 h1 _ v1 _).mono ?_
    rintro e w1 ⟨rfl, hw1⟩
    have A : At2 w1 w.heap.size (.int .i64 a) (.int .i64 h) := At2.below (by constructor <;> simp [go_sem]) hw1 (by simp <;> omega)
    have R : At2 w1 (w.heap.size + 1) (.int .i64 0) (.int .i64 0) := At2.below (by constructor <;> simp [go_sem]) hw1 (by simp <;> omega)
    have hb : Below w.heap.size w w1 := Below.call (by go_grown) (by simp <;> omega) hw1
    have hs := hb.size
    clear hw1
    obtain ⟨x0, x1, x2, x3, x4⟩ := id A
    obtain ⟨z0, z1, z2, z3, z4⟩ := id R
    obtain ⟨u0, u1⟩ := R.outs (.int .i64 (0)) (.int .i64 (0))
    go_wp2_with (exact bodyPost_ret (v := .tuple #[.agg #[.int .i64 (0), .int .i64 (0)], .int .i64 1]) (by simp [results, Try.results12, go_sem, u0, u1]) rfl ⟨rfl, by go_grown⟩)
  · have EA : tkA b a h s = 0 := by unfold tkA; rw [hE]; rfl
    have EH : tkH b a h s = 0 := by unfold tkH; rw [hE]; rfl
    rw [EA, EH, hE]; clear EA EH hE
    go_enter Try.func12, Try.ntmps12
    go_wp2_with fail
    refine (is_any b a h h0 h1 _ v1 _).mono ?_
    rintro e w1 ⟨rfl, hw1⟩
    have A : At2 w1 w.heap.size (.int .i64 a) (.int .i64 h) := At2.below (by constructor <;> simp [go_sem]) hw1 (by simp <;> omega)
    have R : At2 w1 (w.heap.size + 1) (.int .i64 0) (.int .i64 0) := At2.below (by constructor <;> simp [go_sem]) hw1 (by simp <;> omega)
    have hb : Below w.heap.size w w1 := Below.call (by go_grown) (by simp <;> omega) hw1
    have hs := hb.size
    clear hw1
    obtain ⟨x0, x1, x2, x3, x4⟩ := id A
    obtain ⟨z0, z1, z2, z3, z4⟩ := id R
    go_wp2_with fail
    refine (within_any _ _ _ _ v2 _).mono ?_
    rintro e w2 ⟨rfl, hw2⟩; subst hw2
    obtain ⟨u0, u1⟩ := R.outs (.int .i64 (0)) (.int .i64 (0))
    go_wp2_with (exact bodyPost_ret (v := .tuple #[.agg #[.int .i64 (0), .int .i64 (0)], .int .i64 9]) (by simp [results, Try.results12, go_sem, u0, u1]) rfl ⟨rfl, by go_grown⟩)
  · have EA : tkA b a h s = 0 := by unfold tkA; rw [hE]; rfl
    have EH : tkH b a h s = 0 := by unfold tkH; rw [hE]; rfl
    rw [EA, EH, hE]; clear EA EH hE
    obtain ⟨s2, s3⟩ := wi_iff.1 v2
    go_enter Try.func12, Try.ntmps12
    go_wp2_with fail
    refine (is_any b a h h0 h1 _ v1 _).mono ?_
    rintro e w1 ⟨rfl, hw1⟩
    have A : At2 w1 w.heap.size (.int .i64 a) (.int .i64 h) := At2.below (by constructor <;> simp [go_sem]) hw1 (by simp <;> omega)
    have R : At2 w1 (w.heap.size + 1) (.int .i64 0) (.int .i64 0) := At2.below (by constructor <;> simp [go_sem]) hw1 (by simp <;> omega)
    have hb : Below w.heap.size w w1 := Below.call (by go_grown) (by simp <;> omega) hw1
    have hs := hb.size
    clear hw1
    obtain ⟨x0, x1, x2, x3, x4⟩ := id A
    obtain ⟨z0, z1, z2, z3, z4⟩ := id R
    go_wp2_with fail
    refine (within_any _ _ _ _ v2 _).mono ?_
    rintro e w2 ⟨rfl, hw2⟩; subst hw2
    obtain ⟨u0, u1⟩ := R.outs (.int .i64 (0)) (.int .i64 (0))
    go_wp2_with (exact bodyPost_ret (v := .tuple #[.agg #[.int .i64 (0), .int .i64 (0)], .int .i64 13]) (by simp [results, Try.results12, go_sem, u0, u1]) rfl ⟨rfl, by go_grown⟩)
  · have EA : tkA b a h s = a := by unfold tkA; rw [hE]; rfl
    have EH : tkH b a h s = h - s * 1000000 := by unfold tkH; rw [hE]; rfl
    rw [EA, EH, hE]; clear EA EH hE
    obtain ⟨⟨b2, b3⟩, ⟨a2, a3⟩, h2, h3⟩ := isv_iff.1 v1
    obtain ⟨s2, s3⟩ := wi_iff.1 v2
    have hlt : decide (h < s * 1000000) = false := decide_eq_false (by omega)
    go_enter Try.func12, Try.ntmps12
    go_wp2_with fail
    refine (is_any b a h h0 h1 _ v1 _).mono ?_
    rintro e w1 ⟨rfl, hw1⟩
    have A : At2 w1 w.heap.size (.int .i64 a) (.int .i64 h) := At2.below (by constructor <;> simp [go_sem]) hw1 (by simp <;> omega)
    have R : At2 w1 (w.heap.size + 1) (.int .i64 0) (.int .i64 0) := At2.below (by constructor <;> simp [go_sem]) hw1 (by simp <;> omega)
    have hb : Below w.heap.size w w1 := Below.call (by go_grown) (by simp <;> omega) hw1
    have hs := hb.size
    clear hw1
    obtain ⟨x0, x1, x2, x3, x4⟩ := id A
    obtain ⟨z0, z1, z2, z3, z4⟩ := id R
    go_wp2_with fail
    refine (within_any _ _ _ _ v2 _).mono ?_
    rintro e w2 ⟨rfl, hw2⟩; subst hw2
    replace R := R.other (a := ⟨w.heap.size, 1, none⟩) (by simp <;> omega) (.int .i64 (h - s * 1000000))
    replace A := A.put1 (.int .i64 (h - s * 1000000))
    obtain ⟨y0, y1, y2, y3, y4⟩ := id A
    obtain ⟨u0, u1⟩ := R.outs (.int .i64 (a)) (.int .i64 (h - s * 1000000))
    go_wp2_with (exact bodyPost_ret (v := .tuple #[.agg #[.int .i64 (a), .int .i64 (h - s * 1000000)], .int .i64 0]) (by simp [results, Try.results12, go_sem, u0, u1]) rfl ⟨rfl, by go_grown⟩)
end Go.Proofs.Ytahlphbgnhklaaa
