/-
  The program's Wait of layer 25: what is missing, and in how many microseconds it is there. No conditions but the numbers' own ranges.
-/
import Derived.Test.YtahlphbgnhklaaaN3
import Derived.Test.YtahlphbgnhklaaaD7
namespace Go.Proofs.Ytahlphbgnhklaaa
open Go.RowKit
set_option linter.unusedVariables false

theorem subw_any (m l : Int) (m0 : 0 ≤ m) (hs : m < 340282366920938463463374607431768211456) (l0 : 0 ≤ l) (l1 : l ≤ 18446744073709551615) (w : World) :
    Calls Try.prog 42 #[.agg #[.int .u64 (hiw m), .int .u64 (low m)], .agg #[.int .u64 0, .int .u64 l]] w fun e w' => e = .returned (.tuple #[.agg #[.int .u64 (hiw (subv m l)), .int .u64 (low (subv m l))], .int .u64 (subc m l)]) ∧ Below w.heap.size w w' := by
  have h := sub_any m l ⟨m0, hs⟩ ⟨l0, by omega⟩ w
  rw [(hiw_word l0 l1).1, (hiw_word l0 l1).2] at h
  exact h
theorem msv_neg {h s : Int} (hs : 0 < s) (hh : h < 0) : msv h s = s * 1000000 + -h := by unfold msv; rw [if_neg (by omega), if_neg (by omega)]; omega
theorem neg_word {h : Int} (h0 : -9223372036854775808 ≤ h) (h1 : h < 0) : IntKind.u64.wrap (-IntKind.u64.wrap h) = -h := by rw [IntKind.wrap_u64, IntKind.wrap_u64]; omega
set_option maxHeartbeats 800000 in
theorem missing_any (h s : Int) (h0 : -9223372036854775808 ≤ h) (h1 : h ≤ 9223372036854775807) (s1 : s ≤ 9223372036854775807) (w : World) :
    Calls Try.prog 30 #[.int .i64 h, .int .i64 s] w fun e w' => e = .returned (.agg #[.int .u64 (hiw (msv h s)), .int .u64 (low (msv h s))]) ∧ Below w.heap.size w w' := by
  rcases Int.lt_or_le 0 s with hs | hs
  · have hs2 : decide (s ≤ 0) = false := decide_eq_false (by omega)
    rcases Int.lt_or_le h 0 with hh | hh
    · have E : msv h s = s * 1000000 + -h := msv_neg hs hh
      have EN : IntKind.u64.wrap (-IntKind.u64.wrap h) = -h := neg_word h0 hh
      rw [E]; clear E
      go_enter Try.func30, Try.ntmps30
      go_wp2_with fail
      refine (mul_any s 1000000 (by omega) (by omega) (by omega) (by omega) _).mono ?_
      rintro e w1 ⟨rfl, hw1⟩
      have R : At2 w1 w.heap.size (.int .u64 0) (.int .u64 0) := At2.below (by constructor <;> simp [go_sem]) hw1 (by simp <;> omega)
      have hb : Below w.heap.size w w1 := Below.call (by go_grown) (by simp <;> omega) hw1
      clear hw1
      go_wp2_with fail
      refine (addw_any (s * 1000000) (-h) (by omega) (by omega) (by omega) (by omega) _).mono ?_
      rintro e w2 ⟨rfl, hw2⟩
      replace R := (R.alloc _).below hw2 (by have := R.lt; simp <;> omega)
      replace hb : Below w.heap.size w w2 := Below.call (show Below w.heap.size w _ by have := hb.size; go_grown) (by have := hb.size; simp <;> omega) hw2
      clear hw2
      have hs3 := hb.size
      obtain ⟨u0, u1, _, _, _⟩ := (R.put (.int .u64 (hiw (s * 1000000 + -h))) (.int .u64 (low (s * 1000000 + -h)))).alloc (.cells #[.int .u64 (hiw (s * 1000000 + -h)), .int .u64 (low (s * 1000000 + -h))] 42)
      obtain ⟨x0, x1, x2, x3, x4⟩ := id R
      go_wp2_with (exact bodyPost_ret (v := .agg #[.int .u64 (hiw (s * 1000000 + -h)), .int .u64 (low (s * 1000000 + -h))]) (by simp [results, Try.results30, go_sem, u0, u1]) rfl ⟨rfl, by go_grown⟩)
    · by_cases hm : s * 1000000 < h
      · have E : msv h s = 0 := by unfold msv; rw [if_neg (by omega), if_pos (by omega)]
        have ES : subc (s * 1000000) h = 1 := by unfold subc; rw [if_pos hm]
        rw [E]; clear E
        go_enter Try.func30, Try.ntmps30
        go_wp2_with fail
        refine (mul_any s 1000000 (by omega) (by omega) (by omega) (by omega) _).mono ?_
        rintro e w1 ⟨rfl, hw1⟩
        have R : At2 w1 w.heap.size (.int .u64 0) (.int .u64 0) := At2.below (by constructor <;> simp [go_sem]) hw1 (by simp <;> omega)
        have hb : Below w.heap.size w w1 := Below.call (by go_grown) (by simp <;> omega) hw1
        clear hw1
        go_wp2_with fail
        refine (subw_any (s * 1000000) h (by omega) (by omega) (by omega) (by omega) _).mono ?_
        rintro e w2 ⟨rfl, hw2⟩
        replace R := (R.alloc _).below hw2 (by have := R.lt; simp <;> omega)
        replace hb : Below w.heap.size w w2 := Below.call (show Below w.heap.size w _ by have := hb.size; go_grown) (by have := hb.size; simp <;> omega) hw2
        clear hw2
        have hs3 := hb.size
        rw [ES]
        obtain ⟨u0, u1, _, _, _⟩ := (R.put (.int .u64 0) (.int .u64 0)).alloc (.cells #[.int .u64 (hiw (subv (s * 1000000) h)), .int .u64 (low (subv (s * 1000000) h))] 42)
        obtain ⟨x0, x1, x2, x3, x4⟩ := id R
        go_wp2_with (exact bodyPost_ret (v := .agg #[.int .u64 0, .int .u64 0]) (by simp [results, Try.results30, go_sem, u0, u1]) rfl ⟨rfl, by go_grown⟩)
      · have E : msv h s = s * 1000000 - h := by unfold msv; rw [if_neg (by omega)]; split <;> omega
        have ES : subc (s * 1000000) h = 0 := by unfold subc; rw [if_neg hm]
        have EV : subv (s * 1000000) h = s * 1000000 - h := by unfold subv; omega
        rw [E]; clear E
        go_enter Try.func30, Try.ntmps30
        go_wp2_with fail
        refine (mul_any s 1000000 (by omega) (by omega) (by omega) (by omega) _).mono ?_
        rintro e w1 ⟨rfl, hw1⟩
        have R : At2 w1 w.heap.size (.int .u64 0) (.int .u64 0) := At2.below (by constructor <;> simp [go_sem]) hw1 (by simp <;> omega)
        have hb : Below w.heap.size w w1 := Below.call (by go_grown) (by simp <;> omega) hw1
        clear hw1
        go_wp2_with fail
        refine (subw_any (s * 1000000) h (by omega) (by omega) (by omega) (by omega) _).mono ?_
        rintro e w2 ⟨rfl, hw2⟩
        replace R := (R.alloc _).below hw2 (by have := R.lt; simp <;> omega)
        replace hb : Below w.heap.size w w2 := Below.call (show Below w.heap.size w _ by have := hb.size; go_grown) (by have := hb.size; simp <;> omega) hw2
        clear hw2
        have hs3 := hb.size
        rw [ES, EV]
        obtain ⟨u0, u1, _, _, _⟩ := (R.put (.int .u64 (hiw (s * 1000000 - h))) (.int .u64 (low (s * 1000000 - h)))).alloc (.cells #[.int .u64 (hiw (s * 1000000 - h)), .int .u64 (low (s * 1000000 - h))] 42)
        obtain ⟨x0, x1, x2, x3, x4⟩ := id R
        go_wp2_with (exact bodyPost_ret (v := .agg #[.int .u64 (hiw (s * 1000000 - h)), .int .u64 (low (s * 1000000 - h))]) (by simp [results, Try.results30, go_sem, u0, u1]) rfl ⟨rfl, by go_grown⟩)
  · have E : msv h s = 0 := by unfold msv; rw [if_pos hs]
    rw [E]; clear E
    go_enter Try.func30, Try.ntmps30
    go_wp2
    go_returns
    exact ⟨rfl, by go_grown⟩
theorem cmpw_any (m l : Int) (m0 : 0 ≤ m) (hs : m < 340282366920938463463374607431768211456) (l0 : 0 ≤ l) (l1 : l ≤ 18446744073709551615) (w : World) :
    Calls Try.prog 21 #[.agg #[.int .u64 (hiw m), .int .u64 (low m)], .agg #[.int .u64 0, .int .u64 l]] w fun e w' => e = .returned (.int .i64 (cmpv m l)) ∧ Below w.heap.size w w' := by
  have h := cmp_any m l ⟨m0, hs⟩ ⟨l0, by omega⟩ w
  rw [(hiw_word l0 l1).1, (hiw_word l0 l1).2] at h
  exact h
theorem cmpv_gt {m l : Int} (h : l < m) : cmpv m l = 1 := by unfold cmpv; rw [if_neg (by omega), if_pos (by omega)]
theorem cmpv_le {m l : Int} (h : m ≤ l) : cmpv m l ≤ 0 := by unfold cmpv; (repeat split) <;> omega
/-- Wait, whatever comes. -/
theorem wait_any (a h r s : Int) (h0 : -9223372036854775808 ≤ h) (h1 : h ≤ 9223372036854775807) (r1 : r ≤ 9223372036854775807) (s1 : s ≤ 9223372036854775807) (w : World) :
    Calls Try.prog 17 #[.agg #[.int .i64 a, .int .i64 h], .int .i64 r, .int .i64 s] w fun e w' => e = .returned (.int .i64 (wtv h r s)) ∧ Below w.heap.size w w' := by
  obtain ⟨b0, b1⟩ := msv_bd (s := s) h0 s1
  have M := missing_any h s h0 h1 s1
  generalize hm : msv h s = m at *
  by_cases hz : m = 0
  · have E : wtv h r s = 0 := by unfold wtv; rw [hm, if_pos hz]
    rw [E]; clear E hm
    subst hz
    go_enter Try.func17, Try.ntmps17
    go_wp2_with fail
    refine (M _).mono ?_
    rintro e w1 ⟨rfl, hw1⟩
    have hb : Below w.heap.size w w1 := Below.call (by go_grown) (by simp <;> omega) hw1
    have hs := hb.size
    have z0 : hiw 0 = 0 := rfl
    have z1 : low 0 = 0 := rfl
    rw [z0, z1]
    go_wp2
    go_ret
    exact ⟨rfl, by go_grown⟩
  · have hne : (hiw m == 0) = false ∨ (low m == 0) = false := by
      by_cases h : hiw m = 0
      · right; simp; intro h2; exact hz (hl_inj (b := 0) h h2)
      · left; simpa using h
    rcases Int.lt_or_le 0 r with hr | hr
    · have hrd : decide (r ≤ 0) = false := decide_eq_false (by omega)
      have p0 : 0 ≤ (m + (r - 1)) / r := Int.ediv_nonneg (by omega) (by omega)
      have p1 : (m + (r - 1)) / r ≤ m + (r - 1) := Int.ediv_le_self _ (by omega)
      have D := div_any (m + (r - 1)) r ⟨by omega, by omega⟩ hr (by omega)
      generalize hq : (m + (r - 1)) / r = q at *
      by_cases hg : 4611686018427387904 < q
      · have E : wtv h r s = 4611686018427387904 := by unfold wtv; rw [hm, if_neg hz, if_neg (by omega), hq, if_pos hg]
        have K := cmpv_gt hg
        rw [E]; clear E hm
        rcases hne with hne | hne
        all_goals
          go_enter Try.func17, Try.ntmps17
          go_wp2_with fail
          refine (M _).mono ?_
          rintro e w1 ⟨rfl, hw1⟩
          have hb : Below w.heap.size w w1 := Below.call (by go_grown) (by simp <;> omega) hw1
          clear hw1
          have hs := hb.size
          go_wp2_with fail
          refine (addw_any m (r - 1) (by omega) (by omega) (by omega) (by omega) _).mono ?_
          rintro e w2 ⟨rfl, hw2⟩
          replace hb : Below w.heap.size w w2 := Below.call (show Below w.heap.size w _ by have := hb.size; go_grown) (by have := hb.size; simp <;> omega) hw2
          clear hw2
          have hs := hb.size
          go_wp2_with fail
          refine (D _).mono ?_
          rintro e w3 ⟨rfl, hw3⟩
          replace hb : Below w.heap.size w w3 := Below.call (show Below w.heap.size w _ by have := hb.size; go_grown) (by have := hb.size; simp <;> omega) hw3
          clear hw3
          have hs := hb.size
          go_wp2_with fail
          refine (cmpw_any q 4611686018427387904 (by omega) (by omega) (by omega) (by omega) _).mono ?_
          rintro e w4 ⟨rfl, hw4⟩
          replace hb : Below w.heap.size w w4 := Below.call (show Below w.heap.size w _ by have := hb.size; go_grown) (by have := hb.size; simp <;> omega) hw4
          clear hw4
          have hs := hb.size
          rw [K]
          go_wp2
          go_ret
          exact ⟨rfl, by go_grown⟩
      · have E : wtv h r s = q := by unfold wtv; rw [hm, if_neg hz, if_neg (by omega), hq, if_neg hg]
        have K := cmpv_le (m := q) (l := 4611686018427387904) (by omega)
        have K2 : decide (0 < cmpv q 4611686018427387904) = false := decide_eq_false (by omega)
        have L : low q = q := (hiw_word p0 (by omega)).2
        have G : hiw q = 0 := (hiw_word p0 (by omega)).1
        rw [G, L] at D
        have C := cmpw_any q 4611686018427387904 (by omega) (by omega) (by omega) (by omega)
        rw [G, L] at C
        rw [E]; clear E hm
        rcases hne with hne | hne
        all_goals
          go_enter Try.func17, Try.ntmps17
          go_wp2_with fail
          refine (M _).mono ?_
          rintro e w1 ⟨rfl, hw1⟩
          have hb : Below w.heap.size w w1 := Below.call (by go_grown) (by simp <;> omega) hw1
          clear hw1
          have hs := hb.size
          go_wp2_with fail
          refine (addw_any m (r - 1) (by omega) (by omega) (by omega) (by omega) _).mono ?_
          rintro e w2 ⟨rfl, hw2⟩
          replace hb : Below w.heap.size w w2 := Below.call (show Below w.heap.size w _ by have := hb.size; go_grown) (by have := hb.size; simp <;> omega) hw2
          clear hw2
          have hs := hb.size
          go_wp2_with fail
          refine (D _).mono ?_
          rintro e w3 ⟨rfl, hw3⟩
          replace hb : Below w.heap.size w w3 := Below.call (show Below w.heap.size w _ by have := hb.size; go_grown) (by have := hb.size; simp <;> omega) hw3
          clear hw3
          have hs := hb.size
          go_wp2_with fail
          refine (C _).mono ?_
          rintro e w4 ⟨rfl, hw4⟩
          have Q : At2 w4 w3.heap.size (.int .u64 0) (.int .u64 q) := At2.below (by constructor <;> simp [go_sem]) hw4 (by simp <;> omega)
          obtain ⟨x0, x1, x2, x3, x4⟩ := id Q
          replace hb : Below w.heap.size w w4 := Below.call (show Below w.heap.size w _ by have := hb.size; go_grown) (by have := hb.size; simp <;> omega) hw4
          clear hw4
          have hs := hb.size
          go_wp2
          go_ret
          exact ⟨rfl, by go_grown⟩
    · have E : wtv h r s = 4611686018427387904 := by unfold wtv; rw [hm, if_neg hz, if_pos hr]
      rw [E]; clear E hm
      rcases hne with hne | hne
      all_goals
        go_enter Try.func17, Try.ntmps17
        go_wp2_with fail
        refine (M _).mono ?_
        rintro e w1 ⟨rfl, hw1⟩
        have hb : Below w.heap.size w w1 := Below.call (by go_grown) (by simp <;> omega) hw1
        have hs := hb.size
        go_wp2
        go_ret
        exact ⟨rfl, by go_grown⟩
end Go.Proofs.Ytahlphbgnhklaaa
