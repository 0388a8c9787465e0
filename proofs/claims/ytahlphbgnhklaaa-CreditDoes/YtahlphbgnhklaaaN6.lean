/-
  The reference's Wait of layer 25. No conditions but the numbers' own ranges.
-/
import Derived.Test.YtahlphbgnhklaaaN5
import Derived.Test.YtahlphbgnhklaaaR2
import Derived.Test.YtahlphbgnhklaaaC1
import Derived.Test.YtahlphbgnhklaaaC2
import Derived.Test.YtahlphbgnhklaaaC5
import Derived.Test.YtahlphbgnhklaaaA5
namespace Go.Proofs.Ytahlphbgnhklaaa
open Go.RowKit
set_option linter.unusedVariables false

/-- How far a number is from 0. -/
def farv (n : Int) : Int := if n < 0 then -n else n
theorem far_any (n : Int) (h0 : -9223372036854775808 ≤ n) (h1 : n ≤ 9223372036854775807) (w : World) :
    Calls Try.prog 33 #[.int .i64 n] w fun e w' => e = .returned (.int .u64 (farv n)) ∧ w' = w := by
  by_cases h : n < 0
  · have E : Hid (IntKind.u64.wrap (0 - IntKind.u64.wrap n) = farv n) := by
      show _ = _
      rw [IntKind.wrap_u64, IntKind.wrap_u64]; unfold farv; rw [if_pos h]; omega
    have E2 : Hid (IntKind.u64.wrap (-IntKind.u64.wrap n) = farv n) := by
      show _ = _
      rw [IntKind.wrap_u64, IntKind.wrap_u64]; unfold farv; rw [if_pos h]; omega
    go_enter Try.func33, Try.ntmps33
    go_wp2
    first | rw [E.out] | rw [E2.out]
    go_ret
    exact ⟨rfl, rfl⟩
  · have E : Hid (farv n = n) := by show _ = _; unfold farv; rw [if_neg h]
    go_enter Try.func33, Try.ntmps33
    go_wp2
    go_ret
    exact ⟨by rw [E.out]; rfl, rfl⟩
theorem refAddw_any (m l : Int) (m0 : 0 ≤ m) (l0 : 0 ≤ l) (l1 : l ≤ 18446744073709551615) (hs : m + l < 340282366920938463463374607431768211456) (w : World) :
    Calls Try.prog 34 #[.agg #[.int .u64 (hiw m), .int .u64 (low m)], .agg #[.int .u64 0, .int .u64 l]] w fun e w' => e = .returned (.tuple #[.agg #[.int .u64 (hiw (m + l)), .int .u64 (low (m + l))], .int .u64 0]) ∧ Below w.heap.size w w' := by
  have h := refAdd_any m l ⟨m0, by omega⟩ ⟨l0, by omega⟩ w
  rw [(hiw_word l0 l1).1, (hiw_word l0 l1).2, show addv m l = m + l by unfold addv; omega, show addc m l = 0 by unfold addc; omega] at h
  exact h
theorem refSubw_any (m l : Int) (hs : m < 340282366920938463463374607431768211456) (l0 : 0 ≤ l) (l1 : l ≤ 18446744073709551615) (hle : l ≤ m) (w : World) :
    Calls Try.prog 36 #[.agg #[.int .u64 (hiw m), .int .u64 (low m)], .agg #[.int .u64 0, .int .u64 l]] w fun e w' => e = .returned (.tuple #[.agg #[.int .u64 (hiw (m - l)), .int .u64 (low (m - l))], .int .u64 0]) ∧ Below w.heap.size w w' := by
  have h := refSub_any m l ⟨by omega, hs⟩ ⟨l0, by omega⟩ w
  rw [(hiw_word l0 l1).1, (hiw_word l0 l1).2, show subv m l = m - l by unfold subv; omega, show subc m l = 0 by unfold subc; rw [if_neg (by omega)]] at h
  exact h
theorem refCmpw_any (m l : Int) (m0 : 0 ≤ m) (hs : m < 340282366920938463463374607431768211456) (l0 : 0 ≤ l) (l1 : l ≤ 18446744073709551615) (w : World) :
    Calls Try.prog 35 #[.agg #[.int .u64 (hiw m), .int .u64 (low m)], .agg #[.int .u64 0, .int .u64 l]] w fun e w' => e = .returned (.int .i64 (cmpv m l)) ∧ Below w.heap.size w w' := by
  have h := refCmp_any m l ⟨m0, hs⟩ ⟨l0, by omega⟩ w
  rw [(hiw_word l0 l1).1, (hiw_word l0 l1).2] at h
  exact h
theorem cmpv_le' {m l : Int} (h : m ≤ l) : cmpv m l ≤ 0 := by unfold cmpv; (repeat split) <;> omega
theorem cmpv_gt' {m l : Int} (h : l < m) : cmpv m l = 1 := by unfold cmpv; rw [if_neg (by omega), if_pos (by omega)]
/-- The wait by the quotient and what is left of it. -/
theorem wtv_top {h r s m : Int} (hm : msv h s = m) (hz : 0 < m) (hr : 0 < r) (hg : 4611686018427387904 ≤ m / r) : wtv h r s = 4611686018427387904 := by
  unfold wtv; rw [hm, if_neg (by omega), if_neg (by omega), wait_ref hz hr]
  split <;> split <;> omega
theorem wtv_in {h r s m : Int} (hm : msv h s = m) (hz : 0 < m) (hr : 0 < r) (hg : m / r < 4611686018427387904) : wtv h r s = m / r + (if 0 < m % r then 1 else 0) := by
  unfold wtv; rw [hm, if_neg (by omega), if_neg (by omega), wait_ref hz hr]
  rw [if_neg]
  split <;> omega
theorem wtv_no {h r s m : Int} (hm : msv h s = m) (hz : 0 < m) (hr : r ≤ 0) : wtv h r s = 4611686018427387904 := by
  unfold wtv; rw [hm, if_neg (by omega), if_pos hr]
theorem hiw_big {q : Int} (h : 18446744073709551616 ≤ q) : 0 < hiw q := by unfold hiw; omega
set_option maxHeartbeats 1000000 in
theorem refWait_0 (a h r s : Int) (h0 : -9223372036854775808 ≤ h) (h1 : h ≤ 9223372036854775807) (s1 : s ≤ 9223372036854775807) (hz : msv h s = 0) (w : World) :
    Calls Try.prog 18 #[.agg #[.int .i64 a, .int .i64 h], .int .i64 r, .int .i64 s] w fun e w' => e = .returned (.int .i64 0) ∧ Below w.heap.size w w' := by
  rcases Int.lt_or_le 0 s with hs0 | hs0
  · have hsd : decide (s ≤ 0) = false := decide_eq_false (by omega)
    have hle : s * 1000000 ≤ h := by
      rcases Int.lt_or_le h (s * 1000000) with g | g
      · unfold msv at hz; rw [if_neg (by omega), if_neg (by omega)] at hz; omega
      · exact g
    have hh : 0 ≤ h := by omega
    have EF : Hid (farv h = h) := by show _ = _; unfold farv; rw [if_neg (by omega)]
    have K := cmpv_le' (m := s * 1000000) (l := h) hle
    clear hz
    go_enter Try.func18, Try.ntmps18
    go_wp2_with fail
    refine (refTimes_any s 1000000 (by omega) (by omega) (by omega) (by omega) _).mono ?_
    rintro e w1 ⟨rfl, hw1⟩
    subst hw1
    go_wp2_with fail
    refine (far_any h h0 h1 _).mono ?_
    rintro e w1 ⟨rfl, hw1⟩
    subst hw1
    rw [EF.out]
    go_wp2_with fail
    refine (refAddw_any (s * 1000000) h (by omega) (by omega) (by omega) (by omega) _).mono ?_
    rintro e w1 ⟨rfl, hw1⟩
    have A : At2 w1 w.heap.size (.int .i64 a) (.int .i64 h) := At2.below (by constructor <;> simp [go_sem]) hw1 (by simp <;> omega)
    have N : At2 w1 (w.heap.size + 1) (.int .u64 (hiw (s * 1000000))) (.int .u64 (low (s * 1000000))) := At2.below (by constructor <;> simp [go_sem]) hw1 (by simp <;> omega)
    have F : At2 w1 (w.heap.size + 1 + 1) (.int .u64 0) (.int .u64 h) := At2.below (by constructor <;> simp [go_sem]) hw1 (by simp <;> omega)
    have hb : Below w.heap.size w w1 := Below.call (by go_grown) (by simp <;> omega) hw1
    have hs := hb.size
    have lA := A.lt
    have lN := N.lt
    have lF := F.lt
    clear hw1
    obtain ⟨x0, x1, x2, x3, x4⟩ := id A
    obtain ⟨y0, y1, y2, y3, y4⟩ := id N
    obtain ⟨z0, z1, z2, z3, z4⟩ := id F
    go_wp2_with fail
    refine (refCmpw_any (s * 1000000) h (by omega) (by omega) (by omega) (by omega) _).mono ?_
    rintro e w2 ⟨rfl, hw2⟩
    have M : At2 w2 w1.heap.size (.int .u64 (hiw (s * 1000000 + h))) (.int .u64 (low (s * 1000000 + h))) := At2.after_fresh' hw2
    replace N := (N.alloc _).below hw2 (by simp <;> omega)
    replace F := (F.alloc _).below hw2 (by simp <;> omega)
    replace hb : Below w.heap.size w w2 := Below.call (show Below w.heap.size w _ by have := hb.size; go_grown) (by have := hb.size; simp <;> omega) hw2
    clear hw2 x0 x1 x2 x3 x4 y0 y1 y2 y3 y4 z0 z1 z2 z3 z4
    obtain ⟨y0, y1, y2, y3, y4⟩ := id N
    obtain ⟨z0, z1, z2, z3, z4⟩ := id F
    have hs := hb.size
    have lM := M.lt
    go_wp2
    go_ret
    exact ⟨rfl, by go_grown⟩
  · go_enter Try.func18, Try.ntmps18
    go_wp2
    go_ret
    exact ⟨rfl, by go_grown⟩
set_option maxHeartbeats 2000000 in
theorem refWait_pos (a h r s : Int) (h0 : -9223372036854775808 ≤ h) (h1 : h ≤ 9223372036854775807) (r1 : r ≤ 9223372036854775807) (hs0 : 0 < s) (s1 : s ≤ 9223372036854775807) (hh : 0 ≤ h) (hm : 0 < s * 1000000 - h) (w : World) :
    Calls Try.prog 18 #[.agg #[.int .i64 a, .int .i64 h], .int .i64 r, .int .i64 s] w fun e w' => e = .returned (.int .i64 (wtv h r s)) ∧ Below w.heap.size w w' := by
  have hM : msv h s = s * 1000000 - h := by unfold msv; rw [if_neg (by omega), if_neg (by omega)]
  have hsd : decide (s ≤ 0) = false := decide_eq_false (by omega)
  have hhd : True := trivial
  have EF : Hid (farv h = h) := by show _ = _; unfold farv; rw [if_neg (by omega)]
  have K := cmpv_gt' (m := s * 1000000) (l := h) (by omega)
  rcases Int.lt_or_le 0 r with hr | hr
  · have hrd : decide (r ≤ 0) = false := decide_eq_false (by omega)
    have p0 : 0 ≤ (s * 1000000 - h) / r := Int.ediv_nonneg (by omega) (by omega)
    have p1 : (s * 1000000 - h) / r ≤ s * 1000000 - h := Int.ediv_le_self _ (by omega)
    have t0 := Int.emod_nonneg (s * 1000000 - h) (show r ≠ 0 by omega)
    have t1 := Int.emod_lt_of_pos (s * 1000000 - h) hr
    have D := refDiv_any (s * 1000000 - h) r ⟨by omega, by omega⟩ hr (by omega)
    rcases Int.lt_or_le ((s * 1000000 - h) / r) 4611686018427387904 with hg | hg
    · have E := wtv_in hM (by omega) hr hg
      rw [E]; clear E
      have L : low ((s * 1000000 - h) / r) = (s * 1000000 - h) / r := (hiw_word p0 (by omega)).2
      have G : hiw ((s * 1000000 - h) / r) = 0 := (hiw_word p0 (by omega)).1
      rw [G, L] at D
      clear L G hM
      generalize (s * 1000000 - h) / r = q at *
      generalize (s * 1000000 - h) % r = k at *
      have hqd : decide (4611686018427387904 ≤ q) = false := decide_eq_false (by omega)
      by_cases hk : 0 < k
      · rw [if_pos hk]
        go_enter Try.func18, Try.ntmps18
        go_wp2_with fail
        refine (refTimes_any s 1000000 (by omega) (by omega) (by omega) (by omega) _).mono ?_
        rintro e w1 ⟨rfl, hw1⟩
        subst hw1
        go_wp2_with fail
        refine (far_any h h0 h1 _).mono ?_
        rintro e w1 ⟨rfl, hw1⟩
        subst hw1
        rw [EF.out]
        go_wp2_with fail
        refine (refAddw_any (s * 1000000) h (by omega) (by omega) (by omega) (by omega) _).mono ?_
        rintro e w1 ⟨rfl, hw1⟩
        have A : At2 w1 w.heap.size (.int .i64 a) (.int .i64 h) := At2.below (by constructor <;> simp [go_sem]) hw1 (by simp <;> omega)
        have N : At2 w1 (w.heap.size + 1) (.int .u64 (hiw (s * 1000000))) (.int .u64 (low (s * 1000000))) := At2.below (by constructor <;> simp [go_sem]) hw1 (by simp <;> omega)
        have F : At2 w1 (w.heap.size + 1 + 1) (.int .u64 0) (.int .u64 h) := At2.below (by constructor <;> simp [go_sem]) hw1 (by simp <;> omega)
        have hb : Below w.heap.size w w1 := Below.call (by go_grown) (by simp <;> omega) hw1
        have hs := hb.size
        have lA := A.lt
        have lN := N.lt
        have lF := F.lt
        clear hw1
        obtain ⟨x0, x1, x2, x3, x4⟩ := id A
        obtain ⟨y0, y1, y2, y3, y4⟩ := id N
        obtain ⟨z0, z1, z2, z3, z4⟩ := id F
        go_wp2_with fail
        refine (refCmpw_any (s * 1000000) h (by omega) (by omega) (by omega) (by omega) _).mono ?_
        rintro e w2 ⟨rfl, hw2⟩
        rw [K]
        have M : At2 w2 w1.heap.size (.int .u64 (hiw (s * 1000000 + h))) (.int .u64 (low (s * 1000000 + h))) := At2.after_fresh' hw2
        replace N := (N.alloc _).below hw2 (by simp <;> omega)
        replace F := (F.alloc _).below hw2 (by simp <;> omega)
        replace hb : Below w.heap.size w w2 := Below.call (show Below w.heap.size w _ by have := hb.size; go_grown) (by have := hb.size; simp <;> omega) hw2
        clear hw2 x0 x1 x2 x3 x4 y0 y1 y2 y3 y4 z0 z1 z2 z3 z4
        obtain ⟨y0, y1, y2, y3, y4⟩ := id N
        obtain ⟨z0, z1, z2, z3, z4⟩ := id F
        have hs := hb.size
        have lM := M.lt
        go_wp2_with fail
        refine (refSubw_any (s * 1000000) h (by omega) (by omega) (by omega) (by omega) _).mono ?_
        rintro e w3 ⟨rfl, hw3⟩
        replace M := M.below hw3 (by omega)
        replace hb : Below w.heap.size w w3 := Below.call (show Below w.heap.size w _ by have := hb.size; go_grown) (by have := hb.size; simp <;> omega) hw3
        clear hw3 y0 y1 y2 y3 y4 z0 z1 z2 z3 z4
        have hs := hb.size
        have lM := M.lt
        have MM := (M.put (.int .u64 (hiw (s * 1000000 - h))) (.int .u64 (low (s * 1000000 - h)))).alloc (.cells #[.int .u64 (hiw (s * 1000000 - h)), .int .u64 (low (s * 1000000 - h))] 42)
        obtain ⟨x0, x1, x2, x3, x4⟩ := id M
        obtain ⟨y0, y1, y2, y3, y4⟩ := id MM
        go_wp2_with fail
        refine (D _).mono ?_
        rintro e w5 ⟨rfl, hw5⟩
        replace hb : Below w.heap.size w w5 := Below.call (show Below w.heap.size w _ by have := hb.size; go_grown) (by have := hb.size; simp <;> omega) hw5
        clear hw5
        have hs := hb.size
        go_wp2
        go_ret
        exact ⟨rfl, by go_grown⟩
      · rw [if_neg hk, Int.add_zero]
        have hkd : decide (0 < k) = false := decide_eq_false hk
        go_enter Try.func18, Try.ntmps18
        go_wp2_with fail
        refine (refTimes_any s 1000000 (by omega) (by omega) (by omega) (by omega) _).mono ?_
        rintro e w1 ⟨rfl, hw1⟩
        subst hw1
        go_wp2_with fail
        refine (far_any h h0 h1 _).mono ?_
        rintro e w1 ⟨rfl, hw1⟩
        subst hw1
        rw [EF.out]
        go_wp2_with fail
        refine (refAddw_any (s * 1000000) h (by omega) (by omega) (by omega) (by omega) _).mono ?_
        rintro e w1 ⟨rfl, hw1⟩
        have A : At2 w1 w.heap.size (.int .i64 a) (.int .i64 h) := At2.below (by constructor <;> simp [go_sem]) hw1 (by simp <;> omega)
        have N : At2 w1 (w.heap.size + 1) (.int .u64 (hiw (s * 1000000))) (.int .u64 (low (s * 1000000))) := At2.below (by constructor <;> simp [go_sem]) hw1 (by simp <;> omega)
        have F : At2 w1 (w.heap.size + 1 + 1) (.int .u64 0) (.int .u64 h) := At2.below (by constructor <;> simp [go_sem]) hw1 (by simp <;> omega)
        have hb : Below w.heap.size w w1 := Below.call (by go_grown) (by simp <;> omega) hw1
        have hs := hb.size
        have lA := A.lt
        have lN := N.lt
        have lF := F.lt
        clear hw1
        obtain ⟨x0, x1, x2, x3, x4⟩ := id A
        obtain ⟨y0, y1, y2, y3, y4⟩ := id N
        obtain ⟨z0, z1, z2, z3, z4⟩ := id F
        go_wp2_with fail
        refine (refCmpw_any (s * 1000000) h (by omega) (by omega) (by omega) (by omega) _).mono ?_
        rintro e w2 ⟨rfl, hw2⟩
        rw [K]
        have M : At2 w2 w1.heap.size (.int .u64 (hiw (s * 1000000 + h))) (.int .u64 (low (s * 1000000 + h))) := At2.after_fresh' hw2
        replace N := (N.alloc _).below hw2 (by simp <;> omega)
        replace F := (F.alloc _).below hw2 (by simp <;> omega)
        replace hb : Below w.heap.size w w2 := Below.call (show Below w.heap.size w _ by have := hb.size; go_grown) (by have := hb.size; simp <;> omega) hw2
        clear hw2 x0 x1 x2 x3 x4 y0 y1 y2 y3 y4 z0 z1 z2 z3 z4
        obtain ⟨y0, y1, y2, y3, y4⟩ := id N
        obtain ⟨z0, z1, z2, z3, z4⟩ := id F
        have hs := hb.size
        have lM := M.lt
        go_wp2_with fail
        refine (refSubw_any (s * 1000000) h (by omega) (by omega) (by omega) (by omega) _).mono ?_
        rintro e w3 ⟨rfl, hw3⟩
        replace M := M.below hw3 (by omega)
        replace hb : Below w.heap.size w w3 := Below.call (show Below w.heap.size w _ by have := hb.size; go_grown) (by have := hb.size; simp <;> omega) hw3
        clear hw3 y0 y1 y2 y3 y4 z0 z1 z2 z3 z4
        have hs := hb.size
        have lM := M.lt
        have MM := (M.put (.int .u64 (hiw (s * 1000000 - h))) (.int .u64 (low (s * 1000000 - h)))).alloc (.cells #[.int .u64 (hiw (s * 1000000 - h)), .int .u64 (low (s * 1000000 - h))] 42)
        obtain ⟨x0, x1, x2, x3, x4⟩ := id M
        obtain ⟨y0, y1, y2, y3, y4⟩ := id MM
        go_wp2_with fail
        refine (D _).mono ?_
        rintro e w5 ⟨rfl, hw5⟩
        replace hb : Below w.heap.size w w5 := Below.call (show Below w.heap.size w _ by have := hb.size; go_grown) (by have := hb.size; simp <;> omega) hw5
        clear hw5
        have hs := hb.size
        go_wp2
        go_ret
        exact ⟨rfl, by go_grown⟩
    · have E := wtv_top hM (by omega) hr hg
      rw [E]; clear E hM
      by_cases hbig : 18446744073709551616 ≤ (s * 1000000 - h) / r
      · have G := hiw_big hbig
        have l0 := low_bd ((s * 1000000 - h) / r)
        have G1 : hiw ((s * 1000000 - h) / r) ≤ 18446744073709551615 := (hiw_bd ⟨p0, by omega⟩).2
        clear hbig hg p0 p1
        generalize hiw ((s * 1000000 - h) / r) = q1 at *
        generalize low ((s * 1000000 - h) / r) = q0 at *
        generalize (s * 1000000 - h) % r = k at *
        go_enter Try.func18, Try.ntmps18
        go_wp2_with fail
        refine (refTimes_any s 1000000 (by omega) (by omega) (by omega) (by omega) _).mono ?_
        rintro e w1 ⟨rfl, hw1⟩
        subst hw1
        go_wp2_with fail
        refine (far_any h h0 h1 _).mono ?_
        rintro e w1 ⟨rfl, hw1⟩
        subst hw1
        rw [EF.out]
        go_wp2_with fail
        refine (refAddw_any (s * 1000000) h (by omega) (by omega) (by omega) (by omega) _).mono ?_
        rintro e w1 ⟨rfl, hw1⟩
        have A : At2 w1 w.heap.size (.int .i64 a) (.int .i64 h) := At2.below (by constructor <;> simp [go_sem]) hw1 (by simp <;> omega)
        have N : At2 w1 (w.heap.size + 1) (.int .u64 (hiw (s * 1000000))) (.int .u64 (low (s * 1000000))) := At2.below (by constructor <;> simp [go_sem]) hw1 (by simp <;> omega)
        have F : At2 w1 (w.heap.size + 1 + 1) (.int .u64 0) (.int .u64 h) := At2.below (by constructor <;> simp [go_sem]) hw1 (by simp <;> omega)
        have hb : Below w.heap.size w w1 := Below.call (by go_grown) (by simp <;> omega) hw1
        have hs := hb.size
        have lA := A.lt
        have lN := N.lt
        have lF := F.lt
        clear hw1
        obtain ⟨x0, x1, x2, x3, x4⟩ := id A
        obtain ⟨y0, y1, y2, y3, y4⟩ := id N
        obtain ⟨z0, z1, z2, z3, z4⟩ := id F
        go_wp2_with fail
        refine (refCmpw_any (s * 1000000) h (by omega) (by omega) (by omega) (by omega) _).mono ?_
        rintro e w2 ⟨rfl, hw2⟩
        rw [K]
        have M : At2 w2 w1.heap.size (.int .u64 (hiw (s * 1000000 + h))) (.int .u64 (low (s * 1000000 + h))) := At2.after_fresh' hw2
        replace N := (N.alloc _).below hw2 (by simp <;> omega)
        replace F := (F.alloc _).below hw2 (by simp <;> omega)
        replace hb : Below w.heap.size w w2 := Below.call (show Below w.heap.size w _ by have := hb.size; go_grown) (by have := hb.size; simp <;> omega) hw2
        clear hw2 x0 x1 x2 x3 x4 y0 y1 y2 y3 y4 z0 z1 z2 z3 z4
        obtain ⟨y0, y1, y2, y3, y4⟩ := id N
        obtain ⟨z0, z1, z2, z3, z4⟩ := id F
        have hs := hb.size
        have lM := M.lt
        go_wp2_with fail
        refine (refSubw_any (s * 1000000) h (by omega) (by omega) (by omega) (by omega) _).mono ?_
        rintro e w3 ⟨rfl, hw3⟩
        replace M := M.below hw3 (by omega)
        replace hb : Below w.heap.size w w3 := Below.call (show Below w.heap.size w _ by have := hb.size; go_grown) (by have := hb.size; simp <;> omega) hw3
        clear hw3 y0 y1 y2 y3 y4 z0 z1 z2 z3 z4
        have hs := hb.size
        have lM := M.lt
        have MM := (M.put (.int .u64 (hiw (s * 1000000 - h))) (.int .u64 (low (s * 1000000 - h)))).alloc (.cells #[.int .u64 (hiw (s * 1000000 - h)), .int .u64 (low (s * 1000000 - h))] 42)
        obtain ⟨x0, x1, x2, x3, x4⟩ := id M
        obtain ⟨y0, y1, y2, y3, y4⟩ := id MM
        go_wp2_with fail
        refine (D _).mono ?_
        rintro e w5 ⟨rfl, hw5⟩
        replace hb : Below w.heap.size w w5 := Below.call (show Below w.heap.size w _ by have := hb.size; go_grown) (by have := hb.size; simp <;> omega) hw5
        clear hw5
        have hs := hb.size
        go_wp2
        go_ret
        exact ⟨rfl, by go_grown⟩
      · have L : low ((s * 1000000 - h) / r) = (s * 1000000 - h) / r := (hiw_word p0 (by omega)).2
        have G : hiw ((s * 1000000 - h) / r) = 0 := (hiw_word p0 (by omega)).1
        rw [G, L] at D
        clear L G
        generalize (s * 1000000 - h) / r = q at *
        generalize (s * 1000000 - h) % r = k at *
        go_enter Try.func18, Try.ntmps18
        go_wp2_with fail
        refine (refTimes_any s 1000000 (by omega) (by omega) (by omega) (by omega) _).mono ?_
        rintro e w1 ⟨rfl, hw1⟩
        subst hw1
        go_wp2_with fail
        refine (far_any h h0 h1 _).mono ?_
        rintro e w1 ⟨rfl, hw1⟩
        subst hw1
        rw [EF.out]
        go_wp2_with fail
        refine (refAddw_any (s * 1000000) h (by omega) (by omega) (by omega) (by omega) _).mono ?_
        rintro e w1 ⟨rfl, hw1⟩
        have A : At2 w1 w.heap.size (.int .i64 a) (.int .i64 h) := At2.below (by constructor <;> simp [go_sem]) hw1 (by simp <;> omega)
        have N : At2 w1 (w.heap.size + 1) (.int .u64 (hiw (s * 1000000))) (.int .u64 (low (s * 1000000))) := At2.below (by constructor <;> simp [go_sem]) hw1 (by simp <;> omega)
        have F : At2 w1 (w.heap.size + 1 + 1) (.int .u64 0) (.int .u64 h) := At2.below (by constructor <;> simp [go_sem]) hw1 (by simp <;> omega)
        have hb : Below w.heap.size w w1 := Below.call (by go_grown) (by simp <;> omega) hw1
        have hs := hb.size
        have lA := A.lt
        have lN := N.lt
        have lF := F.lt
        clear hw1
        obtain ⟨x0, x1, x2, x3, x4⟩ := id A
        obtain ⟨y0, y1, y2, y3, y4⟩ := id N
        obtain ⟨z0, z1, z2, z3, z4⟩ := id F
        go_wp2_with fail
        refine (refCmpw_any (s * 1000000) h (by omega) (by omega) (by omega) (by omega) _).mono ?_
        rintro e w2 ⟨rfl, hw2⟩
        rw [K]
        have M : At2 w2 w1.heap.size (.int .u64 (hiw (s * 1000000 + h))) (.int .u64 (low (s * 1000000 + h))) := At2.after_fresh' hw2
        replace N := (N.alloc _).below hw2 (by simp <;> omega)
        replace F := (F.alloc _).below hw2 (by simp <;> omega)
        replace hb : Below w.heap.size w w2 := Below.call (show Below w.heap.size w _ by have := hb.size; go_grown) (by have := hb.size; simp <;> omega) hw2
        clear hw2 x0 x1 x2 x3 x4 y0 y1 y2 y3 y4 z0 z1 z2 z3 z4
        obtain ⟨y0, y1, y2, y3, y4⟩ := id N
        obtain ⟨z0, z1, z2, z3, z4⟩ := id F
        have hs := hb.size
        have lM := M.lt
        go_wp2_with fail
        refine (refSubw_any (s * 1000000) h (by omega) (by omega) (by omega) (by omega) _).mono ?_
        rintro e w3 ⟨rfl, hw3⟩
        replace M := M.below hw3 (by omega)
        replace hb : Below w.heap.size w w3 := Below.call (show Below w.heap.size w _ by have := hb.size; go_grown) (by have := hb.size; simp <;> omega) hw3
        clear hw3 y0 y1 y2 y3 y4 z0 z1 z2 z3 z4
        have hs := hb.size
        have lM := M.lt
        have MM := (M.put (.int .u64 (hiw (s * 1000000 - h))) (.int .u64 (low (s * 1000000 - h)))).alloc (.cells #[.int .u64 (hiw (s * 1000000 - h)), .int .u64 (low (s * 1000000 - h))] 42)
        obtain ⟨x0, x1, x2, x3, x4⟩ := id M
        obtain ⟨y0, y1, y2, y3, y4⟩ := id MM
        go_wp2_with fail
        refine (D _).mono ?_
        rintro e w5 ⟨rfl, hw5⟩
        replace hb : Below w.heap.size w w5 := Below.call (show Below w.heap.size w _ by have := hb.size; go_grown) (by have := hb.size; simp <;> omega) hw5
        clear hw5
        have hs := hb.size
        go_wp2
        go_ret
        exact ⟨rfl, by go_grown⟩
  · rw [wtv_no hM (by omega) hr]; clear hM
    go_enter Try.func18, Try.ntmps18
    go_wp2_with fail
    refine (refTimes_any s 1000000 (by omega) (by omega) (by omega) (by omega) _).mono ?_
    rintro e w1 ⟨rfl, hw1⟩
    subst hw1
    go_wp2_with fail
    refine (far_any h h0 h1 _).mono ?_
    rintro e w1 ⟨rfl, hw1⟩
    subst hw1
    rw [EF.out]
    go_wp2_with fail
    refine (refAddw_any (s * 1000000) h (by omega) (by omega) (by omega) (by omega) _).mono ?_
    rintro e w1 ⟨rfl, hw1⟩
    have A : At2 w1 w.heap.size (.int .i64 a) (.int .i64 h) := At2.below (by constructor <;> simp [go_sem]) hw1 (by simp <;> omega)
    have N : At2 w1 (w.heap.size + 1) (.int .u64 (hiw (s * 1000000))) (.int .u64 (low (s * 1000000))) := At2.below (by constructor <;> simp [go_sem]) hw1 (by simp <;> omega)
    have F : At2 w1 (w.heap.size + 1 + 1) (.int .u64 0) (.int .u64 h) := At2.below (by constructor <;> simp [go_sem]) hw1 (by simp <;> omega)
    have hb : Below w.heap.size w w1 := Below.call (by go_grown) (by simp <;> omega) hw1
    have hs := hb.size
    have lA := A.lt
    have lN := N.lt
    have lF := F.lt
    clear hw1
    obtain ⟨x0, x1, x2, x3, x4⟩ := id A
    obtain ⟨y0, y1, y2, y3, y4⟩ := id N
    obtain ⟨z0, z1, z2, z3, z4⟩ := id F
    go_wp2_with fail
    refine (refCmpw_any (s * 1000000) h (by omega) (by omega) (by omega) (by omega) _).mono ?_
    rintro e w2 ⟨rfl, hw2⟩
    rw [K]
    have M : At2 w2 w1.heap.size (.int .u64 (hiw (s * 1000000 + h))) (.int .u64 (low (s * 1000000 + h))) := At2.after_fresh' hw2
    replace N := (N.alloc _).below hw2 (by simp <;> omega)
    replace F := (F.alloc _).below hw2 (by simp <;> omega)
    replace hb : Below w.heap.size w w2 := Below.call (show Below w.heap.size w _ by have := hb.size; go_grown) (by have := hb.size; simp <;> omega) hw2
    clear hw2 x0 x1 x2 x3 x4 y0 y1 y2 y3 y4 z0 z1 z2 z3 z4
    obtain ⟨y0, y1, y2, y3, y4⟩ := id N
    obtain ⟨z0, z1, z2, z3, z4⟩ := id F
    have hs := hb.size
    have lM := M.lt
    go_wp2_with fail
    refine (refSubw_any (s * 1000000) h (by omega) (by omega) (by omega) (by omega) _).mono ?_
    rintro e w3 ⟨rfl, hw3⟩
    replace M := M.below hw3 (by omega)
    replace hb : Below w.heap.size w w3 := Below.call (show Below w.heap.size w _ by have := hb.size; go_grown) (by have := hb.size; simp <;> omega) hw3
    clear hw3 y0 y1 y2 y3 y4 z0 z1 z2 z3 z4
    have hs := hb.size
    have lM := M.lt
    have MM := (M.put (.int .u64 (hiw (s * 1000000 - h))) (.int .u64 (low (s * 1000000 - h)))).alloc (.cells #[.int .u64 (hiw (s * 1000000 - h)), .int .u64 (low (s * 1000000 - h))] 42)
    obtain ⟨x0, x1, x2, x3, x4⟩ := id M
    obtain ⟨y0, y1, y2, y3, y4⟩ := id MM
    go_wp2
    go_ret
    exact ⟨rfl, by go_grown⟩
set_option maxHeartbeats 2000000 in
theorem refWait_neg (a h r s : Int) (h0 : -9223372036854775808 ≤ h) (h1 : h ≤ 9223372036854775807) (r1 : r ≤ 9223372036854775807) (hs0 : 0 < s) (s1 : s ≤ 9223372036854775807) (hh : h < 0) (hm : 0 < s * 1000000 + -h) (w : World) :
    Calls Try.prog 18 #[.agg #[.int .i64 a, .int .i64 h], .int .i64 r, .int .i64 s] w fun e w' => e = .returned (.int .i64 (wtv h r s)) ∧ Below w.heap.size w w' := by
  have hM : msv h s = s * 1000000 + -h := by unfold msv; rw [if_neg (by omega), if_neg (by omega)]; omega
  have hsd : decide (s ≤ 0) = false := decide_eq_false (by omega)
  have hhd : decide (0 ≤ h) = false := decide_eq_false (by omega)
  have EF : Hid (farv h = -h) := by show _ = _; unfold farv; rw [if_pos hh]
  rcases Int.lt_or_le 0 r with hr | hr
  · have hrd : decide (r ≤ 0) = false := decide_eq_false (by omega)
    have p0 : 0 ≤ (s * 1000000 + -h) / r := Int.ediv_nonneg (by omega) (by omega)
    have p1 : (s * 1000000 + -h) / r ≤ s * 1000000 + -h := Int.ediv_le_self _ (by omega)
    have t0 := Int.emod_nonneg (s * 1000000 + -h) (show r ≠ 0 by omega)
    have t1 := Int.emod_lt_of_pos (s * 1000000 + -h) hr
    have D := refDiv_any (s * 1000000 + -h) r ⟨by omega, by omega⟩ hr (by omega)
    rcases Int.lt_or_le ((s * 1000000 + -h) / r) 4611686018427387904 with hg | hg
    · have E := wtv_in hM (by omega) hr hg
      rw [E]; clear E
      have L : low ((s * 1000000 + -h) / r) = (s * 1000000 + -h) / r := (hiw_word p0 (by omega)).2
      have G : hiw ((s * 1000000 + -h) / r) = 0 := (hiw_word p0 (by omega)).1
      rw [G, L] at D
      clear L G hM
      generalize (s * 1000000 + -h) / r = q at *
      generalize (s * 1000000 + -h) % r = k at *
      have hqd : decide (4611686018427387904 ≤ q) = false := decide_eq_false (by omega)
      by_cases hk : 0 < k
      · rw [if_pos hk]
        go_enter Try.func18, Try.ntmps18
        go_wp2_with fail
        refine (refTimes_any s 1000000 (by omega) (by omega) (by omega) (by omega) _).mono ?_
        rintro e w1 ⟨rfl, hw1⟩
        subst hw1
        go_wp2_with fail
        refine (far_any h h0 h1 _).mono ?_
        rintro e w1 ⟨rfl, hw1⟩
        subst hw1
        rw [EF.out]
        go_wp2_with fail
        refine (refAddw_any (s * 1000000) (-h) (by omega) (by omega) (by omega) (by omega) _).mono ?_
        rintro e w1 ⟨rfl, hw1⟩
        have A : At2 w1 w.heap.size (.int .i64 a) (.int .i64 h) := At2.below (by constructor <;> simp [go_sem]) hw1 (by simp <;> omega)
        have N : At2 w1 (w.heap.size + 1) (.int .u64 (hiw (s * 1000000))) (.int .u64 (low (s * 1000000))) := At2.below (by constructor <;> simp [go_sem]) hw1 (by simp <;> omega)
        have F : At2 w1 (w.heap.size + 1 + 1) (.int .u64 0) (.int .u64 (-h)) := At2.below (by constructor <;> simp [go_sem]) hw1 (by simp <;> omega)
        have hb : Below w.heap.size w w1 := Below.call (by go_grown) (by simp <;> omega) hw1
        have hs := hb.size
        have lA := A.lt
        have lN := N.lt
        have lF := F.lt
        clear hw1
        obtain ⟨x0, x1, x2, x3, x4⟩ := id A
        obtain ⟨y0, y1, y2, y3, y4⟩ := id N
        obtain ⟨z0, z1, z2, z3, z4⟩ := id F
        go_wp2_with fail
        refine (D _).mono ?_
        rintro e w5 ⟨rfl, hw5⟩
        replace hb : Below w.heap.size w w5 := Below.call (show Below w.heap.size w _ by have := hb.size; go_grown) (by have := hb.size; simp <;> omega) hw5
        clear hw5
        have hs := hb.size
        go_wp2
        go_ret
        exact ⟨rfl, by go_grown⟩
      · rw [if_neg hk, Int.add_zero]
        have hkd : decide (0 < k) = false := decide_eq_false hk
        go_enter Try.func18, Try.ntmps18
        go_wp2_with fail
        refine (refTimes_any s 1000000 (by omega) (by omega) (by omega) (by omega) _).mono ?_
        rintro e w1 ⟨rfl, hw1⟩
        subst hw1
        go_wp2_with fail
        refine (far_any h h0 h1 _).mono ?_
        rintro e w1 ⟨rfl, hw1⟩
        subst hw1
        rw [EF.out]
        go_wp2_with fail
        refine (refAddw_any (s * 1000000) (-h) (by omega) (by omega) (by omega) (by omega) _).mono ?_
        rintro e w1 ⟨rfl, hw1⟩
        have A : At2 w1 w.heap.size (.int .i64 a) (.int .i64 h) := At2.below (by constructor <;> simp [go_sem]) hw1 (by simp <;> omega)
        have N : At2 w1 (w.heap.size + 1) (.int .u64 (hiw (s * 1000000))) (.int .u64 (low (s * 1000000))) := At2.below (by constructor <;> simp [go_sem]) hw1 (by simp <;> omega)
        have F : At2 w1 (w.heap.size + 1 + 1) (.int .u64 0) (.int .u64 (-h)) := At2.below (by constructor <;> simp [go_sem]) hw1 (by simp <;> omega)
        have hb : Below w.heap.size w w1 := Below.call (by go_grown) (by simp <;> omega) hw1
        have hs := hb.size
        have lA := A.lt
        have lN := N.lt
        have lF := F.lt
        clear hw1
        obtain ⟨x0, x1, x2, x3, x4⟩ := id A
        obtain ⟨y0, y1, y2, y3, y4⟩ := id N
        obtain ⟨z0, z1, z2, z3, z4⟩ := id F
        go_wp2_with fail
        refine (D _).mono ?_
        rintro e w5 ⟨rfl, hw5⟩
        replace hb : Below w.heap.size w w5 := Below.call (show Below w.heap.size w _ by have := hb.size; go_grown) (by have := hb.size; simp <;> omega) hw5
        clear hw5
        have hs := hb.size
        go_wp2
        go_ret
        exact ⟨rfl, by go_grown⟩
    · have E := wtv_top hM (by omega) hr hg
      rw [E]; clear E hM
      by_cases hbig : 18446744073709551616 ≤ (s * 1000000 + -h) / r
      · have G := hiw_big hbig
        have l0 := low_bd ((s * 1000000 + -h) / r)
        have G1 : hiw ((s * 1000000 + -h) / r) ≤ 18446744073709551615 := (hiw_bd ⟨p0, by omega⟩).2
        clear hbig hg p0 p1
        generalize hiw ((s * 1000000 + -h) / r) = q1 at *
        generalize low ((s * 1000000 + -h) / r) = q0 at *
        generalize (s * 1000000 + -h) % r = k at *
        go_enter Try.func18, Try.ntmps18
        go_wp2_with fail
        refine (refTimes_any s 1000000 (by omega) (by omega) (by omega) (by omega) _).mono ?_
        rintro e w1 ⟨rfl, hw1⟩
        subst hw1
        go_wp2_with fail
        refine (far_any h h0 h1 _).mono ?_
        rintro e w1 ⟨rfl, hw1⟩
        subst hw1
        rw [EF.out]
        go_wp2_with fail
        refine (refAddw_any (s * 1000000) (-h) (by omega) (by omega) (by omega) (by omega) _).mono ?_
        rintro e w1 ⟨rfl, hw1⟩
        have A : At2 w1 w.heap.size (.int .i64 a) (.int .i64 h) := At2.below (by constructor <;> simp [go_sem]) hw1 (by simp <;> omega)
        have N : At2 w1 (w.heap.size + 1) (.int .u64 (hiw (s * 1000000))) (.int .u64 (low (s * 1000000))) := At2.below (by constructor <;> simp [go_sem]) hw1 (by simp <;> omega)
        have F : At2 w1 (w.heap.size + 1 + 1) (.int .u64 0) (.int .u64 (-h)) := At2.below (by constructor <;> simp [go_sem]) hw1 (by simp <;> omega)
        have hb : Below w.heap.size w w1 := Below.call (by go_grown) (by simp <;> omega) hw1
        have hs := hb.size
        have lA := A.lt
        have lN := N.lt
        have lF := F.lt
        clear hw1
        obtain ⟨x0, x1, x2, x3, x4⟩ := id A
        obtain ⟨y0, y1, y2, y3, y4⟩ := id N
        obtain ⟨z0, z1, z2, z3, z4⟩ := id F
        go_wp2_with fail
        refine (D _).mono ?_
        rintro e w5 ⟨rfl, hw5⟩
        replace hb : Below w.heap.size w w5 := Below.call (show Below w.heap.size w _ by have := hb.size; go_grown) (by have := hb.size; simp <;> omega) hw5
        clear hw5
        have hs := hb.size
        go_wp2
        go_ret
        exact ⟨rfl, by go_grown⟩
      · have L : low ((s * 1000000 + -h) / r) = (s * 1000000 + -h) / r := (hiw_word p0 (by omega)).2
        have G : hiw ((s * 1000000 + -h) / r) = 0 := (hiw_word p0 (by omega)).1
        rw [G, L] at D
        clear L G
        generalize (s * 1000000 + -h) / r = q at *
        generalize (s * 1000000 + -h) % r = k at *
        go_enter Try.func18, Try.ntmps18
        go_wp2_with fail
        refine (refTimes_any s 1000000 (by omega) (by omega) (by omega) (by omega) _).mono ?_
        rintro e w1 ⟨rfl, hw1⟩
        subst hw1
        go_wp2_with fail
        refine (far_any h h0 h1 _).mono ?_
        rintro e w1 ⟨rfl, hw1⟩
        subst hw1
        rw [EF.out]
        go_wp2_with fail
        refine (refAddw_any (s * 1000000) (-h) (by omega) (by omega) (by omega) (by omega) _).mono ?_
        rintro e w1 ⟨rfl, hw1⟩
        have A : At2 w1 w.heap.size (.int .i64 a) (.int .i64 h) := At2.below (by constructor <;> simp [go_sem]) hw1 (by simp <;> omega)
        have N : At2 w1 (w.heap.size + 1) (.int .u64 (hiw (s * 1000000))) (.int .u64 (low (s * 1000000))) := At2.below (by constructor <;> simp [go_sem]) hw1 (by simp <;> omega)
        have F : At2 w1 (w.heap.size + 1 + 1) (.int .u64 0) (.int .u64 (-h)) := At2.below (by constructor <;> simp [go_sem]) hw1 (by simp <;> omega)
        have hb : Below w.heap.size w w1 := Below.call (by go_grown) (by simp <;> omega) hw1
        have hs := hb.size
        have lA := A.lt
        have lN := N.lt
        have lF := F.lt
        clear hw1
        obtain ⟨x0, x1, x2, x3, x4⟩ := id A
        obtain ⟨y0, y1, y2, y3, y4⟩ := id N
        obtain ⟨z0, z1, z2, z3, z4⟩ := id F
        go_wp2_with fail
        refine (D _).mono ?_
        rintro e w5 ⟨rfl, hw5⟩
        replace hb : Below w.heap.size w w5 := Below.call (show Below w.heap.size w _ by have := hb.size; go_grown) (by have := hb.size; simp <;> omega) hw5
        clear hw5
        have hs := hb.size
        go_wp2
        go_ret
        exact ⟨rfl, by go_grown⟩
  · rw [wtv_no hM (by omega) hr]; clear hM
    go_enter Try.func18, Try.ntmps18
    go_wp2_with fail
    refine (refTimes_any s 1000000 (by omega) (by omega) (by omega) (by omega) _).mono ?_
    rintro e w1 ⟨rfl, hw1⟩
    subst hw1
    go_wp2_with fail
    refine (far_any h h0 h1 _).mono ?_
    rintro e w1 ⟨rfl, hw1⟩
    subst hw1
    rw [EF.out]
    go_wp2_with fail
    refine (refAddw_any (s * 1000000) (-h) (by omega) (by omega) (by omega) (by omega) _).mono ?_
    rintro e w1 ⟨rfl, hw1⟩
    have A : At2 w1 w.heap.size (.int .i64 a) (.int .i64 h) := At2.below (by constructor <;> simp [go_sem]) hw1 (by simp <;> omega)
    have N : At2 w1 (w.heap.size + 1) (.int .u64 (hiw (s * 1000000))) (.int .u64 (low (s * 1000000))) := At2.below (by constructor <;> simp [go_sem]) hw1 (by simp <;> omega)
    have F : At2 w1 (w.heap.size + 1 + 1) (.int .u64 0) (.int .u64 (-h)) := At2.below (by constructor <;> simp [go_sem]) hw1 (by simp <;> omega)
    have hb : Below w.heap.size w w1 := Below.call (by go_grown) (by simp <;> omega) hw1
    have hs := hb.size
    have lA := A.lt
    have lN := N.lt
    have lF := F.lt
    clear hw1
    obtain ⟨x0, x1, x2, x3, x4⟩ := id A
    obtain ⟨y0, y1, y2, y3, y4⟩ := id N
    obtain ⟨z0, z1, z2, z3, z4⟩ := id F
    go_wp2
    go_ret
    exact ⟨rfl, by go_grown⟩
/-- The reference's Wait, whatever comes. -/
theorem refWait_any (a h r s : Int) (h0 : -9223372036854775808 ≤ h) (h1 : h ≤ 9223372036854775807) (r1 : r ≤ 9223372036854775807) (s1 : s ≤ 9223372036854775807) (w : World) :
    Calls Try.prog 18 #[.agg #[.int .i64 a, .int .i64 h], .int .i64 r, .int .i64 s] w fun e w' => e = .returned (.int .i64 (wtv h r s)) ∧ Below w.heap.size w w' := by
  by_cases hz : msv h s = 0
  · have E : wtv h r s = 0 := by unfold wtv; rw [if_pos hz]
    rw [E]; exact refWait_0 a h r s h0 h1 s1 hz w
  · have hs0 : 0 < s := by
      rcases Int.lt_or_le 0 s with g | g
      · exact g
      · exact absurd (show msv h s = 0 by unfold msv; rw [if_pos g]) hz
    have hlt : h < s * 1000000 := by
      rcases Int.lt_or_le h (s * 1000000) with g | g
      · exact g
      · exact absurd (show msv h s = 0 by unfold msv; rw [if_neg (by omega), if_pos g]) hz
    rcases Int.lt_or_le h 0 with g | g
    · exact refWait_neg a h r s h0 h1 r1 hs0 s1 g (by omega) w
    · exact refWait_pos a h r s h0 h1 r1 hs0 s1 g (by omega) w
end Go.Proofs.Ytahlphbgnhklaaa
