/-
  The reference's byteAt, Is, Span, Size, Same. No conditions but the rows' own.
-/
import Derived.Test.YtmiljpfljnjkpaaJ3
import Derived.Deep.RegionHeld3
namespace Go.Proofs.Ytmiljpfljnjkpaa
open Go.RowKit
set_option linter.unusedVariables false
attribute [local go_sem] Later.cell Later.frozen
theorem byteAt_any (s : ByteArray) (i : Nat) (w : World) :
    Calls Try.prog 24 #[.string s, .int .i64 i] w fun e w' => e = .returned (.int .i64 (byt s i)) ∧ w' = w := by
  by_cases h : s.size ≤ i
  · have E : Hid (byt s i = 0) := byt_out h
    have h2 : (s.size : Int) ≤ i := by omega
    go_enter Try.func24, Try.ntmps24
    go_wp2
    go_ret
    exact ⟨by rw [E.out]; rfl, rfl⟩
  · have h2 : (i : Int) < s.size := by omega
    have E : Hid (∀ h : i < s.size, wrap64 ((s[i]'h).toNat : Int) = byt s i) := fun h => by
      have e := byt_in s i h
      have hb := byt_rg s i
      rw [e]
      generalize byt s i = x at *
      simp only [wrap64]; omega
    go_enter Try.func24, Try.ntmps24
    go_wp2
    go_ret
    exact ⟨congrArg (fun z => Ending.returned (Value.int .i64 z)) (E.out (by omega)), rfl⟩
set_option maxHeartbeats 2000000 in
set_option maxRecDepth 100000 in
theorem ris_lo (m k h u : Int) (hm : m < 1) (v : Bool) (hv : isb m ⟨k, h, u⟩ = v) (w : World) :
    Calls Try.prog 13 #[.int .i64 m, .agg #[.int .i64 k, .int .i64 h, .int .i64 u]] w fun e w' => e = .returned (.bool v) ∧ Below w.heap.size w w' := by
  have hg : Below w.heap.size w (w.alloc (.cells #[.int .i64 k, .int .i64 h, .int .i64 u] 24)) := by go_grown
  have hr : mm m = 1 := mm_lo hm
  by_cases a0 : 0 ≤ k
  rotate_left
  · obtain rfl : v = false := by rw [← hv]; exact isb_not.2 (by dsimp only; omega)
    have d0 : decide (0 ≤ k) = false := decide_eq_false a0
    clear hv hr
    go_enter Try.func13, Try.ntmps13
    go_wp2
    all_goals first | omega | (go_ret; exact ⟨rfl, hg⟩)
  by_cases a1 : k ≤ 7
  rotate_left
  · obtain rfl : v = false := by rw [← hv]; exact isb_not.2 (by dsimp only; omega)
    have d1 : decide (k ≤ 7) = false := decide_eq_false a1
    clear hv hr
    go_enter Try.func13, Try.ntmps13
    go_wp2
    all_goals first | omega | (go_ret; exact ⟨rfl, hg⟩)
  by_cases a2 : 0 ≤ h
  rotate_left
  · obtain rfl : v = false := by rw [← hv]; exact isb_not.2 (by dsimp only; omega)
    have d2 : decide (0 ≤ h) = false := decide_eq_false a2
    clear hv hr
    go_enter Try.func13, Try.ntmps13
    go_wp2
    all_goals first | omega | (go_ret; exact ⟨rfl, hg⟩)
  by_cases a3 : h < 1
  rotate_left
  · obtain rfl : v = false := by rw [← hv]; exact isb_not.2 (by dsimp only; omega)
    have d3 : decide (h < 1) = false := decide_eq_false a3
    clear hv hr
    go_enter Try.func13, Try.ntmps13
    go_wp2
    all_goals first | omega | (go_ret; exact ⟨rfl, hg⟩)
  by_cases a4 : 0 ≤ u
  rotate_left
  · obtain rfl : v = false := by rw [← hv]; exact isb_not.2 (by dsimp only; omega)
    have d4 : decide (0 ≤ u) = false := decide_eq_false a4
    clear hv hr
    go_enter Try.func13, Try.ntmps13
    go_wp2
    all_goals first | omega | (go_ret; exact ⟨rfl, hg⟩)
  by_cases a5 : u ≤ 255
  rotate_left
  · obtain rfl : v = false := by rw [← hv]; exact isb_not.2 (by dsimp only; omega)
    have d5 : decide (u ≤ 255) = false := decide_eq_false a5
    clear hv hr
    go_enter Try.func13, Try.ntmps13
    go_wp2
    all_goals first | omega | (go_ret; exact ⟨rfl, hg⟩)
  obtain rfl : v = true := by rw [← hv]; exact isb_iff.2 (by dsimp only; omega)
  clear hv hr
  go_enter Try.func13, Try.ntmps13
  go_wp2
  all_goals first | omega | (go_ret; exact ⟨rfl, hg⟩)
set_option maxHeartbeats 2000000 in
set_option maxRecDepth 100000 in
theorem ris_hi (m k h u : Int) (hm : 64 < m) (v : Bool) (hv : isb m ⟨k, h, u⟩ = v) (w : World) :
    Calls Try.prog 13 #[.int .i64 m, .agg #[.int .i64 k, .int .i64 h, .int .i64 u]] w fun e w' => e = .returned (.bool v) ∧ Below w.heap.size w w' := by
  have hg : Below w.heap.size w (w.alloc (.cells #[.int .i64 k, .int .i64 h, .int .i64 u] 24)) := by go_grown
  have hr : mm m = 64 := mm_hi hm
  by_cases a0 : 0 ≤ k
  rotate_left
  · obtain rfl : v = false := by rw [← hv]; exact isb_not.2 (by dsimp only; omega)
    have d0 : decide (0 ≤ k) = false := decide_eq_false a0
    clear hv hr
    go_enter Try.func13, Try.ntmps13
    go_wp2
    all_goals first | omega | (go_ret; exact ⟨rfl, hg⟩)
  by_cases a1 : k ≤ 7
  rotate_left
  · obtain rfl : v = false := by rw [← hv]; exact isb_not.2 (by dsimp only; omega)
    have d1 : decide (k ≤ 7) = false := decide_eq_false a1
    clear hv hr
    go_enter Try.func13, Try.ntmps13
    go_wp2
    all_goals first | omega | (go_ret; exact ⟨rfl, hg⟩)
  by_cases a2 : 0 ≤ h
  rotate_left
  · obtain rfl : v = false := by rw [← hv]; exact isb_not.2 (by dsimp only; omega)
    have d2 : decide (0 ≤ h) = false := decide_eq_false a2
    clear hv hr
    go_enter Try.func13, Try.ntmps13
    go_wp2
    all_goals first | omega | (go_ret; exact ⟨rfl, hg⟩)
  by_cases a3 : h < 64
  rotate_left
  · obtain rfl : v = false := by rw [← hv]; exact isb_not.2 (by dsimp only; omega)
    have d3 : decide (h < 64) = false := decide_eq_false a3
    clear hv hr
    go_enter Try.func13, Try.ntmps13
    go_wp2
    all_goals first | omega | (go_ret; exact ⟨rfl, hg⟩)
  by_cases a4 : 0 ≤ u
  rotate_left
  · obtain rfl : v = false := by rw [← hv]; exact isb_not.2 (by dsimp only; omega)
    have d4 : decide (0 ≤ u) = false := decide_eq_false a4
    clear hv hr
    go_enter Try.func13, Try.ntmps13
    go_wp2
    all_goals first | omega | (go_ret; exact ⟨rfl, hg⟩)
  by_cases a5 : u ≤ 255
  rotate_left
  · obtain rfl : v = false := by rw [← hv]; exact isb_not.2 (by dsimp only; omega)
    have d5 : decide (u ≤ 255) = false := decide_eq_false a5
    clear hv hr
    go_enter Try.func13, Try.ntmps13
    go_wp2
    all_goals first | omega | (go_ret; exact ⟨rfl, hg⟩)
  obtain rfl : v = true := by rw [← hv]; exact isb_iff.2 (by dsimp only; omega)
  clear hv hr
  go_enter Try.func13, Try.ntmps13
  go_wp2
  all_goals first | omega | (go_ret; exact ⟨rfl, hg⟩)
set_option maxHeartbeats 2000000 in
set_option maxRecDepth 100000 in
theorem ris_in (m k h u : Int) (hm : 1 ≤ m ∧ m ≤ 64) (v : Bool) (hv : isb m ⟨k, h, u⟩ = v) (w : World) :
    Calls Try.prog 13 #[.int .i64 m, .agg #[.int .i64 k, .int .i64 h, .int .i64 u]] w fun e w' => e = .returned (.bool v) ∧ Below w.heap.size w w' := by
  have hg : Below w.heap.size w (w.alloc (.cells #[.int .i64 k, .int .i64 h, .int .i64 u] 24)) := by go_grown
  have hr : mm m = m := mm_in hm.1 hm.2
  obtain ⟨hm1, hm2⟩ := hm
  by_cases a0 : 0 ≤ k
  rotate_left
  · obtain rfl : v = false := by rw [← hv]; exact isb_not.2 (by dsimp only; omega)
    have d0 : decide (0 ≤ k) = false := decide_eq_false a0
    clear hv hr
    go_enter Try.func13, Try.ntmps13
    go_wp2
    all_goals first | omega | (go_ret; exact ⟨rfl, hg⟩)
  by_cases a1 : k ≤ 7
  rotate_left
  · obtain rfl : v = false := by rw [← hv]; exact isb_not.2 (by dsimp only; omega)
    have d1 : decide (k ≤ 7) = false := decide_eq_false a1
    clear hv hr
    go_enter Try.func13, Try.ntmps13
    go_wp2
    all_goals first | omega | (go_ret; exact ⟨rfl, hg⟩)
  by_cases a2 : 0 ≤ h
  rotate_left
  · obtain rfl : v = false := by rw [← hv]; exact isb_not.2 (by dsimp only; omega)
    have d2 : decide (0 ≤ h) = false := decide_eq_false a2
    clear hv hr
    go_enter Try.func13, Try.ntmps13
    go_wp2
    all_goals first | omega | (go_ret; exact ⟨rfl, hg⟩)
  by_cases a3 : h < m
  rotate_left
  · obtain rfl : v = false := by rw [← hv]; exact isb_not.2 (by dsimp only; omega)
    have d3 : decide (h < m) = false := decide_eq_false a3
    clear hv hr
    go_enter Try.func13, Try.ntmps13
    go_wp2
    all_goals first | omega | (go_ret; exact ⟨rfl, hg⟩)
  by_cases a4 : 0 ≤ u
  rotate_left
  · obtain rfl : v = false := by rw [← hv]; exact isb_not.2 (by dsimp only; omega)
    have d4 : decide (0 ≤ u) = false := decide_eq_false a4
    clear hv hr
    go_enter Try.func13, Try.ntmps13
    go_wp2
    all_goals first | omega | (go_ret; exact ⟨rfl, hg⟩)
  by_cases a5 : u ≤ 255
  rotate_left
  · obtain rfl : v = false := by rw [← hv]; exact isb_not.2 (by dsimp only; omega)
    have d5 : decide (u ≤ 255) = false := decide_eq_false a5
    clear hv hr
    go_enter Try.func13, Try.ntmps13
    go_wp2
    all_goals first | omega | (go_ret; exact ⟨rfl, hg⟩)
  obtain rfl : v = true := by rw [← hv]; exact isb_iff.2 (by dsimp only; omega)
  clear hv hr
  go_enter Try.func13, Try.ntmps13
  go_wp2
  all_goals first | omega | (go_ret; exact ⟨rfl, hg⟩)
theorem ris_any (m : Int) (x : Stp) (v : Bool) (hv : isb m x = v) (w : World) :
    Calls Try.prog 13 #[.int .i64 m, .agg #[.int .i64 x.k, .int .i64 x.h, .int .i64 x.v]] w fun e w' => e = .returned (.bool v) ∧ Below w.heap.size w w' := by
  by_cases h1 : m < 1
  · exact ris_lo m x.k x.h x.v h1 v hv w
  · by_cases h2 : 64 < m
    · exact ris_hi m x.k x.h x.v h2 v hv w
    · exact ris_in m x.k x.h x.v ⟨by omega, by omega⟩ v hv w
set_option maxHeartbeats 1000000 in
set_option maxRecDepth 100000 in
theorem rspan_any (x : Stp) (w : World) :
    Calls Try.prog 16 #[.agg #[.int .i64 x.k, .int .i64 x.h, .int .i64 x.v]] w fun e w' => e = .returned (.int .i64 (spn x)) ∧ Below w.heap.size w w' := by
  have hg : Below w.heap.size w (w.alloc (.cells #[.int .i64 x.k, .int .i64 x.h, .int .i64 x.v] 24)) := by go_grown
  have A := At3.fresh w (.int .i64 x.k) (.int .i64 x.h) (.int .i64 x.v) 24
  cases hv : isb 64 x
  · have E : Hid (spn x = 0) := by show _ = _; unfold spn; rw [if_neg (by rw [hv]; simp)]
    have MB := ris_any 64 x false hv
    clear hv
    go_enter Try.func16, Try.ntmps16
    go_wp2_with fail
    refine (MB _).mono ?_
    rintro e w1 ⟨rfl, hw1⟩
    replace hw1 := Below.call hg hg.size hw1
    go_wp2
    go_ret
    exact ⟨by rw [E.out]; rfl, hw1⟩
  · have MB := ris_any 64 x true hv
    by_cases h0 : x.k = 0
    · have E : Hid (spn x = (x.v + 1) * (x.v + 1)) := by show _ = _; unfold spn; rw [if_pos ⟨hv, h0⟩]
      have hb := isb_iff.1 hv
      have hq := Int.mul_le_mul (show x.v + 1 ≤ 256 by omega) (show x.v + 1 ≤ 256 by omega) (by omega) (by omega)
      have hq0 := Int.mul_nonneg (show 0 ≤ x.v + 1 by omega) (show 0 ≤ x.v + 1 by omega)
      have u0 : 0 ≤ x.v := by omega
      have u1 : x.v ≤ 255 := by omega
      clear hv hb
      generalize x.k = k at *
      generalize x.h = h at *
      generalize x.v = u at *
      subst h0
      go_enter Try.func16, Try.ntmps16
      go_wp2_with fail
      refine (MB _).mono ?_
      rintro e w1 ⟨rfl, hw1⟩
      replace A := At3.of hw1 A
      obtain ⟨c0, c1, c2, f0, f1, f2, lt⟩ := A
      replace hw1 := Below.call hg hg.size hw1
      go_wp2
      go_ret
      exact ⟨by rw [E.out]; rfl, hw1⟩
    · have E : Hid (spn x = 0) := by show _ = _; unfold spn; rw [if_neg (fun h => h0 h.2)]
      clear hv
      go_enter Try.func16, Try.ntmps16
      go_wp2_with fail
      refine (MB _).mono ?_
      rintro e w1 ⟨rfl, hw1⟩
      replace A := At3.of hw1 A
      obtain ⟨c0, c1, c2, f0, f1, f2, lt⟩ := A
      replace hw1 := Below.call hg hg.size hw1
      go_wp2
      go_ret
      exact ⟨by rw [E.out]; rfl, hw1⟩
set_option maxHeartbeats 1000000 in
set_option maxRecDepth 100000 in
theorem rsize_any (x : Stp) (w : World) :
    Calls Try.prog 18 #[.agg #[.int .i64 x.k, .int .i64 x.h, .int .i64 x.v]] w fun e w' => e = .returned (.int .i64 (siz x)) ∧ Below w.heap.size w w' := by
  have hg : Below w.heap.size w (w.alloc (.cells #[.int .i64 x.k, .int .i64 x.h, .int .i64 x.v] 24)) := by go_grown
  have A := At3.fresh w (.int .i64 x.k) (.int .i64 x.h) (.int .i64 x.v) 24
  cases hv : isb 64 x
  · have E : Hid (siz x = 0) := by show _ = _; unfold siz; rw [if_neg (by rw [hv]; simp)]
    have MB := ris_any 64 x false hv
    clear hv
    go_enter Try.func18, Try.ntmps18
    go_wp2_with fail
    refine (MB _).mono ?_
    rintro e w1 ⟨rfl, hw1⟩
    replace hw1 := Below.call hg hg.size hw1
    go_wp2
    go_ret
    exact ⟨by rw [E.out]; rfl, hw1⟩
  · have MB := ris_any 64 x true hv
    by_cases h0 : x.k = 1
    · have E : Hid (siz x = 35 * x.v + 64) := by show _ = _; unfold siz; rw [if_pos ⟨hv, h0⟩]
      have hb := isb_iff.1 hv
      have hq := Int.mul_le_mul (show x.v + 1 ≤ 256 by omega) (show x.v + 1 ≤ 256 by omega) (by omega) (by omega)
      have hq0 := Int.mul_nonneg (show 0 ≤ x.v + 1 by omega) (show 0 ≤ x.v + 1 by omega)
      have u0 : 0 ≤ x.v := by omega
      have u1 : x.v ≤ 255 := by omega
      clear hv hb
      generalize x.k = k at *
      generalize x.h = h at *
      generalize x.v = u at *
      subst h0
      go_enter Try.func18, Try.ntmps18
      go_wp2_with fail
      refine (MB _).mono ?_
      rintro e w1 ⟨rfl, hw1⟩
      replace A := At3.of hw1 A
      obtain ⟨c0, c1, c2, f0, f1, f2, lt⟩ := A
      replace hw1 := Below.call hg hg.size hw1
      go_wp2
      go_ret
      exact ⟨by rw [E.out]; rfl, hw1⟩
    · have E : Hid (siz x = 0) := by show _ = _; unfold siz; rw [if_neg (fun h => h0 h.2)]
      clear hv
      go_enter Try.func18, Try.ntmps18
      go_wp2_with fail
      refine (MB _).mono ?_
      rintro e w1 ⟨rfl, hw1⟩
      replace A := At3.of hw1 A
      obtain ⟨c0, c1, c2, f0, f1, f2, lt⟩ := A
      replace hw1 := Below.call hg hg.size hw1
      go_wp2
      go_ret
      exact ⟨by rw [E.out]; rfl, hw1⟩
set_option maxHeartbeats 1600000 in
set_option maxRecDepth 100000 in
theorem same_any (ao bo : Option Addr) (n c d : Nat) (f : Nat → Stp) (w : World) (ha : Ops w ao n c f) (hb : Ops w bo n d f) :
    Calls Try.prog 9 #[.slice ao n c, .slice bo n d] w fun e w' => e = .returned (.bool true) ∧ Below w.heap.size w w' := by
  have hn : (n : Int) ≤ 9223372036854775807 := by have := ha.cap; have := ha.max; unfold maxLen at this; omega
  go_enter Try.func9, Try.ntmps9
  go_wp2
  go_loopw [5] (fun i' wr => ∃ j : Nat, j ≤ n ∧ i' = .int .i64 j ∧ Below w.heap.size w wr) (fun i' _ => n - (intOf i').toNat)
  case atStart => exact ⟨0, Nat.zero_le _, rfl, Below.refl _ _⟩
  case round =>
    obtain ⟨j, hj, rfl, hbw⟩ := hrel
    by_cases hlt : j < n
    · obtain ⟨b1, o1, rfl, _, hc1⟩ := (ha.below hbw).at' (by omega)
      obtain ⟨b2, o2, rfl, _, hc2⟩ := (hb.below hbw).at' (by omega)
      obtain ⟨l1, l2, l3⟩ := hc1 j hlt
      obtain ⟨m1, m2, m3⟩ := hc2 j hlt
      clear hc1 hc2 ha hb
      generalize (f j).k = x at *
      generalize (f j).h = y at *
      generalize (f j).v = z at *
      go_wp2
      go_quiet (fail)
      all_goals go_wp2
      exact ⟨⟨j + 1, by omega, by go_num, Below.drewN hbw _⟩, by simp [intOf]; omega⟩
    · go_wp2
      go_ret
      exact ⟨rfl, hbw⟩
end Go.Proofs.Ytmiljpfljnjkpaa
