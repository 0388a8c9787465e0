/-
  The program's small functions of layer 30: within, isKind, senders, Is, mayBe, Span, Size. No conditions but the numbers' own ranges.
-/
import Derived.Test.YtmiljpfljnjkpaaJ2
import Derived.BigQuiet
import Derived.Deep.QuietTactic
namespace Go.Proofs.Ytmiljpfljnjkpaa
open Go.RowKit
set_option linter.unusedVariables false
attribute [local go_sem] Later.cell Later.frozen
theorem Later.same {W : World} {P : Program} {f : FuncId} {args : Array Value} {v : Value} (x : Later W) (h : Calls P f args x.1 fun e w' => e = .returned v ∧ w' = x.1) :
    Calls P f args x.1 fun e w'' => e = .returned v ∧ ∃ y : Later W, w'' = y.1 :=
  h.mono fun _ w' ⟨he, hb⟩ => ⟨he, x, hb⟩
/-- Whether a number lies between two. -/
def wi (n l g : Int) : Bool := decide (l ≤ n) && decide (n ≤ g)
theorem wi_iff {n l g : Int} : wi n l g = true ↔ l ≤ n ∧ n ≤ g := by unfold wi; simp
theorem wi_not {n l g : Int} : wi n l g = false ↔ ¬ (l ≤ n ∧ n ≤ g) := by
  cases h : wi n l g
  · exact ⟨fun _ k => (by rw [wi_iff.2 k] at h; cases h), fun _ => rfl⟩
  · exact ⟨fun h2 => (by cases h2), fun k => absurd (wi_iff.1 h) k⟩
theorem isb_wi (m : Int) (x : Stp) : isb m x = (wi x.k 0 7 && wi x.h 0 (mm m - 1) && wi x.v 0 255) := by
  cases h : isb m x
  · have h := isb_not.1 h
    cases a : wi x.k 0 7
    · rfl
    · cases b : wi x.h 0 (mm m - 1)
      · rfl
      · cases c : wi x.v 0 255
        · rfl
        · have := wi_iff.1 a; have := wi_iff.1 b; have := wi_iff.1 c
          exact absurd ⟨by omega, by omega, by omega, by omega, by omega, by omega⟩ h
  · have h := isb_iff.1 h
    rw [wi_iff.2 ⟨by omega, by omega⟩, wi_iff.2 ⟨by omega, by omega⟩, wi_iff.2 ⟨by omega, by omega⟩]; rfl
theorem within_any (n l g : Int) (v : Bool) (hv : wi n l g = v) (w : World) :
    Calls Try.prog 26 #[.int .i64 n, .int .i64 l, .int .i64 g] w fun e w' => e = .returned (.bool v) ∧ w' = w := by
  subst hv
  by_cases h1 : l ≤ n
  · by_cases h2 : n ≤ g
    · have E : Hid (wi n l g = true) := wi_iff.2 ⟨h1, h2⟩
      go_enter Try.func26, Try.ntmps26
      go_wp2
      go_ret
      exact ⟨by rw [E.out]; rfl, rfl⟩
    · have E : Hid (wi n l g = false) := wi_not.2 (by omega)
      have h3 : decide (n ≤ g) = false := decide_eq_false h2
      go_enter Try.func26, Try.ntmps26
      go_wp2
      go_ret
      exact ⟨by rw [E.out]; rfl, rfl⟩
  · have E : Hid (wi n l g = false) := wi_not.2 (by omega)
    have h3 : decide (l ≤ n) = false := decide_eq_false h1
    go_enter Try.func26, Try.ntmps26
    go_wp2
    go_ret
    exact ⟨by rw [E.out]; rfl, rfl⟩
theorem isKind_any (k : Int) (v : Bool) (hv : wi k 0 7 = v) (w : World) :
    Calls Try.prog 25 #[.int .i64 k] w fun e w' => e = .returned (.bool v) ∧ w' = w := by
  go_enter Try.func25, Try.ntmps25
  go_wp2_with fail
  refine (within_any _ _ _ v hv _).mono ?_
  rintro e w1 ⟨rfl, hw1⟩
  subst hw1
  go_wp2
  go_ret
  exact ⟨rfl, rfl⟩
theorem mm_minmax (m : Int) : mm m = min (max m 1) 64 := by unfold mm; split <;> (try split) <;> omega
theorem senders_any (m : Int) (w : World) :
    Calls Try.prog 23 #[.int .i64 m] w fun e w' => e = .returned (.int .i64 (mm m)) ∧ w' = w := by
  by_cases h1 : m < 1
  · have E : Hid (mm m = 1) := mm_lo h1
    go_enter Try.func23, Try.ntmps23
    go_wp2
    all_goals first | omega | (go_ret; exact ⟨by rw [E.out]; rfl, rfl⟩)
  · by_cases h2 : 64 < m
    · have E : Hid (mm m = 64) := mm_hi h2
      go_enter Try.func23, Try.ntmps23
      go_wp2
      all_goals first | omega | (go_ret; exact ⟨by rw [E.out]; rfl, rfl⟩)
    · have E : Hid (mm m = m) := mm_in (by omega) (by omega)
      go_enter Try.func23, Try.ntmps23
      go_wp2
      all_goals first | omega | (go_ret; exact ⟨by rw [E.out]; rfl, rfl⟩)
set_option maxHeartbeats 1000000 in
set_option maxRecDepth 100000 in
/-- Whether a step may be. -/
theorem is_any (m : Int) (x : Stp) (v : Bool) (hv : isb m x = v) (w : World) :
    Calls Try.prog 12 #[.int .i64 m, .agg #[.int .i64 x.k, .int .i64 x.h, .int .i64 x.v]] w fun e w' => e = .returned (.bool v) ∧ Below w.heap.size w w' := by
  have hne : Nonempty (Later (w.alloc (.cells #[.int .i64 x.k, .int .i64 x.h, .int .i64 x.v] 24))) := Later.ne _
  have hg : Below w.heap.size w (w.alloc (.cells #[.int .i64 x.k, .int .i64 x.h, .int .i64 x.v] 24)) := by go_grown
  rw [isb_wi] at hv
  have hm := mm_rg m
  cases v1 : wi x.k 0 7
  · obtain rfl : v = false := by rw [← hv]; simp [v1]
    clear hv
    go_enter Try.func12, Try.ntmps12
    go_wp2_with fail
    refine wp_region_later (by kernel_rfl) (by kernel_rfl) ?_
    repeat (go_big_quiet_step ((go_at_call 25; exact Later.same _ (isKind_any _ _ v1 _))))
    refine wpQuiet_nil ?_
    rintro w5 ⟨⟨_, hw5⟩, rfl⟩
    go_wp2
    go_ret
    exact ⟨rfl, Below.call hg hg.size hw5⟩
  · cases v2 : wi x.h 0 (mm m - 1)
    · obtain rfl : v = false := by rw [← hv]; simp [v1, v2]
      have S := senders_any m
      clear hv
      generalize mm m = r at *
      go_enter Try.func12, Try.ntmps12
      go_wp2_with fail
      refine wp_region_later (by kernel_rfl) (by kernel_rfl) ?_
      repeat (go_big_quiet_step (first | (go_at_call 25; exact Later.same _ (isKind_any _ _ v1 _)) | (go_at_call 23; exact Later.same _ (S _)) | (go_at_call 26; exact Later.same _ (within_any _ _ _ _ v2 _))))
      refine wpQuiet_nil ?_
      rintro w5 ⟨⟨_, hw5⟩, rfl⟩
      go_wp2
      go_ret
      exact ⟨rfl, Below.call hg hg.size hw5⟩
    · have v3 : wi x.v 0 255 = v := by rw [← hv]; simp [v1, v2]
      have S := senders_any m
      clear hv
      generalize mm m = r at *
      obtain ⟨kk, hh, uu⟩ := x
      dsimp only at *
      go_enter Try.func12, Try.ntmps12
      go_wp2_with fail
      refine wp_region_later (by kernel_rfl) (by kernel_rfl) ?_
      repeat (go_big_quiet_step (first | (go_at_call 25; exact Later.same _ (isKind_any _ _ v1 _)) | (go_at_call 23; exact Later.same _ (S _)) | (go_at_call_of 26 (Value.int IntKind.i64 hh); exact Later.same _ (within_any _ _ _ _ v2 _)) | (go_at_call_of 26 (Value.int IntKind.i64 uu); exact Later.same _ (within_any _ _ _ _ v3 _))))
      refine wpQuiet_nil ?_
      rintro w5 ⟨⟨_, hw5⟩, rfl⟩
      go_wp2
      go_ret
      exact ⟨rfl, Below.call hg hg.size hw5⟩
theorem mayBe_any (x : Stp) (v : Bool) (hv : isb 64 x = v) (w : World) :
    Calls Try.prog 21 #[.agg #[.int .i64 x.k, .int .i64 x.h, .int .i64 x.v]] w fun e w' => e = .returned (.bool v) ∧ Below w.heap.size w w' := by
  have hg : Below w.heap.size w (w.alloc (.cells #[.int .i64 x.k, .int .i64 x.h, .int .i64 x.v] 24)) := by go_grown
  go_enter Try.func21, Try.ntmps21
  go_wp2_with fail
  refine (is_any 64 x v hv _).mono ?_
  rintro e w1 ⟨rfl, hw1⟩
  replace hw1 := Below.call hg hg.size hw1
  go_wp2
  go_ret
  exact ⟨rfl, hw1⟩
set_option maxHeartbeats 1000000 in
set_option maxRecDepth 100000 in
theorem span_any (x : Stp) (w : World) :
    Calls Try.prog 15 #[.agg #[.int .i64 x.k, .int .i64 x.h, .int .i64 x.v]] w fun e w' => e = .returned (.int .i64 (spn x)) ∧ Below w.heap.size w w' := by
  have hg : Below w.heap.size w (w.alloc (.cells #[.int .i64 x.k, .int .i64 x.h, .int .i64 x.v] 24)) := by go_grown
  have A := At3.fresh w (.int .i64 x.k) (.int .i64 x.h) (.int .i64 x.v) 24
  by_cases h0 : x.k = 0
  · cases hv : isb 64 x
    · have E : Hid (spn x = 0) := by show _ = _; unfold spn; rw [if_neg (by rw [hv]; simp)]
      have MB := mayBe_any x false hv
      have hk : (x.k != 0) = false := by simp [h0]
      clear hv
      generalize x.k = k at *
      generalize x.h = h at *
      generalize x.v = u at *
      subst h0
      clear hk
      go_enter Try.func15, Try.ntmps15
      go_wp2_with fail
      refine (MB _).mono ?_
      rintro e w1 ⟨rfl, hw1⟩
      replace hw1 := Below.call hg hg.size hw1
      go_wp2
      go_ret
      exact ⟨by rw [E.out]; rfl, hw1⟩
    · have E : Hid (spn x = (x.v + 1) * (x.v + 1)) := by show _ = _; unfold spn; rw [if_pos ⟨hv, h0⟩]
      have MB := mayBe_any x true hv
      have hb := isb_iff.1 hv
      have hq := Int.mul_le_mul (show x.v + 1 ≤ 256 by omega) (show x.v + 1 ≤ 256 by omega) (by omega) (by omega)
      have hq0 := Int.mul_nonneg (show 0 ≤ x.v + 1 by omega) (show 0 ≤ x.v + 1 by omega)
      have u0 : 0 ≤ x.v := by omega
      have u1 : x.v ≤ 255 := by omega
      clear hv hb
      generalize x.k = k at *
      generalize x.h = h at *
      generalize x.v = u at *
      subst h0
      go_enter Try.func15, Try.ntmps15
      go_wp2_with fail
      refine (MB _).mono ?_
      rintro e w1 ⟨rfl, hw1⟩
      replace A := At3.of hw1 A
      obtain ⟨c0, c1, c2, f0, f1, f2, lt⟩ := A
      replace hw1 := Below.call hg hg.size hw1
      go_wp2
      go_ret
      exact ⟨by rw [E.out]; rfl, hw1⟩
  · have E : Hid (spn x = 0) := by show _ = _; unfold spn; rw [if_neg (fun h => h0 h.2)]
    go_enter Try.func15, Try.ntmps15
    go_wp2
    go_ret
    exact ⟨by rw [E.out]; rfl, hg⟩
set_option maxHeartbeats 1000000 in
set_option maxRecDepth 100000 in
theorem size_any (x : Stp) (w : World) :
    Calls Try.prog 17 #[.agg #[.int .i64 x.k, .int .i64 x.h, .int .i64 x.v]] w fun e w' => e = .returned (.int .i64 (siz x)) ∧ Below w.heap.size w w' := by
  have hg : Below w.heap.size w (w.alloc (.cells #[.int .i64 x.k, .int .i64 x.h, .int .i64 x.v] 24)) := by go_grown
  have A := At3.fresh w (.int .i64 x.k) (.int .i64 x.h) (.int .i64 x.v) 24
  by_cases h0 : x.k = 1
  · cases hv : isb 64 x
    · have E : Hid (siz x = 0) := by show _ = _; unfold siz; rw [if_neg (by rw [hv]; simp)]
      have MB := mayBe_any x false hv
      clear hv
      generalize x.k = k at *
      generalize x.h = h at *
      generalize x.v = u at *
      subst h0
      go_enter Try.func17, Try.ntmps17
      go_wp2_with fail
      refine (MB _).mono ?_
      rintro e w1 ⟨rfl, hw1⟩
      replace hw1 := Below.call hg hg.size hw1
      go_wp2
      go_ret
      exact ⟨by rw [E.out]; rfl, hw1⟩
    · have E : Hid (siz x = 35 * x.v + 64) := by show _ = _; unfold siz; rw [if_pos ⟨hv, h0⟩]
      have MB := mayBe_any x true hv
      have hb := isb_iff.1 hv
      have u0 : 0 ≤ x.v := by omega
      have u1 : x.v ≤ 255 := by omega
      clear hv hb
      generalize x.k = k at *
      generalize x.h = h at *
      generalize x.v = u at *
      subst h0
      go_enter Try.func17, Try.ntmps17
      go_wp2_with fail
      refine (MB _).mono ?_
      rintro e w1 ⟨rfl, hw1⟩
      replace A := At3.of hw1 A
      obtain ⟨c0, c1, c2, f0, f1, f2, lt⟩ := A
      replace hw1 := Below.call hg hg.size hw1
      go_wp2
      go_ret
      exact ⟨by rw [E.out]; rfl, hw1⟩
  · have E : Hid (siz x = 0) := by show _ = _; unfold siz; rw [if_neg (fun h => h0 h.2)]
    go_enter Try.func17, Try.ntmps17
    go_wp2
    go_ret
    exact ⟨by rw [E.out]; rfl, hg⟩
end Go.Proofs.Ytmiljpfljnjkpaa
