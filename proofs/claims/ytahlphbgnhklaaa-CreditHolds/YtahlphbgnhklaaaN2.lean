/-
  The program's small functions of layer 25: within, a burst that is right, a time, all that there may be, what a burst holds, and whether a credit is right. No conditions but the numbers' own ranges.
-/
import Derived.Test.YtahlphbgnhklaaaD2
import Derived.Test.YtahlphbgnhklaaaN1
namespace Go.Proofs.Ytahlphbgnhklaaa
open Go.RowKit
set_option linter.unusedVariables false
attribute [local go_sem] Later.cell Later.frozen

theorem At2.of {w w1 : World} {b : Nat} {x y : Value} (hb : Below w.heap.size w w1) (h : At2 w b x y) : At2 w1 b x y := h.below hb h.lt
theorem At2.outs {w : World} {b : Nat} {x y : Value} (h : At2 w b x y) (u v : Value) : (w.setCell ⟨b, 0, none⟩ u).cell? ⟨b, 0, none⟩ = some u ∧ ((w.setCell ⟨b, 0, none⟩ u).setCell ⟨b, 1, none⟩ v).cell? ⟨b, 1, none⟩ = some v := ⟨(h.put0 u).c0, ((h.put0 u).put1 v).c1⟩
theorem within_any (n l g : Int) (v : Bool) (hv : wi n l g = v) (w : World) :
    Calls Try.prog 26 #[.int .i64 n, .int .i64 l, .int .i64 g] w fun e w' => e = .returned (.bool v) ∧ w' = w := by
  subst hv
  by_cases h1 : l ≤ n
  · by_cases h2 : n ≤ g
    · have E : Hid (wi n l g = true) := wi_iff.2 ⟨h1, h2⟩
      go_enter Try.func26, Try.ntmps26
      go_wp2
      go_ret
      exact ⟨by rw [E.out]; rfl, rfl⟩
    · have E : Hid (wi n l g = false) := wi_not.2 (by omega)
      have h3 : decide (n ≤ g) = false := decide_eq_false h2
      go_enter Try.func26, Try.ntmps26
      go_wp2
      go_ret
      exact ⟨by rw [E.out]; rfl, rfl⟩
  · have E : Hid (wi n l g = false) := wi_not.2 (by omega)
    have h3 : decide (l ≤ n) = false := decide_eq_false h1
    go_enter Try.func26, Try.ntmps26
    go_wp2
    go_ret
    exact ⟨by rw [E.out]; rfl, rfl⟩
theorem right_any (b : Int) (v : Bool) (hv : wi b 1 1048576 = v) (w : World) :
    Calls Try.prog 22 #[.int .i64 b] w fun e w' => e = .returned (.bool v) ∧ w' = w := by
  go_enter Try.func22, Try.ntmps22
  go_wp2_with fail
  refine (within_any _ _ _ v hv _).mono ?_
  rintro e w1 ⟨rfl, hw1⟩
  subst hw1
  go_wp2
  go_ret
  exact ⟨rfl, rfl⟩
theorem isTime_any (t : Int) (v : Bool) (hv : wi t 0 1099511627776 = v) (w : World) :
    Calls Try.prog 23 #[.int .i64 t] w fun e w' => e = .returned (.bool v) ∧ w' = w := by
  go_enter Try.func23, Try.ntmps23
  go_wp2_with fail
  refine (within_any _ _ _ v hv _).mono ?_
  rintro e w1 ⟨rfl, hw1⟩
  subst hw1
  go_wp2
  go_ret
  exact ⟨rfl, rfl⟩
theorem all_any (b : Int) (b0 : 1 ≤ b) (b1 : b ≤ 1048576) (w : World) :
    Calls Try.prog 24 #[.int .i64 b] w fun e w' => e = .returned (.int .i64 (b * 1000000)) ∧ w' = w := by
  go_enter Try.func24, Try.ntmps24
  go_wp2
  go_ret
  exact ⟨rfl, rfl⟩
theorem Later.same {W : World} {P : Program} {f : FuncId} {args : Array Value} {v : Value} (x : Later W) (h : Calls P f args x.1 fun e w' => e = .returned v ∧ w' = x.1) :
    Calls P f args x.1 fun e w'' => e = .returned v ∧ ∃ y : Later W, w'' = y.1 :=
  h.mono fun _ w' ⟨he, hb⟩ => ⟨he, x, hb⟩
theorem drop2 {b : Bool} (h : b = true) : (true && b) = true := by simp [h]
/-- Whether a credit is right. -/
theorem is_any (b a h : Int) (h0 : -9223372036854775808 ≤ h) (h1 : h ≤ 9223372036854775807) (v : Bool) (hv : isv b a h = v) (w : World) :
    Calls Try.prog 15 #[.int .i64 b, .agg #[.int .i64 a, .int .i64 h]] w fun e w' => e = .returned (.bool v) ∧ Below w.heap.size w w' := by
  have hne : Nonempty (Later (w.alloc (.cells #[.int .i64 a, .int .i64 h] 23))) := Later.ne _
  have hg : Below w.heap.size w (w.alloc (.cells #[.int .i64 a, .int .i64 h] 23)) := by go_grown
  cases v1 : wi b 1 1048576
  · obtain rfl : v = false := by rw [← hv]; simp [isv, v1]
    clear hv
    go_enter Try.func15, Try.ntmps15
    go_wp2_with fail
    refine wp_region_later (by kernel_rfl) (by kernel_rfl) ?_
    repeat (go_big_quiet_step ((go_at_call 22; exact Later.same _ (right_any _ _ v1 _))))
    refine wpQuiet_nil ?_
    rintro w5 ⟨⟨_, hw5⟩, rfl⟩
    go_wp2
    go_ret
    exact ⟨rfl, Below.call hg hg.size hw5⟩
  · obtain ⟨b0, b1⟩ := wi_iff.1 v1
    cases v2 : wi a 0 1099511627776
    · obtain rfl : v = false := by rw [← hv]; simp [isv, v2]
      clear hv
      go_enter Try.func15, Try.ntmps15
      go_wp2_with fail
      refine wp_region_later (by kernel_rfl) (by kernel_rfl) ?_
      repeat (go_big_quiet_step (first | (go_at_call 22; exact Later.same _ (right_any _ _ v1 _)) | (go_at_call 23; exact Later.same _ (isTime_any _ _ v2 _))))
      refine wpQuiet_nil ?_
      rintro w5 ⟨⟨_, hw5⟩, rfl⟩
      go_wp2
      go_ret
      exact ⟨rfl, Below.call hg hg.size hw5⟩
    · have v3 : wi h 0 (b * 1000000) = v := by rw [← hv]; simp [isv, v1, v2]
      clear hv
      go_enter Try.func15, Try.ntmps15
      go_wp2_with fail
      refine wp_region_later (by kernel_rfl) (by kernel_rfl) ?_
      repeat (go_big_quiet_step (first | (go_at_call 22; exact Later.same _ (right_any _ _ v1 _)) | (go_at_call 23; exact Later.same _ (isTime_any _ _ v2 _)) | (go_at_call 24; exact Later.same _ (all_any _ b0 b1 _)) | (go_at_call 26; exact Later.same _ (within_any _ _ _ _ v3 _))))
      refine wpQuiet_nil ?_
      rintro w5 ⟨⟨_, hw5⟩, rfl⟩
      go_wp2
      go_ret
      exact ⟨rfl, Below.call hg hg.size hw5⟩
/-- What a burst holds of so much. -/
theorem held_any (b m : Int) (b0 : 1 ≤ b) (b1 : b ≤ 1048576) (hm : W128 m) (w : World) :
    Calls Try.prog 28 #[.int .i64 b, .agg #[.int .u64 (hiw m), .int .u64 (low m)]] w fun e w' => e = .returned (.int .i64 (heldv b m)) ∧ Below w.heap.size w w' := by
  have hne : Nonempty (Later (w.alloc (.cells #[.int .u64 (hiw m), .int .u64 (low m)] 42))) := Later.ne _
  have hg : Below w.heap.size w (w.alloc (.cells #[.int .u64 (hiw m), .int .u64 (low m)] 42)) := by go_grown
  obtain ⟨m0, m1⟩ := low_bd m
  have hW : W128 (b * 1000000) := ⟨by omega, by omega⟩
  have H1 : hiw (b * 1000000) = 0 := by unfold hiw; omega
  have L1 : low (b * 1000000) = b * 1000000 := by unfold low; omega
  have C := fun w => cmp_any m (b * 1000000) hm hW w
  rw [H1, L1] at C
  by_cases g : b * 1000000 < m
  · have E : Hid (heldv b m = b * 1000000) := by show _ = _; unfold heldv; rw [if_pos g]
    have K : cmpv m (b * 1000000) = 1 := by unfold cmpv; rw [if_neg (by omega), if_pos (by omega)]
    rw [K] at C
    clear K g H1 L1
    go_enter Try.func28, Try.ntmps28
    go_wp2_with fail
    refine wp_region_later (by kernel_rfl) (by kernel_rfl) ?_
    repeat (go_big_quiet_step (first | (go_at_call 24; exact Later.same _ (all_any _ b0 b1 _)) | (go_at_call 21; exact Later.call _ (C _))))
    refine wpQuiet_nil ?_
    rintro w5 ⟨⟨_, hw5⟩, rfl⟩
    go_wp2_with fail
    refine (all_any b b0 b1 _).mono ?_
    rintro e w6 ⟨rfl, hw6⟩
    subst hw6
    go_wp2
    go_ret
    exact ⟨by rw [E.out]; rfl, Below.call hg hg.size hw5⟩
  · have E : Hid (heldv b m = low m) := by
      show _ = _
      unfold heldv low; rw [if_neg g]; obtain ⟨_, _⟩ := hm; omega
    have K : cmpv m (b * 1000000) ≤ 0 := by unfold cmpv; (repeat split) <;> omega
    have K2 : decide (0 < cmpv m (b * 1000000)) = false := decide_eq_false (by omega)
    have l1 : low m ≤ 9223372036854775807 := by obtain ⟨_, _⟩ := hm; unfold low; omega
    clear K g H1 L1
    go_enter Try.func28, Try.ntmps28
    go_wp2_with fail
    refine wp_region_later (by kernel_rfl) (by kernel_rfl) ?_
    repeat (go_big_quiet_step (first | (go_at_call 24; exact Later.same _ (all_any _ b0 b1 _)) | (go_at_call 21; exact Later.call _ (C _))))
    refine wpQuiet_nil ?_
    rintro w5 ⟨⟨_, hw5⟩, rfl⟩
    have c1 : (_ : World).cell? ⟨w.heap.size, 1, none⟩ = _ := hw5.cell (p := ⟨w.heap.size, 1, none⟩) (by simp)
    have z1 : (w.alloc (.cells #[.int .u64 (hiw m), .int .u64 (low m)] 42)).cell? ⟨w.heap.size, 1, none⟩ = some (.int .u64 (low m)) := by simp [go_sem]
    rw [z1] at c1
    have f1 := hw5.frozen (p := ⟨w.heap.size, 1, none⟩) (by simp)
    go_wp2
    go_ret
    exact ⟨by rw [E.out]; rfl, Below.call hg hg.size hw5⟩
end Go.Proofs.Ytahlphbgnhklaaa
