/-
  The reference's ledger: in memory; what is made, what is a size, a time, over. No conditions.
-/
import Derived.Test.YtpaalpnoppblaaaX4b
namespace Go.Proofs.Ytpaalpnoppblaaa
open Go.RowKit Go.Maps
set_option linter.unusedVariables false
set_option maxRecDepth 8000
/-- The reference's ledger in block rb; its row is own from block B on. -/
structure RLed (B rb : Nat) (w : World) (v : Value) (s : Lg) : Prop where
  ob : Ob w rb [.int .i64 s.room, .int .u64 s.first, .int .u64 s.next, .int .i64 s.last, v]
  row : w.ownsRow B 57 4 v s.L.length (pcs s.L)
  lt : rb < B
  sz : B ≤ w.heap.size
theorem RLed.far {S : List Nat} {B rb : Nat} {w w1 : World} {v : Value} {s : Lg} (h : RLed B rb w v s) (F : Far S w w1) (h1 : ∀ b ∈ S, b < B) (h2 : rb ∉ S) : RLed B rb w1 v s :=
  ⟨h.ob.far F h2, own_far h.row F h1, h.lt, Nat.le_trans h.sz F.size⟩
theorem RLed.below {B rb : Nat} {w w1 : World} {v : Value} {s : Lg} (h : RLed B rb w v s) (k : Below w.heap.size w w1) : RLed B rb w1 v s := h.far (Far.of_below k) (by simp) (by simp)
theorem RLed.cells {B rb : Nat} {w : World} {v : Value} {s : Lg} (h : RLed B rb w v s) : w.cell? ⟨rb, 0, none⟩ = some (.int .i64 s.room) ∧ w.cell? ⟨rb, 1, none⟩ = some (.int .u64 s.first) ∧ w.cell? ⟨rb, 2, none⟩ = some (.int .u64 s.next) ∧ w.cell? ⟨rb, 3, none⟩ = some (.int .i64 s.last) ∧ w.cell? ⟨rb, 4, none⟩ = some v ∧ (∀ o, w.frozen? ⟨rb, o, none⟩ = false) ∧ rb < w.heap.size :=
  ⟨h.ob.cell rfl, h.ob.cell rfl, h.ob.cell rfl, h.ob.cell rfl, h.ob.cell rfl, h.ob.f, h.ob.lt⟩
set_option maxHeartbeats 400000 in
theorem rnew_no (room first : Int) (h : room < 1 ∨ 4096 < room) (w : World) : Calls Try.prog 23 #[.int .i64 room, .int .u64 first] w fun e w' => e = .returned (.tuple #[.pointer none, .int .i64 1]) ∧ w' = w := by
  go_enter Try.func23, Try.ntmps23
  by_cases h1 : room < 1
  · go_wp2
    go_ret2
    exact ⟨rfl, rfl⟩
  · have h2 : 4096 < room := by omega
    go_wp2
    go_ret2
    exact ⟨rfl, rfl⟩
set_option maxHeartbeats 400000 in
theorem rnew_yes (room first : Int) (h0 : 1 ≤ room) (h1 : room ≤ 4096) (w : World) : Calls Try.prog 23 #[.int .i64 room, .int .u64 first] w fun e w' =>
    ∃ rb, e = .returned (.tuple #[.pointer (some ⟨rb, 0, none⟩), .int .i64 0]) ∧ RLed (rb + 1) rb w' (.slice none 0 0) ⟨room, first, first, first, 0, []⟩ ∧ w.heap.size ≤ rb ∧ Below w.heap.size w w' := by
  have h2 : ¬ room < 1 := by omega
  have h3 : ¬ 4096 < room := by omega
  go_enter Try.func23, Try.ntmps23
  go_wp2
  go_ret2
  have e0 := Ob.fresh w #[.int .i64 room, .int .u64 first, .int .u64 first, .int .i64 0, .slice none 0 0] 44
  exact ⟨w.heap.size, rfl, ⟨e0, World.ownsRow_nil _ _ _ _, by omega, by simp⟩, Nat.le_refl _, by go_grown⟩
theorem size_any (n : Int) (w : World) : Calls Try.prog 75 #[.int .i64 n] w fun e w' => e = .returned (.bool (decide (1 ≤ n ∧ n ≤ 9000))) ∧ w' = w := by
  go_enter Try.func75, Try.ntmps75
  by_cases h1 : 1 ≤ n <;> by_cases h2 : n ≤ 9000
  all_goals
    go_wp2
    go_ret
    exact ⟨by simp <;> omega, rfl⟩
theorem time_any (n : Int) (w : World) : Calls Try.prog 73 #[.int .i64 n] w fun e w' => e = .returned (.bool (decide (0 ≤ n ∧ n ≤ 1099511627776))) ∧ w' = w := by
  go_enter Try.func73, Try.ntmps73
  by_cases h1 : 0 ≤ n <;> by_cases h2 : n ≤ 1099511627776
  all_goals
    go_wp2
    go_ret
    exact ⟨by simp <;> omega, rfl⟩
set_option maxHeartbeats 1000000 in
theorem over_any (p : Pt) (at' td : Int) (a0 : -9223372036854775808 ≤ at') (a1 : at' ≤ 9223372036854775807) (t0 : -9223372036854775808 ≤ td) (t1 : td ≤ 9223372036854775807) (p0 : 0 ≤ p.sent) (p1 : p.sent ≤ 1099511627776) (w : World) :
    Calls Try.prog 77 #[.agg #[.int .u64 p.seq, .int .i64 p.mi, .int .i64 p.size, .int .i64 p.sent], .int .i64 at', .int .i64 td] w fun e w' => e = .returned (.bool (isover at' td p)) ∧ Below w.heap.size w w' := by
  go_enter Try.func77, Try.ntmps77
  by_cases r1 : 9223372036854775807 < at' - td
  · have hw : IntKind.i64.wrap (at' - td) = at' - td - 18446744073709551616 := by unfold IntKind.wrap; simp [IntKind.bits, IntKind.signed]; omega
    obtain ⟨less, hl⟩ : ∃ l, at' - td - 18446744073709551616 = l := ⟨_, rfl⟩
    rw [hl] at hw
    have k1 : td < 0 := by omega
    have k2 : 0 ≤ at' := by omega
    have k3 : less < 0 := by omega
    have ev : isover at' td p = true := by simp [isover]; omega
    rw [ev]
    clear hl ev
    go_wp2
    go_ret
    exact ⟨rfl, by go_grown⟩
  · by_cases r2 : at' - td < -9223372036854775808
    · have hw : IntKind.i64.wrap (at' - td) = at' - td + 18446744073709551616 := by unfold IntKind.wrap; simp [IntKind.bits, IntKind.signed]; omega
      obtain ⟨less, hl⟩ : ∃ l, at' - td + 18446744073709551616 = l := ⟨_, rfl⟩
      rw [hl] at hw
      have k1 : 0 < td := by omega
      have k2 : at' < 0 := by omega
      have k3 : 0 ≤ less := by omega
      have k4 : ¬ td < 0 := by omega
      have ev : isover at' td p = false := by simp [isover]; omega
      rw [ev]
      clear hl ev
      go_wp2
      go_ret
      exact ⟨rfl, by go_grown⟩
    · rcases Int.lt_trichotomy td 0 with k1 | k1 | k1
      · have k4 : ¬ 0 < td := by omega
        by_cases k2 : 0 ≤ at'
        · have k3 : ¬ at' - td < 0 := by omega
          go_wp2
          go_ret
          exact ⟨by simp [isover], by go_grown⟩
        · go_wp2
          go_ret
          exact ⟨by simp [isover], by go_grown⟩
      · have k2 : ¬ td < 0 := by omega
        have k3 : ¬ 0 < td := by omega
        clear k1
        go_wp2
        go_ret
        exact ⟨by simp [isover], by go_grown⟩
      · have k4 : ¬ td < 0 := by omega
        by_cases k2 : at' < 0
        · have k3 : ¬ 0 ≤ at' - td := by omega
          go_wp2
          go_ret
          exact ⟨by simp [isover], by go_grown⟩
        · go_wp2
          go_ret
          exact ⟨by simp [isover], by go_grown⟩
end Go.Proofs.Ytpaalpnoppblaaa
