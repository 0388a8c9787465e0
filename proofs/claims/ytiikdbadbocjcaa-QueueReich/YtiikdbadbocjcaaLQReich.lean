/-
  QueueReich: for any room, rate, row and time what waits is the most that came, from any packet on that was not lost, less what the rate took since then, or nothing. No conditions.
-/
import Derived.Test.YtiikdbadbocjcaaMD
import Derived.Test.YtiikdbadbocjcaaMR
import Derived.Deep.CutBlock
import Derived.Test.YtiikdbadbocjcaaRows
import Derived.WalkKit
import Derived.ProofKit
import Derived.OpenShut
import Derived.ChangeOld
import Derived.Below
import Derived.Lib.SmallJoins
namespace Go.Proofs.Ytiikdbadbocjcaa
open Go.RowKit
set_option linter.unusedVariables false
attribute [local go_sem] Later.cell Later.frozen
set_option maxHeartbeats 4000000 in
set_option maxRecDepth 100000 in
theorem reich_skip0 (m r : Int) (ao : Option Addr) (n c : Nat) (Z : Nat → Ld) (at' : Int) (hn : 80 < n) (w : World) :
    Calls Try.prog 5 #[.int .i64 m, .int .i64 r, .slice ao n c, .int .i64 at'] w fun e w' => e = .returned (.bool true) ∧ Below w.heap.size w w' := by
  go_enter Try.func5, Try.ntmps5
  go_wp2_with fail
  refine (small_no ao n c hn _).mono ?_
  rintro e w1 ⟨rfl, hw1⟩; subst w1
  go_wp2_with fail
  refine (queued_any _).mono ?_
  rintro e w2 ⟨rfl, hw2⟩
  have hb := Below.call (Below.refl _ _) (Nat.le_refl _) hw2
  go_wp2
  go_ret
  exact ⟨rfl, hb⟩
set_option maxHeartbeats 4000000 in
set_option maxRecDepth 100000 in
theorem reich_skip1 (m r : Int) (ao : Option Addr) (n c : Nat) (Z : Nat → Ld) (at' : Int) (hn : n ≤ 80)  (c' : m < 1) (w : World) :
    Calls Try.prog 5 #[.int .i64 m, .int .i64 r, .slice ao n c, .int .i64 at'] w fun e w' => e = .returned (.bool true) ∧ Below w.heap.size w w' := by
  go_enter Try.func5, Try.ntmps5
  go_wp2_with fail
  refine (small_yes ao n c hn _).mono ?_
  rintro e w1 ⟨rfl, hw1⟩; subst w1
  go_wp2_with fail
  refine (queued_any _).mono ?_
  rintro e w2 ⟨rfl, hw2⟩
  have hb := Below.call (Below.refl _ _) (Nat.le_refl _) hw2
  go_wp2
  go_ret
  exact ⟨rfl, hb⟩
set_option maxHeartbeats 4000000 in
set_option maxRecDepth 100000 in
theorem reich_skip2 (m r : Int) (ao : Option Addr) (n c : Nat) (Z : Nat → Ld) (at' : Int) (hn : n ≤ 80) (e0 : 1 ≤ m) (c' : 1073741824 < m) (w : World) :
    Calls Try.prog 5 #[.int .i64 m, .int .i64 r, .slice ao n c, .int .i64 at'] w fun e w' => e = .returned (.bool true) ∧ Below w.heap.size w w' := by
  have d0 : decide (m < 1) = false := decide_eq_false (by omega)
  go_enter Try.func5, Try.ntmps5
  go_wp2_with fail
  refine (small_yes ao n c hn _).mono ?_
  rintro e w1 ⟨rfl, hw1⟩; subst w1
  go_wp2_with fail
  refine (queued_any _).mono ?_
  rintro e w2 ⟨rfl, hw2⟩
  have hb := Below.call (Below.refl _ _) (Nat.le_refl _) hw2
  go_wp2
  go_ret
  exact ⟨rfl, hb⟩
set_option maxHeartbeats 4000000 in
set_option maxRecDepth 100000 in
theorem reich_skip3 (m r : Int) (ao : Option Addr) (n c : Nat) (Z : Nat → Ld) (at' : Int) (hn : n ≤ 80) (e0 : 1 ≤ m) (e1 : m ≤ 1073741824) (c' : r < 1) (w : World) :
    Calls Try.prog 5 #[.int .i64 m, .int .i64 r, .slice ao n c, .int .i64 at'] w fun e w' => e = .returned (.bool true) ∧ Below w.heap.size w w' := by
  have d0 : decide (m < 1) = false := decide_eq_false (by omega)
  have d1 : decide (1073741824 < m) = false := decide_eq_false (by omega)
  go_enter Try.func5, Try.ntmps5
  go_wp2_with fail
  refine (small_yes ao n c hn _).mono ?_
  rintro e w1 ⟨rfl, hw1⟩; subst w1
  go_wp2_with fail
  refine (queued_any _).mono ?_
  rintro e w2 ⟨rfl, hw2⟩
  have hb := Below.call (Below.refl _ _) (Nat.le_refl _) hw2
  go_wp2
  go_ret
  exact ⟨rfl, hb⟩
set_option maxHeartbeats 4000000 in
set_option maxRecDepth 100000 in
theorem reich_skip4 (m r : Int) (ao : Option Addr) (n c : Nat) (Z : Nat → Ld) (at' : Int) (hn : n ≤ 80) (e0 : 1 ≤ m) (e1 : m ≤ 1073741824) (e2 : 1 ≤ r) (c' : 1000000000 < r) (w : World) :
    Calls Try.prog 5 #[.int .i64 m, .int .i64 r, .slice ao n c, .int .i64 at'] w fun e w' => e = .returned (.bool true) ∧ Below w.heap.size w w' := by
  have d0 : decide (m < 1) = false := decide_eq_false (by omega)
  have d1 : decide (1073741824 < m) = false := decide_eq_false (by omega)
  have d2 : decide (r < 1) = false := decide_eq_false (by omega)
  go_enter Try.func5, Try.ntmps5
  go_wp2_with fail
  refine (small_yes ao n c hn _).mono ?_
  rintro e w1 ⟨rfl, hw1⟩; subst w1
  go_wp2_with fail
  refine (queued_any _).mono ?_
  rintro e w2 ⟨rfl, hw2⟩
  have hb := Below.call (Below.refl _ _) (Nat.le_refl _) hw2
  go_wp2
  go_ret
  exact ⟨rfl, hb⟩
set_option maxHeartbeats 4000000 in
set_option maxRecDepth 100000 in
theorem reich_skip5 (m r : Int) (ao : Option Addr) (n c : Nat) (Z : Nat → Ld) (at' : Int) (hn : n ≤ 80) (e0 : 1 ≤ m) (e1 : m ≤ 1073741824) (e2 : 1 ≤ r) (e3 : r ≤ 1000000000) (c' : at' < 0) (w : World) :
    Calls Try.prog 5 #[.int .i64 m, .int .i64 r, .slice ao n c, .int .i64 at'] w fun e w' => e = .returned (.bool true) ∧ Below w.heap.size w w' := by
  have d0 : decide (m < 1) = false := decide_eq_false (by omega)
  have d1 : decide (1073741824 < m) = false := decide_eq_false (by omega)
  have d2 : decide (r < 1) = false := decide_eq_false (by omega)
  have d3 : decide (1000000000 < r) = false := decide_eq_false (by omega)
  go_enter Try.func5, Try.ntmps5
  go_wp2_with fail
  refine (small_yes ao n c hn _).mono ?_
  rintro e w1 ⟨rfl, hw1⟩; subst w1
  go_wp2_with fail
  refine (queued_any _).mono ?_
  rintro e w2 ⟨rfl, hw2⟩
  have hb := Below.call (Below.refl _ _) (Nat.le_refl _) hw2
  go_wp2
  go_ret
  exact ⟨rfl, hb⟩
set_option maxHeartbeats 4000000 in
set_option maxRecDepth 100000 in
theorem reich_skip6 (m r : Int) (ao : Option Addr) (n c : Nat) (Z : Nat → Ld) (at' : Int) (hn : n ≤ 80) (e0 : 1 ≤ m) (e1 : m ≤ 1073741824) (e2 : 1 ≤ r) (e3 : r ≤ 1000000000) (e4 : 0 ≤ at') (c' : 1000000000 < at') (w : World) :
    Calls Try.prog 5 #[.int .i64 m, .int .i64 r, .slice ao n c, .int .i64 at'] w fun e w' => e = .returned (.bool true) ∧ Below w.heap.size w w' := by
  have d0 : decide (m < 1) = false := decide_eq_false (by omega)
  have d1 : decide (1073741824 < m) = false := decide_eq_false (by omega)
  have d2 : decide (r < 1) = false := decide_eq_false (by omega)
  have d3 : decide (1000000000 < r) = false := decide_eq_false (by omega)
  have d4 : decide (at' < 0) = false := decide_eq_false (by omega)
  go_enter Try.func5, Try.ntmps5
  go_wp2_with fail
  refine (small_yes ao n c hn _).mono ?_
  rintro e w1 ⟨rfl, hw1⟩; subst w1
  go_wp2_with fail
  refine (queued_any _).mono ?_
  rintro e w2 ⟨rfl, hw2⟩
  have hb := Below.call (Below.refl _ _) (Nat.le_refl _) hw2
  go_wp2
  go_ret
  exact ⟨rfl, hb⟩
set_option maxHeartbeats 4000000 in
set_option maxRecDepth 100000 in
theorem reich_main (m r : Int) (ao : Option Addr) (n c : Nat) (Z : Nat → Ld) (at' : Int) (hn : n ≤ 80) (e0 : 1 ≤ m) (e1 : m ≤ 1073741824) (e2 : 1 ≤ r) (e3 : r ≤ 1000000000) (e4 : 0 ≤ at') (e5 : at' ≤ 1000000000) (w : World) (hz : Lds w ao n c Z) :
    Calls Try.prog 5 #[.int .i64 m, .int .i64 r, .slice ao n c, .int .i64 at'] w fun e w' => e = .returned (.bool true) ∧ Below w.heap.size w w' := by
  have d0 : decide (m < 1) = false := decide_eq_false (by omega)
  have d1 : decide (1073741824 < m) = false := decide_eq_false (by omega)
  have d2 : decide (r < 1) = false := decide_eq_false (by omega)
  have d3 : decide (1000000000 < r) = false := decide_eq_false (by omega)
  have d4 : decide (at' < 0) = false := decide_eq_false (by omega)
  have d5 : decide (1000000000 < at') = false := decide_eq_false (by omega)
  have RW := fun w h => row_some m r ao n c Z (wi_iff.2 ⟨e0, e1⟩) hn w h
  have hcap := hz.cap; have hmax := hz.max
  have hmx : maxLen = 9223372036854775807 := rfl
  go_enter Try.func5, Try.ntmps5
  go_wp2_with fail
  refine (small_yes ao n c hn _).mono ?_
  rintro e w1 ⟨rfl, hw1⟩; subst w1
  go_wp2_with fail
  refine (RW _ hz).mono ?_
  rintro e w2 ⟨⟨ao2, c2, rfl, own⟩, hb⟩
  have FT : Fates w2 ao2 n c2 (fun i => (fl m r Z i, fx m r Z i)) := Fates.own own (fun i hi => fts_get m r Z hi)
  clear own RW d0 d1 d2 d3 d4 d5
  have hcap2 := FT.cap; have hmax2 := FT.max
  have hs := hb.size
  have hz2 := hz.below hb
  obtain ⟨A, hA⟩ : ∃ A, qa m r Z n = A := ⟨_, rfl⟩
  obtain ⟨W, hW⟩ : ∃ W, qw m r Z n = W := ⟨_, rfl⟩
  rw [hA, hW]
  have hQ := q_isq (r := r) (Z := Z) e0 e1 n
  rw [hA, hW] at hQ
  go_wp2_with fail
  go_loopw [11, 12, 13] (fun v11 v12 v13 wr => ∃ (i : Nat) (x sum most : Int), i ≤ n ∧ v11 = .int .i64 most ∧ v12 = .int .i64 sum ∧ v13 = .int .i64 x ∧ x = (i : Int) - 1 ∧ Fates wr ao2 n c2 (fun i => (fl m r Z i, fx m r Z i)) ∧ Lds wr ao n c Z ∧ At2 wr w2.heap.size (.int .i64 A) (.int .i64 W) ∧ Below w.heap.size w wr ∧ Hid (RI m r Z n at' i sum most)) (fun _ _ v13 _ => (intOf v13 + 1).toNat)
  case atStart => exact ⟨n, _, 0, 0, Nat.le_refl _, rfl, rfl, rfl, rfl, FT.below (by go_grown), hz2.below (by go_grown), At2.fresh _ _ _ _, by go_grown, RI.start e2 e4⟩
  case round =>
    clear FT hz2 hb hs hz
    obtain ⟨i, x, sum, most, hi, rfl, rfl, rfl, hx, FT, LD, Q, hB, hI⟩ := hrel
    have s0 := hI.out.s0; have s1 := hI.out.s1; have m0 := hI.out.m0; have m1 := hI.out.m1
    have s2 : sum ≤ 720000000000 := by omega
    clear s1
    cases i with
    | zero =>
      obtain rfl : x = -1 := by omega
      clear hx
      have D := fun w => drain_any m A W r at' w
      obtain ⟨q0, q1, q2, q3, q4⟩ := id Q
      have lQ := Q.lt
      rcases Int.lt_or_le at' A with g | g
      · have hE : drE m A W r at' = 10 := by unfold drE; rw [if_pos hQ, if_pos (wi_iff.2 ⟨e2, e3⟩), if_neg (by omega)]
        obtain ⟨k1, k2⟩ := dr_no (show drE m A W r at' ≠ 0 by rw [hE]; decide)
        rw [hE, k1, k2] at D
        clear hE k1 k2 hI
        go_wp2_with fail
        refine (D _).mono ?_
        rintro e w3 ⟨rfl, hw3⟩
        replace Q := Q.of' hw3
        replace hB := Below.call hB hB.size hw3
        have hs3 := hB.size
        clear hw3 q0 q1 q2 q3 q4 lQ
        obtain ⟨q0, q1, q2, q3, q4⟩ := id Q
        go_wp2_with fail
        refine (queued_any _).mono ?_
        rintro e w4 ⟨rfl, hw4⟩
        replace Q := (Q.alloc _).of' hw4
        replace hB : Below w.heap.size w w4 := Below.call (show Below w.heap.size w _ by go_grown) (by simp; omega) hw4
        clear hw4 q0 q1 q2 q3 q4
        obtain ⟨q0, q1, q2, q3, q4⟩ := id Q
        go_wp2
        go_ret
        exact ⟨rfl, hB⟩
      · have hE : drE m A W r at' = 0 := dr_is hQ e2 e3 e4 (by omega) g
        obtain ⟨_, _, _, _, k1, k2⟩ := dr_ok hE
        have k3 : lft W r (at' - A) = most := by rw [← hA, ← hW]; exact hI.out.end (by rw [hA]; exact g)
        rw [hE, k1, k2, k3] at D
        clear hE k1 k2 k3 hI hA hW
        go_wp2_with fail
        refine (D _).mono ?_
        rintro e w3 ⟨rfl, hw3⟩
        replace hB := Below.call hB hB.size hw3
        have hs3 := hB.size
        clear hw3 q0 q1 q2 q3 q4 lQ Q
        go_wp2_with fail
        refine (queued_any _).mono ?_
        rintro e w4 ⟨rfl, hw4⟩
        have X := At2.after_fresh' hw4
        replace hB : Below w.heap.size w w4 := Below.call (show Below w.heap.size w _ by go_grown) (by simp; omega) hw4
        clear hw4
        obtain ⟨x0, x1, x2, x3, x4⟩ := id X
        go_wp2
        go_ret
        exact ⟨rfl, hB⟩
    | succ j =>
      obtain rfl : x = (j : Int) := by omega
      clear hx
      have hin : j < n := by omega
      obtain ⟨b1, rfl, k1, hc1⟩ := FT.at' (by omega)
      obtain ⟨b2, o2, rfl, k2, hc2⟩ := LD.at' (by omega)
      obtain ⟨p0, p1⟩ := hc1 j hin
      obtain ⟨q0, q1⟩ := hc2 j hin
      replace p1 : _ = some (Value.bool (fx m r Z j)) := p1
      clear hc1 hc2 p0
      by_cases hE : fe m r Z j = 0
      · have hX : fx m r Z j = false := by unfold fx; rw [hE]; rfl
        obtain ⟨⟨t0, t1⟩, ⟨z0, z1⟩⟩ := q_took' hE
        rw [hX] at p1
        clear hX
        have HE : Hid (fe m r Z j = 0) := hE
        clear hE
        obtain ⟨t, ht⟩ : ∃ t, (Z j).a = t := ⟨_, rfl⟩
        obtain ⟨s, hs⟩ : ∃ s, (Z j).s = s := ⟨_, rfl⟩
        rw [ht] at q0 t0 t1
        rw [hs] at q1 z0 z1
        have HT : Hid ((Z j).a = t) := ht
        have HS : Hid ((Z j).s = s) := hs
        clear ht hs
        rcases Int.lt_or_le 1000000000 t with c1 | c1
        · go_wp2_with fail
          refine (queued_any _).mono ?_
          rintro e w3 ⟨rfl, hw3⟩
          replace hB := Below.call hB hB.size hw3
          go_wp2
          go_ret
          exact ⟨rfl, hB⟩
        · have g1 : decide (1000000000 < t) = false := decide_eq_false (by omega)
          rcases Int.lt_or_le at' t with c2 | c2
          · have g2 : decide (t ≤ at') = false := decide_eq_false (by omega)
            go_wp2_with fail
            exact ⟨⟨j, _, _, _, by omega, rfl, rfl, rfl, rfl, FT, LD, Q, hB, by have := RI.late hI.out hin HE.out (by rw [HT.out]; exact c2); rw [HS.out] at this; exact this⟩, by simp only [intOf]; omega⟩
          · have g2 : decide (t ≤ at') = true := decide_eq_true c2
            obtain ⟨y, hy⟩ : ∃ y, r * (at' - t) = y := ⟨_, rfl⟩
            have y0 : 0 ≤ y := by rw [← hy]; exact Int.mul_nonneg (by omega) (by omega)
            have y1 : y ≤ 1000000000000000000 := by rw [← hy]; have := Int.mul_le_mul e3 (show at' - t ≤ 1000000000 by omega) (by omega) (by omega); omega
            have NX : ∀ M, ((M = most ∧ sum + s * 1000000 - y ≤ most) ∨ (M = sum + s * 1000000 - y ∧ most ≤ sum + s * 1000000 - y)) → RI m r Z n at' j (sum + s * 1000000) M := by
              intro M hM
              have := RI.took (M := M) (x := y) hI.out hin HE.out (by rw [HT.out]; exact c2) (by rw [HT.out]; exact hy) (by rw [HS.out]; exact hM)
              rw [HS.out] at this; exact this
            go_wp2_with fail
            refine ⟨⟨j, _, _, _, by omega, rfl, rfl, rfl, rfl, FT, LD, Q, hB, ?_⟩, by simp only [intOf]; omega⟩
            refine NX _ ?_
            split <;> omega
      · have hX : fx m r Z j = true := by unfold fx; simp [hE]
        rw [hX] at p1
        have HE : Hid (fe m r Z j ≠ 0) := hE
        clear hX hE
        go_wp2_with fail
        exact ⟨⟨j, _, _, _, by omega, rfl, rfl, rfl, rfl, FT, LD, Q, hB, RI.lost hI.out HE.out⟩, by simp only [intOf]; omega⟩
theorem walk_reich (m r : Int) (ao : Option Addr) (n c : Nat) (Z : Nat → Ld) (at' : Int) (m_0 : -9223372036854775808 ≤ m) (m_1 : m ≤ 9223372036854775807) (r_0 : -9223372036854775808 ≤ r) (r_1 : r ≤ 9223372036854775807) (t_0 : -9223372036854775808 ≤ at') (t_1 : at' ≤ 9223372036854775807) (w : World) (hz : Lds w ao n c Z) :
    Calls Try.prog 5 #[.int .i64 m, .int .i64 r, .slice ao n c, .int .i64 at'] w fun e w' => e = .returned (.bool true) ∧ Below w.heap.size w w' := by
  rcases Nat.lt_or_ge 80 n with hn | hn
  · exact reich_skip0 m r ao n c Z at' hn w
  · rcases Int.lt_or_le m 1 with c' | e0
    · exact reich_skip1 m r ao n c Z at' hn  c' w
    · rcases Int.lt_or_le 1073741824 m with c' | e1
      · exact reich_skip2 m r ao n c Z at' hn e0 c' w
      · rcases Int.lt_or_le r 1 with c' | e2
        · exact reich_skip3 m r ao n c Z at' hn e0 e1 c' w
        · rcases Int.lt_or_le 1000000000 r with c' | e3
          · exact reich_skip4 m r ao n c Z at' hn e0 e1 e2 c' w
          · rcases Int.lt_or_le at' 0 with c' | e4
            · exact reich_skip5 m r ao n c Z at' hn e0 e1 e2 e3 c' w
            · rcases Int.lt_or_le 1000000000 at' with c' | e5
              · exact reich_skip6 m r ao n c Z at' hn e0 e1 e2 e3 e4 c' w
              · exact reich_main m r ao n c Z at' hn e0 e1 e2 e3 e4 e5 w hz
end Go.Proofs.Ytiikdbadbocjcaa
namespace Go.Proofs.Ytiikdbadbocjcaa.queueReich
open Go.ChangeShapes Go.WideShapes Go.ChangeAt Go.RowKit Go.Joins
set_option linter.unusedVariables false

theorem own : ownKnob Try.prog.godebug = none := by kernel_rfl
theorem laidOut : laidOutB Try.prog = true := by kernel_rfl
theorem word_of {x : Int} (h : (Lit.int .u64 x).wf = true) : 0 ≤ x ∧ x ≤ 18446744073709551615 := by
  simp [Lit.wf, IntKind.min, IntKind.max, IntKind.signed, IntKind.bits] at h
  exact ⟨by omega, by omega⟩
theorem int_of {x : Int} (h : (Lit.int .i64 x).wf = true) : -9223372036854775808 ≤ x ∧ x ≤ 9223372036854775807 := by
  simp [Lit.wf, IntKind.min, IntKind.max, IntKind.signed, IntKind.bits] at h
  exact ⟨by omega, by omega⟩

set_option maxRecDepth 100000 in
theorem lifted (os : Os) (started : os.Started) (H : Type) (enc : TypeId × Value → H) :
    ReturnsInHanded {} Try.checked os 5 .any (Rows.queueReichSpec.pre6 enc Try.prog Try.f5 Rows.queueReichRow.domain false) (Rows.queueReichSpec.post enc Try.prog Try.f5 false true false false) := by
  refine returnsInHanded_of_change (C := Try.checked) own started (by kernel_rfl) Try.func5
    (ChangeSpec.witness6 (enc := enc) (C := Try.checked) false ⟨#[], #[.int .i64 0, .int .i64 0, .slice none 0 0, .int .i64 0], []⟩ 8 (by kernel_rfl) (by kernel_rfl) (by kernel_rfl) (by kernel_rfl)) ?_
  intro W base args ds gs before hval0 hW hcnd _
  have hval : ∀ (j : Nat) t v, Try.f5.params[j]? = some t → args[j]? = some v → Value.okWide Try.prog W .any base t v := hval0
  have hW' := hW
  obtain ⟨p, q, hA0, hV, rfl, hfz, hnd⟩ := hW
  have hA : DataW.TrodAll enc Try.prog W 0 (fun _ => true) true Try.f5.params.toList args.toList ds p := hA0
  rw [Try.params5] at hA hval
  obtain ⟨v0, vs0, d0, ds0, p0, q0, hargs, rfl, rfl, h0, r0⟩ := trodAll_cons hA
  obtain ⟨v1, vs1, d1, ds1, p1, q1, rfl, rfl, rfl, h1, r1⟩ := trodAll_cons r0
  obtain ⟨v2, vs2, d2, ds2, p2, q2, rfl, rfl, rfl, h2, r2⟩ := trodAll_cons r1
  obtain ⟨v3, vs3, d3, ds3, p3, q3, rfl, rfl, rfl, h3, r3⟩ := trodAll_cons r2
  obtain ⟨rfl, rfl, rfl⟩ := trodAll_nil r3
  obtain rfl : args = #[v0, v1, v2, v3] := by cases args; simp_all
  obtain ⟨rfl, rfl⟩ := trodVars_none hV
  obtain ⟨a0, rfl, rfl, rfl, w0⟩ := open_int Try.underlying3 (hval 0 3 v0 rfl rfl) h0
  obtain ⟨a1, rfl, rfl, rfl, w1⟩ := open_int Try.underlying3 (hval 1 3 v1 rfl rfl) h1
  have k2 := h2
  have lt2 : ∀ x ∈ p2, x.block < W.heap.size := by obtain ⟨m, hm⟩ := k2; exact DataW.trod_lt m _ _ _ hm
  obtain ⟨ao_2, n_2, c_2, Z_2, rfl, hz2⟩ := open_loads (hval 2 26 v2 rfl rfl) h2
  obtain ⟨a3, rfl, rfl, rfl, w3⟩ := open_int Try.underlying3 (hval 3 3 v3 rfl rfl) h3
  clear hA0 hval0
  refine (walk_reich a0 a1 ao_2 n_2 c_2 Z_2 a3 (int_of w0).1 (int_of w0).2 (int_of w1).1 (int_of w1).2 (int_of w3).1 (int_of w3).2 W hz2).mono fun e W' ⟨he, bel⟩ => ?_
  subst he
  exact ⟨_, rfl, _, _, _, [], _, [], hW', trodAll_mk1 (shut_bool Try.underlying4 _), (trodAll_cons_mk (shut_int Try.underlying3 w0) (trodAll_cons_mk (shut_int Try.underlying3 w1) (trodAll_cons_mk (Below.trod laidOut (by kernel_rfl) (of_decide_eq_true (by kernel_rfl)) k2 bel lt2) (trodAll_cons_mk (shut_int Try.underlying3 w3) trodAll_mk0)))), rfl, bel.frame _, fun h => by cases h⟩

theorem over : Rows.queueReichRow.holds Try.pinned (OpenSpec.ofChange Rows.queueReichSpec) :=
  OpenClaim.holds_of_wide 5 Try.f5 rfl rfl rfl rfl rfl rfl rfl ⟨rfl, rfl, rfl, rfl, rfl⟩ rfl rfl rfl rfl rfl (by kernel_rfl) Try.func5 (by kernel_rfl)
    (of_decide_eq_true (by kernel_rfl)) (by unfold Func.isWrapper; first | (rw [if_pos (by decide +kernel)]; kernel_rfl) | (rw [if_neg (by decide +kernel)]; exact ⟨rfl, rfl⟩))
    (fun os started H enc _ => lifted os started H enc)
theorem proved : Rows.QueueReichSaid := over
#print axioms proved
end Go.Proofs.Ytiikdbadbocjcaa.queueReich
