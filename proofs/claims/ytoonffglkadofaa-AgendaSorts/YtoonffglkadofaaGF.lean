/-
  The statements' own example. No conditions.
-/
import Derived.Test.YtoonffglkadofaaGA
namespace Go.Proofs.Ytoonffglkadofaa
open Go.RowKit
set_option linter.unusedVariables false
theorem Ag.reach {w : World} {ab base B : Nat} {m T : Int} {v : Value} {n : Nat} {L R : List Ent} (h : Ag w ab base m T v n L R) (hB : B ≤ ab) : ∀ b ∈ ab :: v.ownBlock.toList, B ≤ b := fun b hb => by
  rcases List.mem_cons.1 hb with rfl | hb
  · exact hB
  · have := (h.own.lt b (mem_opt hb)).1; have := h.bb; omega
/-- What the agenda's own calls leave as it was. -/
theorem Ag.step {w0 w w1 : World} {ab base B : Nat} {m T : Int} {v : Value} {n : Nat} {L R : List Ent} (h : Ag w ab base m T v n L R) (hB : Below B w0 w) (h1 : B ≤ w.heap.size) (h2 : B ≤ ab) (k : Far (ab :: v.ownBlock.toList) w w1) : Below B w0 w1 :=
  Far.call hB h1 k (h.reach h2)
theorem Ag.keep4 {w w1 : World} {ab base b : Nat} {m T : Int} {v : Value} {n : Nat} {L R : List Ent} {x0 x1 x2 x3 : Value} (h : Ag w ab base m T v n L R) (k : Far (ab :: v.ownBlock.toList) w w1) (X : At4 w b x0 x1 x2 x3) (h1 : b ≠ ab) (h2 : ∀ g, v.ownBlock = some g → g ≠ b) : At4 w1 b x0 x1 x2 x3 :=
  k.at4 X (fun hm => by
    rcases List.mem_cons.1 hm with e | hm
    · exact h1 e
    · exact h2 b (mem_opt hm) rfl)
theorem own_n (ao : Option Addr) (n c m d : Nat) : (Value.slice ao n c).ownBlock = (Value.slice ao m d).ownBlock := by cases ao <;> rfl
set_option maxHeartbeats 4000000 in
set_option maxRecDepth 100000 in
theorem noted_any (w : World) : Calls Try.prog 16 #[] w fun e w' => e = .returned (.bool true) ∧ Below w.heap.size w w' := by
  go_enter Try.func16, Try.ntmps16
  go_wp2_with fail
  refine (new_yes 3 (by omega) (by omega) _).mono ?_
  rintro e w1 ⟨rfl, hs1, A, hB⟩
  go_wp2_with fail
  refine (put_room w.heap.size (w.heap.size + 1) 3 0 none 0 0 [] [] ⟨5, 0, 1, 0⟩ (by omega) (by decide) (by omega) (by omega) _ A).mono ?_
  rintro e w2 ⟨rfl, ao, c, L, A2, _, F2⟩
  replace hB := A.step hB (by omega) (Nat.le_refl _) F2
  clear A F2 hs1
  go_wp2_with fail
  refine (put_room w.heap.size (w.heap.size + 1) 3 (0 + 1) ao (0 + 1) c L _ ⟨3, 0, 0, 0⟩ (by omega) (by decide) (by omega) (by omega) _ A2).mono ?_
  rintro e w3 ⟨rfl, ao3, c3, L3, A3, _, F3⟩
  replace hB := A2.step hB hB.size (Nat.le_refl _) F3
  clear A2 F3
  go_wp2_with fail
  refine (put_room w.heap.size (w.heap.size + 1) 3 (0 + 1 + 1) ao3 (0 + 1 + 1) c3 L3 _ ⟨5, 0, 2, 0⟩ (by omega) (by decide) (by omega) (by omega) _ A3).mono ?_
  rintro e w4 ⟨rfl, ao4, c4, L4, A4, _, F4⟩
  replace hB := A3.step hB hB.size (Nat.le_refl _) F4
  clear A3 F4
  go_wp2_with fail
  refine (put_full w.heap.size (w.heap.size + 1) 3 (0 + 1 + 1 + 1) (.slice ao4 (0 + 1 + 1 + 1) c4) (0 + 1 + 1 + 1) L4 _ ⟨1, 0, 0, 0⟩ (by omega) (by decide) _ A4).mono ?_
  rintro e w5 ⟨rfl, hw5⟩
  replace A4 := A4.below hw5
  replace hB := Below.call hB hB.size hw5
  clear hw5
  have N1 : ∀ w', Ag w' w.heap.size (w.heap.size + 1) 3 3 (.slice ao4 3 c4) 3 L4 [⟨⟨5, 0, 1, 0⟩, 0⟩, ⟨⟨3, 0, 0, 0⟩, 1⟩, ⟨⟨5, 0, 2, 0⟩, 2⟩] → Calls Try.prog 11 #[.pointer (some ⟨w.heap.size, 0, none⟩), .int .i64 4] w' fun e w'' => e = .returned (.tuple #[.agg #[.int .i64 3, .int .i64 0, .int .i64 0, .int .u64 0], .bool true]) ∧
      ∃ L', Ag w'' w.heap.size (w.heap.size + 1) 3 3 (.slice ao4 2 c4) 2 L' [⟨⟨5, 0, 1, 0⟩, 0⟩, ⟨⟨5, 0, 2, 0⟩, 2⟩] ∧ Far (w.heap.size :: (Value.slice ao4 3 c4).ownBlock.toList) w' w'' :=
    fun w' A => next_yes w.heap.size (w.heap.size + 1) 3 3 ao4 3 c4 L4 [⟨⟨5, 0, 1, 0⟩, 0⟩, ⟨⟨3, 0, 0, 0⟩, 1⟩, ⟨⟨5, 0, 2, 0⟩, 2⟩] 4 (by omega) (by rfl) w' A
  go_wp2_with fail
  refine (N1 _ A4).mono ?_
  rintro e w6 ⟨rfl, L6, A6, F6⟩
  replace hB := A4.step hB hB.size (Nat.le_refl _) F6
  have hg : ∀ g, (Value.slice ao4 2 c4).ownBlock = some g → g < w6.heap.size := fun g h => (A6.own.lt g h).2
  clear A4 F6 N1
  have hs6 := hB.size
  have la6 := A6.lt
  have N2 : ∀ w', Ag w' w.heap.size (w.heap.size + 1) 3 3 (.slice ao4 2 c4) 2 L6 [⟨⟨5, 0, 1, 0⟩, 0⟩, ⟨⟨5, 0, 2, 0⟩, 2⟩] → Calls Try.prog 11 #[.pointer (some ⟨w.heap.size, 0, none⟩), .int .i64 4] w' fun e w'' => e = .returned (.tuple #[.agg #[.int .i64 0, .int .i64 0, .int .i64 0, .int .u64 0], .bool false]) ∧ Below w'.heap.size w' w'' :=
    fun w' A => next_no w.heap.size (w.heap.size + 1) 3 3 (.slice ao4 2 c4) 2 L6 [⟨⟨5, 0, 1, 0⟩, 0⟩, ⟨⟨5, 0, 2, 0⟩, 2⟩] 4 (by omega) (by rfl) w' A
  go_wp2_with fail
  refine (N2 _ (A6.alloc _)).mono ?_
  rintro e w7 ⟨rfl, hw7⟩
  replace A6 := (A6.alloc (.cells #[.int .i64 3, .int .i64 0, .int .i64 0, .int .u64 0] 32)).below hw7
  have X6 := At4.of hw7 (At4.fresh w6 (.int .i64 3) (.int .i64 0) (.int .i64 0) (.int .u64 0) 32)
  have hs7 : w6.heap.size < w7.heap.size := X6.lt
  replace hB : Below w.heap.size w w7 := Below.call (show Below w.heap.size w _ by go_grown) (by simp; omega) hw7
  clear hw7 N2
  have N3 : ∀ w', Ag w' w.heap.size (w.heap.size + 1) 3 3 (.slice ao4 2 c4) 2 L6 [⟨⟨5, 0, 1, 0⟩, 0⟩, ⟨⟨5, 0, 2, 0⟩, 2⟩] → Calls Try.prog 11 #[.pointer (some ⟨w.heap.size, 0, none⟩), .int .i64 5] w' fun e w'' => e = .returned (.tuple #[.agg #[.int .i64 5, .int .i64 0, .int .i64 1, .int .u64 0], .bool true]) ∧
      ∃ L', Ag w'' w.heap.size (w.heap.size + 1) 3 3 (.slice ao4 1 c4) 1 L' [⟨⟨5, 0, 2, 0⟩, 2⟩] ∧ Far (w.heap.size :: (Value.slice ao4 2 c4).ownBlock.toList) w' w'' :=
    fun w' A => next_yes w.heap.size (w.heap.size + 1) 3 3 ao4 2 c4 L6 [⟨⟨5, 0, 1, 0⟩, 0⟩, ⟨⟨5, 0, 2, 0⟩, 2⟩] 5 (by omega) (by rfl) w' A
  go_wp2_with fail
  refine (N3 _ (A6.alloc _)).mono ?_
  rintro e w8 ⟨rfl, L8, A8, F8⟩
  have X8 := (A6.alloc _).keep4 F8 (X6.alloc _) (by omega) (fun g h => by have := hg g h; omega)
  have hs8 := F8.size
  simp only [World.size_alloc] at hs8
  have hB7 : Below w.heap.size w (w7.alloc (.cells #[.int .i64 0, .int .i64 0, .int .i64 0, .int .u64 0] 32)) := by have := hB.size; go_grown
  replace hB := (A6.alloc _).step hB7 hB7.size (Nat.le_refl _) F8
  clear A6 F8 X6 N3 hB7
  have P1 : ∀ w', Ag w' w.heap.size (w.heap.size + 1) 3 3 (.slice ao4 1 c4) 1 L8 [⟨⟨5, 0, 2, 0⟩, 2⟩] → Calls Try.prog 13 #[.pointer (some ⟨w.heap.size, 0, none⟩)] w' fun e w'' => e = .returned (.tuple #[.agg #[.int .i64 5, .int .i64 0, .int .i64 2, .int .u64 0], .bool true]) ∧ Below w'.heap.size w' w'' :=
    fun w' A => peek_any w.heap.size (w.heap.size + 1) 3 3 (.slice ao4 1 c4) 1 L8 [⟨⟨5, 0, 2, 0⟩, 2⟩] (by omega) w' A
  go_wp2_with fail
  refine (P1 _ (A8.alloc _)).mono ?_
  rintro e w9 ⟨rfl, hw9⟩
  have X9 := At4.of hw9 (X8.alloc (.cells #[.int .i64 5, .int .i64 0, .int .i64 1, .int .u64 0] 32))
  have Y9 := At4.of hw9 (At4.fresh w8 (.int .i64 5) (.int .i64 0) (.int .i64 1) (.int .u64 0) 32)
  replace A8 := (A8.alloc (.cells #[.int .i64 5, .int .i64 0, .int .i64 1, .int .u64 0] 32)).below hw9
  have hs9 : w8.heap.size < w9.heap.size := Y9.lt
  have hsz8 := hB.size
  replace hB : Below w.heap.size w w9 := Below.call (show Below w.heap.size w _ by go_grown) (by simp; omega) hw9
  clear hw9 P1 X8
  go_wp2_with fail
  refine (put_nil ⟨0, 0, 0, 0⟩ _).mono ?_
  rintro e w10 ⟨rfl, hw10⟩
  have X10 := At4.of hw10 (X9.alloc (.cells #[.int .i64 5, .int .i64 0, .int .i64 2, .int .u64 0] 32))
  have Y10 := At4.of hw10 (Y9.alloc (.cells #[.int .i64 5, .int .i64 0, .int .i64 2, .int .u64 0] 32))
  have Z10 := At4.of hw10 (At4.fresh w9 (.int .i64 5) (.int .i64 0) (.int .i64 2) (.int .u64 0) 32)
  replace A8 := (A8.alloc (.cells #[.int .i64 5, .int .i64 0, .int .i64 2, .int .u64 0] 32)).below hw10
  have hsz9 := hB.size
  replace hB : Below w.heap.size w w10 := Below.call (show Below w.heap.size w _ by go_grown) (by simp; omega) hw10
  clear hw10 X9 Y9
  obtain ⟨x0, x1, x2, x3, _, _, _, _, xl⟩ := id X10
  obtain ⟨y0, y1, y2, y3, _, _, _, _, yl⟩ := id Y10
  obtain ⟨z0, z1, z2, z3, _, _, _, _, zl⟩ := id Z10
  clear X10 Y10 Z10
  go_wp2_with fail
  refine (len_any w.heap.size (w.heap.size + 1) 3 3 (.slice ao4 1 c4) 1 L8 _ (by omega) _ A8).mono ?_
  rintro e w11 ⟨rfl, hw11⟩
  replace hB := Below.call hB hB.size hw11
  clear hw11 A8 x0 x1 x2 x3 y0 y1 y2 y3 z0 z1 z2 z3
  go_wp2
  go_ret
  exact ⟨rfl, hB⟩
end Go.Proofs.Ytoonffglkadofaa
