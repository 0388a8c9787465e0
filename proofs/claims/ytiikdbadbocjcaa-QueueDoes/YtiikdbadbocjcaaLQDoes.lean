/-
  QueueDoes: for any room, queue, rate, load and row of loads the program's Is, Drain, Arrive and Row answer as the document's. No conditions.
-/
import Derived.Test.YtiikdbadbocjcaaMD
import Derived.Test.YtiikdbadbocjcaaMA
import Derived.Test.YtiikdbadbocjcaaRows
import Derived.WalkKit
import Derived.ProofKit
import Derived.OpenShut
import Derived.ChangeOld
import Derived.Below
import Derived.Lib.SmallJoins
namespace Go.Proofs.Ytiikdbadbocjcaa
open Go.RowKit
set_option linter.unusedVariables false
attribute [local go_sem] Later.cell Later.frozen
set_option maxHeartbeats 4000000 in
set_option maxRecDepth 100000 in
theorem does_long (m a k r t s : Int) (ao : Option Addr) (n c : Nat) (Z : Nat → Ld) (hn : 80 < n) (w : World) (hz : Lds w ao n c Z) :
    Calls Try.prog 3 #[.int .i64 m, .agg #[.int .i64 a, .int .i64 k], .int .i64 r, .agg #[.int .i64 t, .int .i64 s], .slice ao n c] w fun e w' => e = .returned (.bool true) ∧ Below w.heap.size w w' := by
  have D := fun w => drain_any m a k r t w
  have RD := fun w => refDrain_any m a k r t w
  have AR := fun w => arrive_any m a k r t s w
  have RA := fun w => refArrive_any m a k r t s w
  generalize drA m a k r t = dA at *
  generalize drW m a k r t = dW at *
  generalize drE m a k r t = dE at *
  generalize arL m a k r t s = aL at *
  generalize arA m a k r t s = aA at *
  generalize arW m a k r t s = aW at *
  generalize arE m a k r t s = aE at *
  obtain ⟨v, hv⟩ : ∃ v, isq m a k = v := ⟨_, rfl⟩
  go_enter Try.func3, Try.ntmps3
  go_wp2_with fail
  refine (D _).mono ?_
  rintro e w1 ⟨rfl, hw1⟩
  have B : At2 w1 w.heap.size (.int .i64 a) (.int .i64 k) := At2.below (by constructor <;> simp [go_sem]) hw1 (by simp <;> omega)
  have L : At2 w1 (w.heap.size + 1) (.int .i64 t) (.int .i64 s) := At2.below (by constructor <;> simp [go_sem]) hw1 (by simp <;> omega)
  have hb : Below w.heap.size w w1 := Below.call (by go_grown) (by simp <;> omega) hw1
  clear hw1
  have hs := hb.size
  obtain ⟨zB0, zB1, zB2, zB3, zB4⟩ := id B
  obtain ⟨zL0, zL1, zL2, zL3, zL4⟩ := id L
  go_wp2_with fail
  refine (RD _).mono ?_
  rintro e w2 ⟨rfl, hw2⟩
  replace B := (B.alloc _).below hw2 (by have := B.lt; simp; omega)
  replace L := (L.alloc _).below hw2 (by have := L.lt; simp; omega)
  have X1 := At2.after_fresh' hw2
  replace hb : Below w.heap.size w w2 := Below.call (show Below w.heap.size w _ by go_grown) (by simp; omega) hw2
  clear hw2
  clear zB0 zB1 zB2 zB3 zB4 zL0 zL1 zL2 zL3 zL4
  obtain ⟨zB0, zB1, zB2, zB3, zB4⟩ := id B
  obtain ⟨zL0, zL1, zL2, zL3, zL4⟩ := id L
  obtain ⟨zX10, zX11, zX12, zX13, zX14⟩ := id X1
  have hs := hb.size
  go_wp2_with fail
  refine (AR _).mono ?_
  rintro e w3 ⟨rfl, hw3⟩
  replace B := (B.alloc _).below hw3 (by have := B.lt; simp; omega)
  replace L := (L.alloc _).below hw3 (by have := L.lt; simp; omega)
  replace X1 := (X1.alloc _).below hw3 (by have := X1.lt; simp; omega)
  have X2 := At2.after_fresh' hw3
  replace hb : Below w.heap.size w w3 := Below.call (show Below w.heap.size w _ by go_grown) (by simp; omega) hw3
  clear hw3
  clear zB0 zB1 zB2 zB3 zB4 zL0 zL1 zL2 zL3 zL4 zX10 zX11 zX12 zX13 zX14
  obtain ⟨zB0, zB1, zB2, zB3, zB4⟩ := id B
  obtain ⟨zL0, zL1, zL2, zL3, zL4⟩ := id L
  obtain ⟨zX10, zX11, zX12, zX13, zX14⟩ := id X1
  obtain ⟨zX20, zX21, zX22, zX23, zX24⟩ := id X2
  have hs := hb.size
  go_wp2_with fail
  refine (RA _).mono ?_
  rintro e w4 ⟨rfl, hw4⟩
  replace B := (B.alloc _).below hw4 (by have := B.lt; simp; omega)
  replace L := (L.alloc _).below hw4 (by have := L.lt; simp; omega)
  replace X1 := (X1.alloc _).below hw4 (by have := X1.lt; simp; omega)
  replace X2 := (X2.alloc _).below hw4 (by have := X2.lt; simp; omega)
  have X3 := At2.after_fresh' hw4
  replace hb : Below w.heap.size w w4 := Below.call (show Below w.heap.size w _ by go_grown) (by simp; omega) hw4
  clear hw4
  clear zB0 zB1 zB2 zB3 zB4 zL0 zL1 zL2 zL3 zL4 zX10 zX11 zX12 zX13 zX14 zX20 zX21 zX22 zX23 zX24
  obtain ⟨zB0, zB1, zB2, zB3, zB4⟩ := id B
  obtain ⟨zL0, zL1, zL2, zL3, zL4⟩ := id L
  obtain ⟨zX10, zX11, zX12, zX13, zX14⟩ := id X1
  obtain ⟨zX20, zX21, zX22, zX23, zX24⟩ := id X2
  obtain ⟨zX30, zX31, zX32, zX33, zX34⟩ := id X3
  have hs := hb.size
  go_upto_region 5 with fail
  refine wp_forget (fun W => At2 W w.heap.size (.int .i64 a) (.int .i64 k) ∧ At2 W w1.heap.size (.int .i64 dA) (.int .i64 dW) ∧ At2 W w2.heap.size (.int .i64 dA) (.int .i64 dW) ∧ At2 W w3.heap.size (.int .i64 aA) (.int .i64 aW) ∧ At2 W w4.heap.size (.int .i64 aA) (.int .i64 aW) ∧ Below w.heap.size w W) ⟨B.alloc _, X1.alloc _, X2.alloc _, X3.alloc _, At2.fresh _ _ _ _, by go_grown⟩ ?_
  clear zB0 zB1 zB2 zB3 zB4 zL0 zL1 zL2 zL3 zL4 zX10 zX11 zX12 zX13 zX14 zX20 zX21 zX22 zX23 zX24 zX30 zX31 zX32 zX33 zX34
  clear B L X1 X2 X3
  rintro W0 ⟨B, X1, X2, X3, X4, hb⟩
  obtain ⟨zB0, zB1, zB2, zB3, zB4⟩ := id B
  obtain ⟨zX10, zX11, zX12, zX13, zX14⟩ := id X1
  obtain ⟨zX20, zX21, zX22, zX23, zX24⟩ := id X2
  obtain ⟨zX30, zX31, zX32, zX33, zX34⟩ := id X3
  obtain ⟨zX40, zX41, zX42, zX43, zX44⟩ := id X4
  have hne : Nonempty (Later W0) := Later.ne W0
  go_wp2_with fail
  refine wp_region_later (by kernel_rfl) (by kernel_rfl) ?_
  try dsimp only [List.append]
  repeat (go_big_quiet_step (first | (go_at_call 12; exact Later.call _ (isq_any m a k v hv _)) | (go_at_call 13; exact Later.call _ (refIs_any m a k v hv _))))
  refine wpQuiet_nil ?_
  rintro w5 ⟨⟨_, hw5⟩, rfl⟩
  replace hb := Below.call hb hb.size hw5
  clear hw5 zB0 zB1 zB2 zB3 zB4 zX10 zX11 zX12 zX13 zX14 zX20 zX21 zX22 zX23 zX24 zX30 zX31 zX32 zX33 zX34 zX40 zX41 zX42 zX43 zX44
  have hs := hb.size
  go_wp2_with fail
  refine (small_no ao n c hn _).mono ?_
  rintro e w6 ⟨rfl, hw6⟩; subst hw6
  go_wp2_with fail
  refine (queued_any _).mono ?_
  rintro e w7 ⟨rfl, hw7⟩
  replace hb := Below.call hb hb.size hw7
  go_wp2
  go_ret
  exact ⟨rfl, hb⟩
set_option maxHeartbeats 4000000 in
set_option maxRecDepth 100000 in
theorem does_short (m a k r t s : Int) (ao : Option Addr) (n c : Nat) (Z : Nat → Ld) (hn : n ≤ 80) (M : Nat) (A W : Int) (f : Nat → Int × Bool) (RW : ∀ w, Lds w ao n c Z → Calls Try.prog 16 #[.int .i64 m, .int .i64 r, .slice ao n c] w fun e w' => (∃ ao' c', e = .returned (.tuple #[.slice ao' M c', .agg #[.int .i64 A, .int .i64 W]]) ∧ Fates w' ao' M c' f) ∧ Below w.heap.size w w') (RF : ∀ w, Lds w ao n c Z → Calls Try.prog 17 #[.int .i64 m, .int .i64 r, .slice ao n c] w fun e w' => (∃ ao' c', e = .returned (.tuple #[.slice ao' M c', .agg #[.int .i64 A, .int .i64 W]]) ∧ Fates w' ao' M c' f) ∧ Below w.heap.size w w') (w : World) (hz : Lds w ao n c Z) :
    Calls Try.prog 3 #[.int .i64 m, .agg #[.int .i64 a, .int .i64 k], .int .i64 r, .agg #[.int .i64 t, .int .i64 s], .slice ao n c] w fun e w' => e = .returned (.bool true) ∧ Below w.heap.size w w' := by
  have D := fun w => drain_any m a k r t w
  have RD := fun w => refDrain_any m a k r t w
  have AR := fun w => arrive_any m a k r t s w
  have RA := fun w => refArrive_any m a k r t s w
  generalize drA m a k r t = dA at *
  generalize drW m a k r t = dW at *
  generalize drE m a k r t = dE at *
  generalize arL m a k r t s = aL at *
  generalize arA m a k r t s = aA at *
  generalize arW m a k r t s = aW at *
  generalize arE m a k r t s = aE at *
  obtain ⟨v, hv⟩ : ∃ v, isq m a k = v := ⟨_, rfl⟩
  go_enter Try.func3, Try.ntmps3
  go_wp2_with fail
  refine (D _).mono ?_
  rintro e w1 ⟨rfl, hw1⟩
  have B : At2 w1 w.heap.size (.int .i64 a) (.int .i64 k) := At2.below (by constructor <;> simp [go_sem]) hw1 (by simp <;> omega)
  have L : At2 w1 (w.heap.size + 1) (.int .i64 t) (.int .i64 s) := At2.below (by constructor <;> simp [go_sem]) hw1 (by simp <;> omega)
  have hb : Below w.heap.size w w1 := Below.call (by go_grown) (by simp <;> omega) hw1
  clear hw1
  have hs := hb.size
  obtain ⟨zB0, zB1, zB2, zB3, zB4⟩ := id B
  obtain ⟨zL0, zL1, zL2, zL3, zL4⟩ := id L
  go_wp2_with fail
  refine (RD _).mono ?_
  rintro e w2 ⟨rfl, hw2⟩
  replace B := (B.alloc _).below hw2 (by have := B.lt; simp; omega)
  replace L := (L.alloc _).below hw2 (by have := L.lt; simp; omega)
  have X1 := At2.after_fresh' hw2
  replace hb : Below w.heap.size w w2 := Below.call (show Below w.heap.size w _ by go_grown) (by simp; omega) hw2
  clear hw2
  clear zB0 zB1 zB2 zB3 zB4 zL0 zL1 zL2 zL3 zL4
  obtain ⟨zB0, zB1, zB2, zB3, zB4⟩ := id B
  obtain ⟨zL0, zL1, zL2, zL3, zL4⟩ := id L
  obtain ⟨zX10, zX11, zX12, zX13, zX14⟩ := id X1
  have hs := hb.size
  go_wp2_with fail
  refine (AR _).mono ?_
  rintro e w3 ⟨rfl, hw3⟩
  replace B := (B.alloc _).below hw3 (by have := B.lt; simp; omega)
  replace L := (L.alloc _).below hw3 (by have := L.lt; simp; omega)
  replace X1 := (X1.alloc _).below hw3 (by have := X1.lt; simp; omega)
  have X2 := At2.after_fresh' hw3
  replace hb : Below w.heap.size w w3 := Below.call (show Below w.heap.size w _ by go_grown) (by simp; omega) hw3
  clear hw3
  clear zB0 zB1 zB2 zB3 zB4 zL0 zL1 zL2 zL3 zL4 zX10 zX11 zX12 zX13 zX14
  obtain ⟨zB0, zB1, zB2, zB3, zB4⟩ := id B
  obtain ⟨zL0, zL1, zL2, zL3, zL4⟩ := id L
  obtain ⟨zX10, zX11, zX12, zX13, zX14⟩ := id X1
  obtain ⟨zX20, zX21, zX22, zX23, zX24⟩ := id X2
  have hs := hb.size
  go_wp2_with fail
  refine (RA _).mono ?_
  rintro e w4 ⟨rfl, hw4⟩
  replace B := (B.alloc _).below hw4 (by have := B.lt; simp; omega)
  replace L := (L.alloc _).below hw4 (by have := L.lt; simp; omega)
  replace X1 := (X1.alloc _).below hw4 (by have := X1.lt; simp; omega)
  replace X2 := (X2.alloc _).below hw4 (by have := X2.lt; simp; omega)
  have X3 := At2.after_fresh' hw4
  replace hb : Below w.heap.size w w4 := Below.call (show Below w.heap.size w _ by go_grown) (by simp; omega) hw4
  clear hw4
  clear zB0 zB1 zB2 zB3 zB4 zL0 zL1 zL2 zL3 zL4 zX10 zX11 zX12 zX13 zX14 zX20 zX21 zX22 zX23 zX24
  obtain ⟨zB0, zB1, zB2, zB3, zB4⟩ := id B
  obtain ⟨zL0, zL1, zL2, zL3, zL4⟩ := id L
  obtain ⟨zX10, zX11, zX12, zX13, zX14⟩ := id X1
  obtain ⟨zX20, zX21, zX22, zX23, zX24⟩ := id X2
  obtain ⟨zX30, zX31, zX32, zX33, zX34⟩ := id X3
  have hs := hb.size
  go_upto_region 5 with fail
  refine wp_forget (fun W => At2 W w.heap.size (.int .i64 a) (.int .i64 k) ∧ At2 W w1.heap.size (.int .i64 dA) (.int .i64 dW) ∧ At2 W w2.heap.size (.int .i64 dA) (.int .i64 dW) ∧ At2 W w3.heap.size (.int .i64 aA) (.int .i64 aW) ∧ At2 W w4.heap.size (.int .i64 aA) (.int .i64 aW) ∧ Below w.heap.size w W) ⟨B.alloc _, X1.alloc _, X2.alloc _, X3.alloc _, At2.fresh _ _ _ _, by go_grown⟩ ?_
  clear zB0 zB1 zB2 zB3 zB4 zL0 zL1 zL2 zL3 zL4 zX10 zX11 zX12 zX13 zX14 zX20 zX21 zX22 zX23 zX24 zX30 zX31 zX32 zX33 zX34
  clear B L X1 X2 X3
  rintro W0 ⟨B, X1, X2, X3, X4, hb⟩
  obtain ⟨zB0, zB1, zB2, zB3, zB4⟩ := id B
  obtain ⟨zX10, zX11, zX12, zX13, zX14⟩ := id X1
  obtain ⟨zX20, zX21, zX22, zX23, zX24⟩ := id X2
  obtain ⟨zX30, zX31, zX32, zX33, zX34⟩ := id X3
  obtain ⟨zX40, zX41, zX42, zX43, zX44⟩ := id X4
  have hne : Nonempty (Later W0) := Later.ne W0
  go_wp2_with fail
  refine wp_region_later (by kernel_rfl) (by kernel_rfl) ?_
  try dsimp only [List.append]
  repeat (go_big_quiet_step (first | (go_at_call 12; exact Later.call _ (isq_any m a k v hv _)) | (go_at_call 13; exact Later.call _ (refIs_any m a k v hv _))))
  refine wpQuiet_nil ?_
  rintro w5 ⟨⟨_, hw5⟩, rfl⟩
  replace hb := Below.call hb hb.size hw5
  clear hw5 zB0 zB1 zB2 zB3 zB4 zX10 zX11 zX12 zX13 zX14 zX20 zX21 zX22 zX23 zX24 zX30 zX31 zX32 zX33 zX34 zX40 zX41 zX42 zX43 zX44
  have hs := hb.size
  go_wp2_with fail
  refine (small_yes ao n c hn _).mono ?_
  rintro e w6 ⟨rfl, hw6⟩; subst hw6
  go_wp2_with fail
  refine (RW _ (hz.below hb)).mono ?_
  rintro e w7 ⟨⟨ao7, c7, rfl, F7⟩, hw7⟩
  replace hb := Below.call hb hb.size hw7
  clear hw7
  have hs := hb.size
  go_wp2_with fail
  refine (RF _ (hz.below (by go_grown))).mono ?_
  rintro e w8 ⟨⟨ao8, c8, rfl, F8⟩, hw8⟩
  have Q := At2.after_fresh' hw8
  replace F7 := (F7.below ((Below.refl _ _).alloc (Nat.le_refl _) _)).below hw8
  replace hb : Below w.heap.size w w8 := Below.call (show Below w.heap.size w _ by go_grown) (by simp; omega) hw8
  clear hw8
  have hs := hb.size
  obtain ⟨zQ0, zQ1, zQ2, zQ3, zQ4⟩ := id Q
  go_wp2_with fail
  refine (queued_any _).mono ?_
  rintro e w9 ⟨rfl, hw9⟩
  replace Q := (Q.alloc _).below hw9 (by have := Q.lt; simp; omega)
  have P := At2.after_fresh' hw9
  replace F7 := (F7.below ((Below.refl _ _).alloc (Nat.le_refl _) _)).below hw9
  replace F8 := (F8.below ((Below.refl _ _).alloc (Nat.le_refl _) _)).below hw9
  replace hb : Below w.heap.size w w9 := Below.call (show Below w.heap.size w _ by go_grown) (by simp; omega) hw9
  clear hw9 zQ0 zQ1 zQ2 zQ3 zQ4
  have hs := hb.size
  obtain ⟨zQ0, zQ1, zQ2, zQ3, zQ4⟩ := id Q
  obtain ⟨zP0, zP1, zP2, zP3, zP4⟩ := id P
  go_wp2_with fail
  refine (same_any _ _ _ _ _ f _ F7 F8).mono ?_
  rintro e w10 ⟨rfl, hw10⟩
  replace Q := Q.of' hw10
  replace P := P.of' hw10
  replace hb := Below.call hb hb.size hw10
  clear hw10 zQ0 zQ1 zQ2 zQ3 zQ4 zP0 zP1 zP2 zP3 zP4
  obtain ⟨zQ0, zQ1, zQ2, zQ3, zQ4⟩ := id Q
  obtain ⟨zP0, zP1, zP2, zP3, zP4⟩ := id P
  go_wp2
  go_ret
  exact ⟨rfl, hb⟩
theorem walk_qdoes (m a k r t s : Int) (ao : Option Addr) (n c : Nat) (Z : Nat → Ld) (m_0 : -9223372036854775808 ≤ m) (m_1 : m ≤ 9223372036854775807) (a_0 : -9223372036854775808 ≤ a) (a_1 : a ≤ 9223372036854775807) (k_0 : -9223372036854775808 ≤ k) (k_1 : k ≤ 9223372036854775807) (r_0 : -9223372036854775808 ≤ r) (r_1 : r ≤ 9223372036854775807) (t_0 : -9223372036854775808 ≤ t) (t_1 : t ≤ 9223372036854775807) (s_0 : -9223372036854775808 ≤ s) (s_1 : s ≤ 9223372036854775807) (w : World) (hz : Lds w ao n c Z) :
    Calls Try.prog 3 #[.int .i64 m, .agg #[.int .i64 a, .int .i64 k], .int .i64 r, .agg #[.int .i64 t, .int .i64 s], .slice ao n c] w fun e w' => e = .returned (.bool true) ∧ Below w.heap.size w w' := by
  by_cases hn : 80 < n
  · exact does_long m a k r t s ao n c Z hn w hz
  · have hn2 : n ≤ 80 := by omega
    cases hm : wi m 1 1073741824
    · have hi : isq m 0 0 = false := by simp [isq, hm]
      have E : ∀ w, Fates w none 0 0 (fun _ => (0, false)) := fun w => ⟨Nat.le_refl _, by unfold maxLen; omega, fun h => absurd h (Nat.lt_irrefl _)⟩
      refine does_short m a k r t s ao n c Z hn2 0 0 0 (fun _ => (0, false)) (fun w h => (row_none m r ao n c hm w).mono ?_) (fun w h => (refRow_none m r ao n c hi w).mono ?_) w hz
      · rintro e w' ⟨rfl, hb⟩; exact ⟨⟨none, 0, rfl, E _⟩, hb⟩
      · rintro e w' ⟨rfl, hb⟩; exact ⟨⟨none, 0, rfl, E _⟩, hb⟩
    · have hi : isq m 0 0 = true := by
        have := wi_iff.1 hm
        exact isq_iff.2 ⟨this, by omega, by omega, by omega⟩
      refine does_short m a k r t s ao n c Z hn2 n (qa m r Z n) (qw m r Z n) (fun i => (fl m r Z i, fx m r Z i)) (fun w h => (row_some m r ao n c Z hm hn2 w h).mono ?_) (fun w h => (refRow_some m r ao n c Z hi hn2 w h).mono ?_) w hz
      · rintro e w' ⟨⟨ao', c', rfl, own⟩, hb⟩; exact ⟨⟨ao', c', rfl, Fates.own own (fun i hi => fts_get m r Z hi)⟩, hb⟩
      · rintro e w' ⟨⟨ao', c', rfl, own⟩, hb⟩; exact ⟨⟨ao', c', rfl, Fates.own own (fun i hi => fts_get m r Z hi)⟩, hb⟩
end Go.Proofs.Ytiikdbadbocjcaa
namespace Go.Proofs.Ytiikdbadbocjcaa.queueDoes
open Go.ChangeShapes Go.WideShapes Go.ChangeAt Go.RowKit Go.Joins
set_option linter.unusedVariables false

theorem own : ownKnob Try.prog.godebug = none := by kernel_rfl
theorem laidOut : laidOutB Try.prog = true := by kernel_rfl
theorem cells23 : Try.prog.cellsOf 23 = 2 := by kernel_rfl
theorem cells25 : Try.prog.cellsOf 25 = 2 := by kernel_rfl
theorem word_of {x : Int} (h : (Lit.int .u64 x).wf = true) : 0 ≤ x ∧ x ≤ 18446744073709551615 := by
  simp [Lit.wf, IntKind.min, IntKind.max, IntKind.signed, IntKind.bits] at h
  exact ⟨by omega, by omega⟩
theorem int_of {x : Int} (h : (Lit.int .i64 x).wf = true) : -9223372036854775808 ≤ x ∧ x ≤ 9223372036854775807 := by
  simp [Lit.wf, IntKind.min, IntKind.max, IntKind.signed, IntKind.bits] at h
  exact ⟨by omega, by omega⟩

set_option maxRecDepth 100000 in
theorem lifted (os : Os) (started : os.Started) (H : Type) (enc : TypeId × Value → H) :
    ReturnsInHanded {} Try.checked os 3 .any (Rows.queueDoesSpec.pre6 enc Try.prog Try.f3 Rows.queueDoesRow.domain false) (Rows.queueDoesSpec.post enc Try.prog Try.f3 false true false false) := by
  refine returnsInHanded_of_change (C := Try.checked) own started (by kernel_rfl) Try.func3
    (ChangeSpec.witness6 (enc := enc) (C := Try.checked) false ⟨#[], #[.int .i64 0, .agg #[.int .i64 0, .int .i64 0], .int .i64 0, .agg #[.int .i64 0, .int .i64 0], .slice none 0 0], []⟩ 8 (by kernel_rfl) (by kernel_rfl) (by kernel_rfl) (by kernel_rfl)) ?_
  intro W base args ds gs before hval0 hW hcnd _
  have hval : ∀ (j : Nat) t v, Try.f3.params[j]? = some t → args[j]? = some v → Value.okWide Try.prog W .any base t v := hval0
  have hW' := hW
  obtain ⟨p, q, hA0, hV, rfl, hfz, hnd⟩ := hW
  have hA : DataW.TrodAll enc Try.prog W 0 (fun _ => true) true Try.f3.params.toList args.toList ds p := hA0
  rw [Try.params3] at hA hval
  obtain ⟨v0, vs0, d0, ds0, p0, q0, hargs, rfl, rfl, h0, r0⟩ := trodAll_cons hA
  obtain ⟨v1, vs1, d1, ds1, p1, q1, rfl, rfl, rfl, h1, r1⟩ := trodAll_cons r0
  obtain ⟨v2, vs2, d2, ds2, p2, q2, rfl, rfl, rfl, h2, r2⟩ := trodAll_cons r1
  obtain ⟨v3, vs3, d3, ds3, p3, q3, rfl, rfl, rfl, h3, r3⟩ := trodAll_cons r2
  obtain ⟨v4, vs4, d4, ds4, p4, q4, rfl, rfl, rfl, h4, r4⟩ := trodAll_cons r3
  obtain ⟨rfl, rfl, rfl⟩ := trodAll_nil r4
  obtain rfl : args = #[v0, v1, v2, v3, v4] := by cases args; simp_all
  obtain ⟨rfl, rfl⟩ := trodVars_none hV
  obtain ⟨a0, rfl, rfl, rfl, w0⟩ := open_int Try.underlying3 (hval 0 3 v0 rfl rfl) h0
  have k1 := h1
  have lt1 : ∀ x ∈ p1, x.block < W.heap.size := by obtain ⟨m, hm⟩ := k1; exact DataW.trod_lt m _ _ _ hm
  obtain ⟨c1a, c1b, y1a, y1b, m1, rfl, rfl, rfl, hy1a, hy1b⟩ := open_agg2 Try.underlying23 (by kernel_rfl) cells23 (hval 1 23 v1 rfl rfl) h1
  obtain ⟨x1a, e1a, rfl, w1a⟩ := DataW.trod_int Try.underlying3 hy1a
  obtain ⟨x1b, e1b, rfl, w1b⟩ := DataW.trod_int Try.underlying3 hy1b
  simp at e1a e1b
  subst e1a e1b
  obtain ⟨a2, rfl, rfl, rfl, w2⟩ := open_int Try.underlying3 (hval 2 3 v2 rfl rfl) h2
  have k3 := h3
  have lt3 : ∀ x ∈ p3, x.block < W.heap.size := by obtain ⟨m, hm⟩ := k3; exact DataW.trod_lt m _ _ _ hm
  obtain ⟨c3a, c3b, y3a, y3b, m3, rfl, rfl, rfl, hy3a, hy3b⟩ := open_agg2 Try.underlying25 (by kernel_rfl) cells25 (hval 3 25 v3 rfl rfl) h3
  obtain ⟨x3a, e3a, rfl, w3a⟩ := DataW.trod_int Try.underlying3 hy3a
  obtain ⟨x3b, e3b, rfl, w3b⟩ := DataW.trod_int Try.underlying3 hy3b
  simp at e3a e3b
  subst e3a e3b
  have k4 := h4
  have lt4 : ∀ x ∈ p4, x.block < W.heap.size := by obtain ⟨m, hm⟩ := k4; exact DataW.trod_lt m _ _ _ hm
  obtain ⟨ao_4, n_4, c_4, Z_4, rfl, hz4⟩ := open_loads (hval 4 26 v4 rfl rfl) h4
  clear hA0 hval0
  refine (walk_qdoes a0 x1a x1b a2 x3a x3b ao_4 n_4 c_4 Z_4 (int_of w0).1 (int_of w0).2 (int_of w1a).1 (int_of w1a).2 (int_of w1b).1 (int_of w1b).2 (int_of w2).1 (int_of w2).2 (int_of w3a).1 (int_of w3a).2 (int_of w3b).1 (int_of w3b).2 W hz4).mono fun e W' ⟨he, bel⟩ => ?_
  subst he
  exact ⟨_, rfl, _, _, _, [], _, [], hW', trodAll_mk1 (shut_bool Try.underlying4 _), (trodAll_cons_mk (shut_int Try.underlying3 w0) (trodAll_cons_mk (Below.trod laidOut (by kernel_rfl) (of_decide_eq_true (by kernel_rfl)) k1 bel lt1) (trodAll_cons_mk (shut_int Try.underlying3 w2) (trodAll_cons_mk (Below.trod laidOut (by kernel_rfl) (of_decide_eq_true (by kernel_rfl)) k3 bel lt3) (trodAll_cons_mk (Below.trod laidOut (by kernel_rfl) (of_decide_eq_true (by kernel_rfl)) k4 bel lt4) trodAll_mk0))))), rfl, bel.frame _, fun h => by cases h⟩

theorem over : Rows.queueDoesRow.holds Try.pinned (OpenSpec.ofChange Rows.queueDoesSpec) :=
  OpenClaim.holds_of_wide 3 Try.f3 rfl rfl rfl rfl rfl rfl rfl ⟨rfl, rfl, rfl, rfl, rfl⟩ rfl rfl rfl rfl rfl (by kernel_rfl) Try.func3 (by kernel_rfl)
    (of_decide_eq_true (by kernel_rfl)) (by unfold Func.isWrapper; first | (rw [if_pos (by decide +kernel)]; kernel_rfl) | (rw [if_neg (by decide +kernel)]; exact ⟨rfl, rfl⟩))
    (fun os started H enc _ => lifted os started H enc)
theorem proved : Rows.QueueDoesSaid := over
#print axioms proved
end Go.Proofs.Ytiikdbadbocjcaa.queueDoes
