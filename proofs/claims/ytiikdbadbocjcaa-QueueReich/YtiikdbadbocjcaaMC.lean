/-
  The example of the layer's statements: the document's row. No conditions.
-/
import Derived.Test.YtiikdbadbocjcaaMB
namespace Go.Proofs.Ytiikdbadbocjcaa
open Go.RowKit
set_option linter.unusedVariables false
attribute [local go_sem] Later.cell Later.frozen
/-- The example's loads and fates. -/
def Zq : Nat → Ld
  | 0 => ⟨0, 1500⟩
  | 1 => ⟨0, 1500⟩
  | 2 => ⟨1, 2⟩
  | 3 => ⟨1000, 1000⟩
  | _ => ⟨0, 0⟩
def Fq : Nat → Int × Bool
  | 0 => (1500, false)
  | 1 => (3000, false)
  | 2 => (0, true)
  | 3 => (4000, false)
  | _ => (0, false)
theorem Zq_fts : fts 3000 1000000 Zq 4 = [(1500, false), (3000, false), (0, true), (4000, false)] := by decide +kernel
theorem Zq_qa : qa 3000 1000000 Zq 4 = 1000 := by decide +kernel
theorem Zq_qw : qw 3000 1000000 Zq 4 = 3000000000 := by decide +kernel
theorem Zq_lds (w : World) : Lds (w.alloc (.cells #[.int .i64 0, .int .i64 1500, .int .i64 0, .int .i64 1500, .int .i64 1, .int .i64 2, .int .i64 1000, .int .i64 1000] 25)) (some ⟨w.heap.size, 0, none⟩) 4 4 Zq := by
  refine ⟨Nat.le_refl _, by unfold maxLen; omega, fun i => ?_, fun _ => ⟨w.heap.size, 0, rfl, by simp, fun i hi => ?_⟩⟩
  · match i with
    | 0 => exact ⟨by decide, by decide⟩
    | 1 => exact ⟨by decide, by decide⟩
    | 2 => exact ⟨by decide, by decide⟩
    | 3 => exact ⟨by decide, by decide⟩
    | i + 4 => exact ⟨⟨by show (-9223372036854775808 : Int) ≤ 0; decide, by show (0 : Int) ≤ 9223372036854775807; decide⟩, ⟨by show (-9223372036854775808 : Int) ≤ 0; decide, by show (0 : Int) ≤ 9223372036854775807; decide⟩⟩
  · match i, hi with
    | 0, _ => constructor <;> simp [go_sem, Zq]
    | 1, _ => constructor <;> simp [go_sem, Zq]
    | 2, _ => constructor <;> simp [go_sem, Zq]
    | 3, _ => constructor <;> simp [go_sem, Zq]
theorem Fq_lit (w : World) (b : Nat) (hb : w.heap.size = b) : Fates (w.alloc (.cells #[.int .i64 1500, .bool false, .int .i64 3000, .bool false, .int .i64 0, .bool true, .int .i64 4000, .bool false] 41)) (some ⟨b, 0, none⟩) 4 4 Fq := by
  subst hb
  refine ⟨Nat.le_refl _, by unfold maxLen; omega, fun _ => ⟨w.heap.size, rfl, by simp, fun i hi => ?_⟩⟩
  match i, hi with
  | 0, _ => constructor <;> simp [go_sem, Fq]
  | 1, _ => constructor <;> simp [go_sem, Fq]
  | 2, _ => constructor <;> simp [go_sem, Fq]
  | 3, _ => constructor <;> simp [go_sem, Fq]
theorem Fq_own {w : World} {base : Nat} {ao : Option Addr} {c : Nat} (h : w.ownsRow base 41 2 (.slice ao 4 c) 4 (fcs (fts 3000 1000000 Zq 4))) : Fates w ao 4 c Fq := by
  refine Fates.own h fun i hi => ?_
  rw [Zq_fts]
  match i, hi with
  | 0, _ => rfl
  | 1, _ => rfl
  | 2, _ => rfl
  | 3, _ => rfl
theorem ex_row (w : World) (ao : Option Addr) (hz : Lds w ao 4 4 Zq) :
    Calls Try.prog 16 #[.int .i64 3000, .int .i64 1000000, .slice ao 4 4] w fun e w' => (∃ ao' c', e = .returned (.tuple #[.slice ao' 4 c', .agg #[.int .i64 1000, .int .i64 3000000000]]) ∧ Fates w' ao' 4 c' Fq) ∧ Below w.heap.size w w' := by
  refine (row_some 3000 1000000 ao 4 4 Zq (by decide) (by omega) w hz).mono ?_
  rintro e w' ⟨⟨ao', c', rfl, own⟩, hb⟩
  rw [Zq_qa, Zq_qw]
  exact ⟨⟨ao', c', rfl, Fq_own own⟩, hb⟩
theorem ex_drain (w : World) :
    Calls Try.prog 8 #[.int .i64 3000, .agg #[.int .i64 1000, .int .i64 3000000000], .int .i64 1, .int .i64 1001] w fun e w' => e = .returned (.tuple #[.agg #[.int .i64 1001, .int .i64 2999999999], .int .i64 0]) ∧ Below w.heap.size w w' := by
  have h := drain_any 3000 1000 3000000000 1 1001 w
  rw [show drA 3000 1000 3000000000 1 1001 = 1001 by decide +kernel, show drW 3000 1000 3000000000 1 1001 = 2999999999 by decide +kernel, show drE 3000 1000 3000000000 1 1001 = 0 by decide +kernel] at h
  exact h
theorem ex_arrive (w : World) :
    Calls Try.prog 10 #[.int .i64 3000, .agg #[.int .i64 1000, .int .i64 3000000000], .int .i64 1, .agg #[.int .i64 1000, .int .i64 1]] w fun e w' => e = .returned (.tuple #[.int .i64 0, .agg #[.int .i64 0, .int .i64 0], .int .i64 2]) ∧ Below w.heap.size w w' := by
  have h := arrive_any 3000 1000 3000000000 1 1000 1 w
  rw [show arL 3000 1000 3000000000 1 1000 1 = 0 by decide +kernel, show arA 3000 1000 3000000000 1 1000 1 = 0 by decide +kernel, show arW 3000 1000 3000000000 1 1000 1 = 0 by decide +kernel, show arE 3000 1000 3000000000 1 1000 1 = 2 by decide +kernel] at h
  exact h
set_option maxHeartbeats 4000000 in
set_option maxRecDepth 100000 in
theorem queued_any (w : World) : Calls Try.prog 15 #[] w fun e w' => e = .returned (.bool true) ∧ Below w.heap.size w w' := by
  go_enter Try.func15, Try.ntmps15
  go_wp2_with fail
  refine (ex_row _ _ (Zq_lds w)).mono ?_
  rintro e w1 ⟨⟨ao, c, rfl, F⟩, hw1⟩
  have hb : Below w.heap.size w w1 := Below.call (by go_grown) (by simp) hw1
  clear hw1
  have hs := hb.size
  go_wp2_with fail
  refine (ex_drain _).mono ?_
  rintro e w2 ⟨rfl, hw2⟩
  have A := At2.after_fresh' hw2
  replace F := (F.below ((Below.refl _ _).alloc (Nat.le_refl _) _)).below hw2
  replace hb : Below w.heap.size w w2 := Below.call (show Below w.heap.size w _ by go_grown) (by simp; omega) hw2
  clear hw2
  have hs := hb.size
  obtain ⟨x0, x1, x2, x3, x4⟩ := id A
  go_wp2_with fail
  refine (ex_arrive _).mono ?_
  rintro e w3 ⟨rfl, hw3⟩
  have D := At2.after_fresh' hw3
  replace A := (A.alloc _).below hw3 (by simp; omega)
  replace F := (F.below ((Below.refl _ _).alloc (Nat.le_refl _) _)).below hw3
  replace hb : Below w.heap.size w w3 := Below.call (show Below w.heap.size w _ by go_grown) (by simp; omega) hw3
  clear hw3 x0 x1 x2 x3 x4
  have hs := hb.size
  obtain ⟨x0, x1, x2, x3, x4⟩ := id A
  obtain ⟨d0, d1, d2, d3, d4⟩ := id D
  go_wp2_with fail
  refine (same_any _ _ _ _ _ Fq _ ?_ (Fq_lit _ _ (by simp))).mono ?_
  · exact F.below (by go_grown)
  rintro e w4 ⟨rfl, hw4⟩
  replace A := ((A.alloc _).alloc _).below hw4 (by simp; omega)
  replace D := ((D.alloc _).alloc _).below hw4 (by simp; omega)
  replace hb : Below w.heap.size w w4 := Below.call (show Below w.heap.size w _ by go_grown) (by simp; omega) hw4
  clear hw4 x0 x1 x2 x3 x4 d0 d1 d2 d3 d4
  have hs := hb.size
  obtain ⟨x0, x1, x2, x3, x4⟩ := id A
  obtain ⟨d0, d1, d2, d3, d4⟩ := id D
  go_wp2_with fail
  refine (isq_any 3000 1000 3000000000 true (by decide +kernel) _).mono ?_
  rintro e w5 ⟨rfl, hw5⟩
  replace hb : Below w.heap.size w w5 := Below.call hb hb.size hw5
  go_wp2
  go_ret
  exact ⟨rfl, hb⟩
end Go.Proofs.Ytiikdbadbocjcaa
