/-
  The program's sums, differences and comparison are those of the numbers. No conditions but the numbers' own ranges.
-/
import Derived.Test.YtahlphbgnhklaaaB
import Derived.Deep.RegionHeld3
import Derived.Deep.DeepCutAuto
namespace Go.Proofs.Ytahlphbgnhklaaa
open Go.RowKit
set_option linter.unusedVariables false

theorem add_lo (a b : Int) : (low a + low b) % 18446744073709551616 = low (addv a b) := by unfold low addv; omega
theorem add_hi {a b : Int} (ha : W128 a) (hb : W128 b) : (hiw a + hiw b + (low a + low b) / 18446744073709551616) % 18446744073709551616 = hiw (addv a b) := by
  obtain ⟨_, _⟩ := ha; obtain ⟨_, _⟩ := hb; unfold hiw low addv; omega
theorem add_c {a b : Int} (ha : W128 a) (hb : W128 b) : (hiw a + hiw b + (low a + low b) / 18446744073709551616) / 18446744073709551616 = addc a b := by
  obtain ⟨_, _⟩ := ha; obtain ⟨_, _⟩ := hb; unfold hiw low addc; omega
theorem sub_lo (a b : Int) : (low a - low b) % 18446744073709551616 = low (subv a b) := by unfold low subv; omega
theorem sub_hi {a b : Int} (ha : W128 a) (hb : W128 b) : (hiw a - hiw b - bor (low a) (low b) 0) % 18446744073709551616 = hiw (subv a b) := by
  obtain ⟨_, _⟩ := ha; obtain ⟨_, _⟩ := hb; unfold hiw low subv bor; split <;> omega
theorem sub_c {a b : Int} (ha : W128 a) (hb : W128 b) : bor (hiw a) (hiw b) (bor (low a) (low b) 0) = subc a b := by
  obtain ⟨_, _⟩ := ha; obtain ⟨_, _⟩ := hb
  unfold bor subc hiw low
  by_cases h : a % 18446744073709551616 < b % 18446744073709551616 + 0
  · rw [if_pos h]; split <;> split <;> omega
  · rw [if_neg h]; split <;> split <;> omega

set_option maxHeartbeats 2000000 in
set_option maxRecDepth 100000 in
theorem add_any (a b : Int) (ha : W128 a) (hb : W128 b) (w : World) :
    Calls Try.prog 19 #[.agg #[.int .u64 (hiw a), .int .u64 (low a)], .agg #[.int .u64 (hiw b), .int .u64 (low b)]] w fun e w' => e = .returned (.tuple #[.agg #[.int .u64 (hiw (addv a b)), .int .u64 (low (addv a b))], .int .u64 (addc a b)]) ∧ Below w.heap.size w w' := by
  obtain ⟨a0, a1⟩ := hiw_bd ha
  obtain ⟨a2, a3⟩ := low_bd a
  obtain ⟨b0, b1⟩ := hiw_bd hb
  obtain ⟨b2, b3⟩ := low_bd b
  go_enter Try.func19, Try.ntmps19
  go_wp2
  go_cut [6, 7] (fun v6 v7 wc => ∃ b6 b7 : Nat, v6 = .pointer (some ⟨b6, 0, none⟩) ∧ v7 = .pointer (some ⟨b7, 0, none⟩) ∧ b6 ≠ b7 ∧ b6 ≠ (w.heap.size + 1 + 1) ∧ w.heap.size ≤ b6 ∧
    At2 wc b6 (.int .u64 (low a)) (.int .u64 (hiw a)) ∧ At2 wc b7 (.int .u64 (low b)) (.int .u64 (hiw b)) ∧ At2 wc (w.heap.size + 1 + 1) (.int .u64 0) (.int .u64 0) ∧ Below w.heap.size w wc)
  case first =>
    go_region_held3 (fun w' => w'.cell? ⟨w.heap.size, 0, none⟩ = some (.int .u64 (hiw a)) ∧ w'.cell? ⟨w.heap.size, 1, none⟩ = some (.int .u64 (low a)) ∧ w'.cell? ⟨(w.heap.size + 1), 0, none⟩ = some (.int .u64 (hiw b)) ∧ w'.cell? ⟨(w.heap.size + 1), 1, none⟩ = some (.int .u64 (low b)))
      (simp [*, go_sem])
      (first
        | (go_at_call 38; refine (halves_any _ _ _).mono ?_; rintro e w' ⟨rfl, o1, o2, rfl⟩))
    all_goals
      go_wp2_with fail
      go_meet
      case rel =>
        refine ⟨_, _, rfl, rfl, ?_, ?_, ?_, ?_, ?_, ?_, ?_⟩
        case refine_7 => go_grown
        all_goals first | omega | (constructor <;> simp [go_sem])
  case rest =>
    obtain ⟨b6, b7, rfl, rfl, n67, n62, n6, S, O, R, hbel⟩ := hcut
    obtain ⟨x0, x1, x2, x3, x4⟩ := id S
    obtain ⟨y0, y1, y2, y3, y4⟩ := id O
    obtain ⟨z0, z1, z2, z3, z4⟩ := id R
    have s0 : w.heap.size < wc.heap.size := by omega
    have s1 : (w.heap.size + 1) < wc.heap.size := by omega
    have k0 : 0 ≤ (low a + low b) / 18446744073709551616 := by omega
    have k1 : (low a + low b) / 18446744073709551616 ≤ 1 := by omega
    have E1 := fun w => add64_call (low a) (low b) 0 a2 b2 (by omega) (by omega) w
    simp only [Int.add_zero] at E1
    have E2 := fun w => add64_call (hiw a) (hiw b) ((low a + low b) / 18446744073709551616) a0 b0 k0 k1 w
    have i0 : ∀ w, (Instr.index 60 (.agg #[.int .u64 (low b), .int .u64 (hiw b)]) (.int .i64 0)).run Try.prog w = .ok (.int .u64 (low b)) w := fun _ => by kernel_rfl
    have i1 : ∀ w, (Instr.index 60 (.agg #[.int .u64 (low b), .int .u64 (hiw b)]) (.int .i64 1)).run Try.prog w = .ok (.int .u64 (hiw b)) w := fun _ => by kernel_rfl
    go_wp2
    refine wp_loop_rounds 3 ?_
    rw [rounds_succ]
    have p0 := (S.put0 (.int .u64 ((low a + low b) % 18446744073709551616))).c0
    have p1 := (S.put (.int .u64 ((low a + low b) % 18446744073709551616)) (.int .u64 ((hiw a + hiw b + (low a + low b) / 18446744073709551616) % 18446744073709551616))).c1
    go_wp2
    rw [rounds_succ]
    go_wp2
    rw [rounds_succ]
    go_wp2
    have R1 := R.others n62 (.int .u64 ((low a + low b) % 18446744073709551616)) (.int .u64 ((hiw a + hiw b + (low a + low b) / 18446744073709551616) % 18446744073709551616))
    have r0 := (R1.put0 (.int .u64 ((hiw a + hiw b + (low a + low b) / 18446744073709551616) % 18446744073709551616))).c0
    have r1 := (R1.put (.int .u64 ((hiw a + hiw b + (low a + low b) / 18446744073709551616) % 18446744073709551616)) (.int .u64 ((low a + low b) % 18446744073709551616))).c1
    exact bodyPost_ret (v := .tuple #[.agg #[.int .u64 ((hiw a + hiw b + (low a + low b) / 18446744073709551616) % 18446744073709551616), .int .u64 ((low a + low b) % 18446744073709551616)], .int .u64 ((hiw a + hiw b + (low a + low b) / 18446744073709551616) / 18446744073709551616)]) (by simp [results, Try.results19, go_sem, r0, r1, s1, z4]) rfl ⟨by rw [add_lo, add_hi ha hb, add_c ha hb], by go_grown⟩
set_option maxHeartbeats 2000000 in
set_option maxRecDepth 100000 in
theorem sub_any (a b : Int) (ha : W128 a) (hb : W128 b) (w : World) :
    Calls Try.prog 42 #[.agg #[.int .u64 (hiw a), .int .u64 (low a)], .agg #[.int .u64 (hiw b), .int .u64 (low b)]] w fun e w' => e = .returned (.tuple #[.agg #[.int .u64 (hiw (subv a b)), .int .u64 (low (subv a b))], .int .u64 (subc a b)]) ∧ Below w.heap.size w w' := by
  obtain ⟨a0, a1⟩ := hiw_bd ha
  obtain ⟨a2, a3⟩ := low_bd a
  obtain ⟨b0, b1⟩ := hiw_bd hb
  obtain ⟨b2, b3⟩ := low_bd b
  go_enter Try.func42, Try.ntmps42
  go_wp2
  go_cut [6, 7] (fun v6 v7 wc => ∃ b6 b7 : Nat, v6 = .pointer (some ⟨b6, 0, none⟩) ∧ v7 = .pointer (some ⟨b7, 0, none⟩) ∧ b6 ≠ b7 ∧ b6 ≠ (w.heap.size + 1 + 1) ∧ w.heap.size ≤ b6 ∧
    At2 wc b6 (.int .u64 (low a)) (.int .u64 (hiw a)) ∧ At2 wc b7 (.int .u64 (low b)) (.int .u64 (hiw b)) ∧ At2 wc (w.heap.size + 1 + 1) (.int .u64 0) (.int .u64 0) ∧ Below w.heap.size w wc)
  case first =>
    go_region_held3 (fun w' => w'.cell? ⟨w.heap.size, 0, none⟩ = some (.int .u64 (hiw a)) ∧ w'.cell? ⟨w.heap.size, 1, none⟩ = some (.int .u64 (low a)) ∧ w'.cell? ⟨(w.heap.size + 1), 0, none⟩ = some (.int .u64 (hiw b)) ∧ w'.cell? ⟨(w.heap.size + 1), 1, none⟩ = some (.int .u64 (low b)))
      (simp [*, go_sem])
      (first
        | (go_at_call 38; refine (halves_any _ _ _).mono ?_; rintro e w' ⟨rfl, o1, o2, rfl⟩))
    all_goals
      go_wp2_with fail
      go_meet
      case rel =>
        refine ⟨_, _, rfl, rfl, ?_, ?_, ?_, ?_, ?_, ?_, ?_⟩
        case refine_7 => go_grown
        all_goals first | omega | (constructor <;> simp [go_sem])
  case rest =>
    obtain ⟨b6, b7, rfl, rfl, n67, n62, n6, S, O, R, hbel⟩ := hcut
    obtain ⟨x0, x1, x2, x3, x4⟩ := id S
    obtain ⟨y0, y1, y2, y3, y4⟩ := id O
    obtain ⟨z0, z1, z2, z3, z4⟩ := id R
    have s0 : w.heap.size < wc.heap.size := by omega
    have s1 : (w.heap.size + 1) < wc.heap.size := by omega
    obtain ⟨k0, k1⟩ := bor_01 (low a) (low b) 0
    have E1 := fun w => sub64_call (low a) (low b) 0 a2 a3 b2 b3 (by omega) (by omega) w
    simp only [Int.sub_zero] at E1
    have E2 := fun w => sub64_call (hiw a) (hiw b) (bor (low a) (low b) 0) a0 a1 b0 b1 k0 k1 w
    have i0 : ∀ w, (Instr.index 60 (.agg #[.int .u64 (low b), .int .u64 (hiw b)]) (.int .i64 0)).run Try.prog w = .ok (.int .u64 (low b)) w := fun _ => by kernel_rfl
    have i1 : ∀ w, (Instr.index 60 (.agg #[.int .u64 (low b), .int .u64 (hiw b)]) (.int .i64 1)).run Try.prog w = .ok (.int .u64 (hiw b)) w := fun _ => by kernel_rfl
    go_wp2
    refine wp_loop_rounds 3 ?_
    rw [rounds_succ]
    have p0 := (S.put0 (.int .u64 ((low a - low b) % 18446744073709551616))).c0
    have p1 := (S.put (.int .u64 ((low a - low b) % 18446744073709551616)) (.int .u64 ((hiw a - hiw b - bor (low a) (low b) 0) % 18446744073709551616))).c1
    go_wp2
    rw [rounds_succ]
    go_wp2
    rw [rounds_succ]
    go_wp2
    have R1 := R.others n62 (.int .u64 ((low a - low b) % 18446744073709551616)) (.int .u64 ((hiw a - hiw b - bor (low a) (low b) 0) % 18446744073709551616))
    have r0 := (R1.put0 (.int .u64 ((hiw a - hiw b - bor (low a) (low b) 0) % 18446744073709551616))).c0
    have r1 := (R1.put (.int .u64 ((hiw a - hiw b - bor (low a) (low b) 0) % 18446744073709551616)) (.int .u64 ((low a - low b) % 18446744073709551616))).c1
    exact bodyPost_ret (v := .tuple #[.agg #[.int .u64 ((hiw a - hiw b - bor (low a) (low b) 0) % 18446744073709551616), .int .u64 ((low a - low b) % 18446744073709551616)], .int .u64 (bor (hiw a) (hiw b) (bor (low a) (low b) 0))]) (by simp [results, Try.results42, go_sem, r0, r1, s1, z4]) rfl ⟨by rw [sub_lo, sub_hi ha hb, sub_c ha hb], by go_grown⟩
end Go.Proofs.Ytahlphbgnhklaaa
