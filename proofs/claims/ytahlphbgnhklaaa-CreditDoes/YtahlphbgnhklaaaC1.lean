/-
  The reference's sums, differences and comparison, bit by bit, are those of the numbers. No conditions but the numbers' own ranges.
-/
import Derived.Test.YtahlphbgnhklaaaB2
import Derived.Deep.RegionWith
namespace Go.Proofs.Ytahlphbgnhklaaa
open Go.RowKit
set_option linter.unusedVariables false

attribute [local go_sem] Later.cell Later.frozen

set_option maxHeartbeats 400000 in
set_option maxRecDepth 100000 in
theorem refAdd_any (a b : Int) (ha : W128 a) (hb : W128 b) (w : World) :
    Calls Try.prog 34 #[.agg #[.int .u64 (hiw a), .int .u64 (low a)], .agg #[.int .u64 (hiw b), .int .u64 (low b)]] w fun e w' => e = .returned (.tuple #[.agg #[.int .u64 (hiw (addv a b)), .int .u64 (low (addv a b))], .int .u64 (addc a b)]) ∧ Below w.heap.size w w' := by
  go_enter Try.func34, Try.ntmps34
  go_wp2
  go_loopw [7, 8] (fun c i wr => ∃ k : Nat, ∃ o cv : Int, k ≤ 128 ∧ i = .int .i64 k ∧ c = .int .u64 cv ∧ 0 ≤ cv ∧ cv ≤ 1 ∧ Hid (AddAt a b k o cv) ∧
      At2 wr w.heap.size (.int .u64 (hiw a)) (.int .u64 (low a)) ∧ At2 wr (w.heap.size + 1) (.int .u64 (hiw b)) (.int .u64 (low b)) ∧ At2 wr (w.heap.size + 1 + 1) (.int .u64 0) (.int .u64 0) ∧
      At2 wr (w.heap.size + 1 + 1 + 1) (.int .u64 (hiw o)) (.int .u64 (low o)) ∧ Below w.heap.size w wr)
    (fun _ i _ => 128 - (intOf i).toNat)
  case atStart =>
    refine ⟨0, 0, 0, by omega, rfl, rfl, by omega, by omega, AddAt.zero a b, ?_, ?_, ?_, ?_, by go_grown⟩ <;> (constructor <;> simp [go_sem, hiw, low])
  case round =>
    obtain ⟨k, o, cv, hk, rfl, rfl, c0, c1, HA, A0, A1, A2, A3, hbel⟩ := hrel
    obtain ⟨x0, x1, x2, x3, x4⟩ := id A0
    obtain ⟨y0, y1, y2, y3, y4⟩ := id A1
    obtain ⟨z0, z1, z2, z3, z4⟩ := id A2
    obtain ⟨u0, u1, u2, u3, u4⟩ := id A3
    obtain ⟨ba0, ba1⟩ := bitv_01 a k
    obtain ⟨bb0, bb1⟩ := bitv_01 b k
    have hne : Nonempty (Later wr) := Later.ne wr
    by_cases hlt : k < 128
    · go_wp2
      refine wp_region_later (by kernel_rfl) (by kernel_rfl) ?_
      repeat (go_big_quiet_step (first | (go_at_call_of 44 (hiw a); refine Later.call _ (bit_any a _ ha ?_ ?_ _) <;> omega) | (go_at_call_of 44 (hiw b); refine Later.call _ (bit_any b _ hb ?_ ?_ _) <;> omega)))
      refine wpQuiet_nil ?_
      rintro w1 ⟨⟨_, hw1⟩, rfl⟩
      have B0 := A0.below hw1 A0.lt
      have B1 := A1.below hw1 A1.lt
      have B2 := A2.below hw1 A2.lt
      have B3 := A3.below hw1 A3.lt
      have hbel1 := hbel.trans (hw1.mono hbel.size)
      clear x0 x1 x2 x3 x4 y0 y1 y2 y3 y4 z0 z1 z2 z3 z4 u0 u1 u2 u3 u4 A0 A1 A2 A3 hne
      obtain ⟨u0, u1, u2, u3, u4⟩ := id B3
      by_cases hn : (bitv a k + bitv b k + cv) % 2 = 1
      · have HA1 : Hid (AddAt a b ((k : Int) + 1) (o + p2 k) ((bitv a k + bitv b k + cv) / 2)) := (HA.out.step (by omega)).1 hn
        have hW : W128 o := by
          have := HA.out.o0; have := HA.out.o1; have := p2_le (show (0 : Int) ≤ k by omega) (show (k : Int) ≤ 128 by omega); rw [p2_128] at this; exact ⟨by omega, by omega⟩
        have hz : Hid (bitv o k = 0) := bit_below HA.out.o0 HA.out.o1
        go_wp2_with fail
        refine (set_any o k hW (by omega) (by omega) hz.out _).mono ?_
        rintro e w2 ⟨rfl, hw2⟩
        replace B0 := B0.below hw2 B0.lt
        replace B1 := B1.below hw2 B1.lt
        replace B2 := B2.below hw2 B2.lt
        replace B3 := B3.below hw2 B3.lt
        have hbel2 := hbel1.trans (hw2.mono hbel1.size)
        clear u0 u1 u2 u3 u4 hbel hbel1 hw1 hw2
        obtain ⟨u0, u1, u2, u3, u4⟩ := id B3
        go_wp2
        go_roundw
        case rel =>
          refine ⟨k + 1, o + p2 k, _, by omega, by go_num, rfl, by omega, by omega, HA1, B0.others (by omega) _ _, B1.others (by omega) _ _, B2.others (by omega) _ _, B3.put _ _, by go_grown⟩
        case measure => simp [intOf]; omega
      · go_wp2_with fail
        go_roundw
        case rel =>
          exact ⟨k + 1, o, _, by omega, by go_num, rfl, by omega, by omega, (HA.out.step (by omega)).2 hn, B0, B1, B2, B3, hbel1⟩
        case measure => simp [intOf]; omega
    · go_wp2
      obtain ⟨rfl, rfl⟩ := AddAt.done ha hb (by have e : (k : Int) = 128 := by omega
                                                rw [← e]; exact HA.out)
      have r0 := (A2.put0 (.int .u64 (hiw (addv a b)))).c0
      have r1 := (A2.put (.int .u64 (hiw (addv a b))) (.int .u64 (low (addv a b)))).c1
      exact bodyPost_ret (v := .tuple #[.agg #[.int .u64 (hiw (addv a b)), .int .u64 (low (addv a b))], .int .u64 (addc a b)]) (by simp [results, Try.results34, go_sem, r0, r1]) rfl ⟨rfl, by go_grown⟩
end Go.Proofs.Ytahlphbgnhklaaa
