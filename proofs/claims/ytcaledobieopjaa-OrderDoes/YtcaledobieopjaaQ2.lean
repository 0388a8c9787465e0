/-
  The program's sources, kind by kind: a turn of 32 bits; the draw of a generator, of a tape, of a source that is dry. No conditions but the numbers' own ranges.
-/
import Derived.Test.YtcaledobieopjaaQ1
import Derived.Test.YtcaledobieopjaaProg
import Derived.Deep.DeepCutAuto
import Derived.Deep.RegionWith
namespace Go.Proofs.Ytcaledobieopjaa
open Go.RowKit
set_option linter.unusedVariables false
set_option maxHeartbeats 800000 in
set_option maxRecDepth 100000 in
theorem rot_any (x r : Int) (x0 : 0 ≤ x) (x1 : x ≤ 4294967295) (r0 : 0 ≤ r) (r1 : r ≤ 31) (w : World) :
    Calls Try.prog 48 #[.int .u32 x, .int .i64 (-r)] w fun e w' => e = .returned (.int .u32 (rotv x r.toNat)) ∧ w' = w := by
  obtain ⟨t, ht⟩ : ∃ t, t = (32 - r) % 32 := ⟨_, rfl⟩
  have hb := and31 r r0 r1
  rw [← ht] at hb
  have t0 : 0 ≤ t := by omega
  have t1 : t ≤ 31 := by omega
  have HT : Hid (t = (32 - r) % 32) := ht
  clear ht
  go_enter Try.func48, Try.ntmps48
  go_wp2
  rw [turn_val x0 x1 r0 r1 HT.out]
  go_ret
  exact ⟨rfl, rfl⟩
theorem rot_neg (x r : Int) (x0 : 0 ≤ x) (x1 : x ≤ 4294967295) (r0 : 0 ≤ r) (r1 : r ≤ 31) (w : World) :
    Calls Try.prog 48 #[.int .u32 x, .int .i64 (IntKind.i64.wrap (-r))] w fun e w' => e = .returned (.int .u32 (rotv x r.toNat)) ∧ w' = w := by
  have e : IntKind.i64.wrap (-r) = -r := by rw [IntKind.wrap_i64]; omega
  rw [e]; exact rot_any x r x0 x1 r0 r1 w
set_option maxHeartbeats 800000 in
set_option maxRecDepth 100000 in
theorem dry_any (k s i p : Int) (ao : Option Addr) (n c : Nat) (w : World) :
    Calls Try.prog 50 #[.agg #[.int .i64 k, .int .u64 s, .int .u64 i, .slice ao n c, .int .i64 p]] w fun e w' => e = .returned (.tuple #[.int .i64 0, .agg #[.int .i64 k, .int .u64 s, .int .u64 i, .slice ao n c, .int .i64 p]]) ∧ Below w.heap.size w w' := by
  go_enter Try.func50, Try.ntmps50
  go_wp2
  go_region
  all_goals go_wp2
  all_goals go_returns
  all_goals exact ⟨rfl, by go_grown⟩
set_option maxHeartbeats 800000 in
set_option maxRecDepth 100000 in
theorem gen_any (k s i p : Int) (ao : Option Addr) (n c : Nat) (h0 : 0 ≤ s) (h1 : s ≤ 18446744073709551615) (i0 : 0 ≤ i) (i1 : i ≤ 18446744073709551615) (w : World) :
    Calls Try.prog 47 #[.agg #[.int .i64 k, .int .u64 s, .int .u64 i, .slice ao n c, .int .i64 p]] w fun e w' => e = .returned (.tuple #[.int .i64 (pcgv s), .agg #[.int .i64 k, .int .u64 ((6364136223846793005 * s + i) % 18446744073709551616), .int .u64 i, .slice ao n c, .int .i64 p]]) ∧ Below w.heap.size w w' := by
  obtain ⟨X, hX⟩ : ∃ X, X = pcgx s := ⟨_, rfl⟩
  obtain ⟨R, hR⟩ : ∃ R, R = s / 576460752303423488 := ⟨_, rfl⟩
  obtain ⟨Y, hY⟩ : ∃ Y, Y = (6364136223846793005 * s + i) % 18446744073709551616 := ⟨_, rfl⟩
  obtain ⟨xb0, xb1⟩ := pcgx_bd s
  rw [← hX] at xb0 xb1
  have hr0 : 0 ≤ R := by omega
  have hr1 : R ≤ 31 := by omega
  have e1 : bits BinOp.xor IntKind.u64 (s / 262144) s / 134217728 % 4294967296 = X := hX.symm
  have e2 : s / 576460752303423488 = R := hR.symm
  have e3 : IntKind.u64.wrap (IntKind.u64.wrap (6364136223846793005 * s) + i) = Y := by rw [IntKind.wrap_u64, IntKind.wrap_u64]; omega
  have hv : pcgv s = rotv X R.toNat := by rw [hX, hR]; rfl
  have hv0 := rot_bd xb0 xb1 (show R.toNat ≤ 32 by omega)
  obtain ⟨v0, v1⟩ := hv0
  have e4 : Hid (IntKind.i64.wrap (rotv X R.toNat) = rotv X R.toNat) := by show _ = _; rw [IntKind.wrap_i64]; omega
  rw [← hY, hv]
  clear hX hR hY hv
  go_enter Try.func47, Try.ntmps47
  go_wp2
  go_region_with (go_at_call 48; refine (rot_neg _ _ xb0 xb1 hr0 hr1 _).mono ?_; rintro e w' ⟨rfl, rfl⟩)
  all_goals go_wp2
  all_goals go_returns
  all_goals exact ⟨by first | rfl | rw [e4.out], by go_grown⟩
set_option maxHeartbeats 800000 in
set_option maxRecDepth 100000 in
theorem tape_in (k s i p : Int) (ao : Option Addr) (n c : Nat) (zs : List Int) (w : World) (hz : Row .u64 w ao n c zs) (p0 : 0 ≤ p) (p1 : p < n) :
    Calls Try.prog 49 #[.agg #[.int .i64 k, .int .u64 s, .int .u64 i, .slice ao n c, .int .i64 p]] w fun e w' => e = .returned (.tuple #[.int .i64 (zs.getD p.toNat 0 % 4294967296), .agg #[.int .i64 k, .int .u64 s, .int .u64 i, .slice ao n c, .int .i64 (p + 1)]]) ∧ Below w.heap.size w w' := by
  obtain ⟨b, o, rfl, hc⟩ := hz.at' (by omega)
  obtain ⟨q, rfl⟩ := Int.eq_ofNat_of_zero_le p0
  have hq : q < n := by omega
  have hcell := hc q hq
  have hlt := World.block_lt_of_cell? _ _ hcell
  have hn : (n : Int) ≤ 9223372036854775807 := by have := hz.cap; have := hz.max; unfold maxLen at this; omega
  have hu := hz.u64 q
  rw [Int.toNat_natCast]
  generalize zs.getD q 0 = z at *
  obtain ⟨u0, u1⟩ := hu
  have e4 : Hid (IntKind.i64.wrap (z % 4294967296) = z % 4294967296) := by show _ = _; rw [IntKind.wrap_i64]; omega
  clear hc hz
  go_enter Try.func49, Try.ntmps49
  go_wp2
  go_region
  all_goals go_wp2
  all_goals go_returns
  all_goals exact ⟨by first | rfl | rw [e4.out], by go_grown⟩
set_option maxHeartbeats 800000 in
set_option maxRecDepth 100000 in
theorem tape_out (k s i p : Int) (ao : Option Addr) (n c : Nat) (w : World) (hp : p < 0 ∨ (n : Int) ≤ p) :
    Calls Try.prog 49 #[.agg #[.int .i64 k, .int .u64 s, .int .u64 i, .slice ao n c, .int .i64 p]] w fun e w' => e = .returned (.tuple #[.int .i64 0, .agg #[.int .i64 k, .int .u64 s, .int .u64 i, .slice ao n c, .int .i64 p]]) ∧ Below w.heap.size w w' := by
  rcases Int.lt_or_le p 0 with h | h
  all_goals
    have h' : p < 0 ∨ (n : Int) ≤ p := hp
    clear hp
    try (have h2 : (n : Int) ≤ p := by omega)
    clear h'
    go_enter Try.func49, Try.ntmps49
    go_wp2_with fail
    refine (dry_any _ _ _ _ _ _ _ _).mono ?_
    rintro e w1 ⟨rfl, hw1⟩
    have Z : At5 w1 (w.heap.size + 1) (.int .i64 0) (.int .u64 0) (.int .u64 0) (.slice none 0 0) (.int .i64 0) := At5.of hw1 (by constructor <;> simp [go_sem])
    obtain ⟨z0, z1, z2, z3, z4, y0, y1, y2, y3, y4, zl⟩ := id Z
    obtain ⟨r0, r1, r2, r3, r4⟩ := Z.outs (.int .i64 k) (.int .u64 s) (.int .u64 i) (.slice ao n c) (.int .i64 p)
    go_wp2
    exact bodyPost_ret (v := .tuple #[.int .i64 0, .agg #[.int .i64 k, .int .u64 s, .int .u64 i, .slice ao n c, .int .i64 p]]) (by simp [results, Try.results49, go_sem, r0, r1, r2, r3, r4]) rfl ⟨rfl, by have hb : Below w.heap.size w w1 := Below.call (by go_grown) (by simp; omega) hw1; have := hw1.size; go_grown⟩
end Go.Proofs.Ytcaledobieopjaa
