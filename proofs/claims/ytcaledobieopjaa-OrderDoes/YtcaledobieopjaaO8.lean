/-
  Four trials and a pair of a source, by the program and by the document. No conditions but the numbers' own ranges.
-/
import Derived.Test.YtcaledobieopjaaO5
import Derived.Test.YtcaledobieopjaaQ6
import Derived.Test.YtcaledobieopjaaQ7
namespace Go.Proofs.Ytcaledobieopjaa
open Go.RowKit
set_option linter.unusedVariables false
set_option maxHeartbeats 4000000 in
set_option maxRecDepth 100000 in
theorem trials_any (k s i p : Int) (ao : Option Addr) (n c : Nat) (zs : List Int) (h0 : 0 ≤ s) (h1 : s ≤ 18446744073709551615) (i0 : 0 ≤ i) (i1 : i ≤ 18446744073709551615) (w : World) (hz : Row .u64 w ao n c zs) :
    Calls Try.prog 12 #[.agg #[.int .i64 k, .int .u64 s, .int .u64 i, .slice ao n c, .int .i64 p]] w fun e w' => e = .returned (.tuple #[.agg #[.bool (up0 (drawv k s p zs % 6)), .bool (up1 (drawv k s p zs % 6)), .bool (up2 (drawv k s p zs % 6)), .bool (up3 (drawv k s p zs % 6))], .agg #[.int .i64 k, .int .u64 (statev k s i), .int .u64 i, .slice ao n c, .int .i64 (atv k p zs)]]) ∧ Below w.heap.size w w' := by
  have C := fun w hz => below_yes k s i p 6 ao n c zs h0 h1 i0 i1 (by omega) (by omega) w hz
  have q0 : 0 ≤ drawv k s p zs % 6 := Int.emod_nonneg _ (by omega)
  have q1 : drawv k s p zs % 6 ≤ 5 := by have := Int.emod_lt_of_pos (drawv k s p zs) (show (0:Int) < 6 by omega); omega
  have D := fun w => four_in (drawv k s p zs % 6) q0 q1 w
  generalize drawv k s p zs % 6 = x at *
  generalize statev k s i = s' at *
  generalize atv k p zs = p' at *
  generalize up0 x = b0 at *
  generalize up1 x = b1 at *
  generalize up2 x = b2 at *
  generalize up3 x = b3 at *
  go_enter Try.func12, Try.ntmps12
  go_wp2_with fail
  refine (C _ (hz.below (by go_grown))).mono ?_
  rintro e w1 ⟨rfl, hw1⟩
  have g1 : Below w.heap.size w w1 := Below.call (by go_grown) (by simp; omega) hw1
  have S : At5 w1 w.heap.size (.int .i64 (k)) (.int .u64 (s)) (.int .u64 (i)) (.slice (ao) n c) (.int .i64 (p)) := At5.of hw1 (by constructor <;> simp [go_sem])
  have T : At4 w1 (w.heap.size + 1) (.bool false) (.bool false) (.bool false) (.bool false) := At4.of hw1 (by constructor <;> simp [go_sem])
  have Z : At5 w1 (w.heap.size + 1 + 1) (.int .i64 0) (.int .u64 0) (.int .u64 0) (.slice none 0 0) (.int .i64 0) := At5.of hw1 (by constructor <;> simp [go_sem])
  clear hw1 hz C
  obtain ⟨s0, s1, s2, s3, s4, sa, sb, sc, sd, se, sl⟩ := id S
  obtain ⟨z0, z1, z2, z3, z4, za, zb, zc, zd, ze, zl⟩ := id Z
  obtain ⟨t0, t1, t2, t3, ta, tb, tc, td, tl⟩ := id T
  go_wp2_with fail
  have S' := S.put (.int .i64 k) (.int .u64 s') (.int .u64 i) (.slice ao n c) (.int .i64 p')
  have T' := T.other5 (c := w.heap.size) (by omega) (.int .i64 k) (.int .u64 s') (.int .u64 i) (.slice ao n c) (.int .i64 p')
  have Z' := Z.others (c := w.heap.size) (by omega) (.int .i64 k) (.int .u64 s') (.int .u64 i) (.slice ao n c) (.int .i64 p')
  have gW : Below w.heap.size w (((((w1.setCell ⟨w.heap.size, 0, none⟩ (.int .i64 k)).setCell ⟨w.heap.size, 1, none⟩ (.int .u64 s')).setCell ⟨w.heap.size, 2, none⟩ (.int .u64 i)).setCell ⟨w.heap.size, 3, none⟩ (.slice ao n c)).setCell ⟨w.heap.size, 4, none⟩ (.int .i64 p')) := by go_grown
  refine (D _).mono ?_
  rintro e w2 ⟨rfl, hw2⟩
  have g2 := Below.call gW gW.size hw2
  have S2 := At5.of hw2 S'
  have T2 := At4.of hw2 T'
  have Z2 := At5.of hw2 Z'
  have hs : w1.heap.size ≠ w.heap.size + 1 ∧ w1.heap.size ≠ w.heap.size + 1 + 1 := by omega
  clear hw2 gW S' T' Z' S T Z s0 s1 s2 s3 s4 sa sb sc sd se sl z0 z1 z2 z3 z4 za zb zc zd ze zl t0 t1 t2 t3 ta tb tc td D
  obtain ⟨s0, s1, s2, s3, s4, sa, sb, sc, sd, se, sl⟩ := id S2
  obtain ⟨z0, z1, z2, z3, z4, za, zb, zc, zd, ze, zl⟩ := id Z2
  obtain ⟨t0, t1, t2, t3, ta, tb, tc, td, tl'⟩ := id T2
  go_wp2_with fail
  refine wp_forget (fun W => At5 W w.heap.size (.int .i64 k) (.int .u64 s') (.int .u64 i) (.slice ao n c) (.int .i64 p') ∧ At4 W (w.heap.size + 1) (.bool false) (.bool false) (.bool false) (.bool false) ∧ At5 W (w.heap.size + 1 + 1) (.int .i64 0) (.int .u64 0) (.int .u64 0) (.slice none 0 0) (.int .i64 0) ∧ At4 W w2.heap.size (.bool b0) (.bool b1) (.bool b2) (.bool b3) ∧ Below w.heap.size w W ∧ w2.heap.size ≠ (w.heap.size + 1) ∧ w2.heap.size ≠ (w.heap.size + 1 + 1)) ⟨S2.alloc _, T2.alloc _, Z2.alloc _, At4.fresh _ _ _ _ _ _, by have := g2.size; go_grown, by omega, by omega⟩ ?_
  clear S2 T2 Z2 s0 s1 s2 s3 s4 sa sb sc sd se sl z0 z1 z2 z3 z4 za zb zc zd ze zl t0 t1 t2 t3 ta tb tc td tl' g2 tl g1
  generalize w2.heap.size = q
  rintro W ⟨S, T, Z, U, g, hq1, hq2⟩
  obtain ⟨s0, s1, s2, s3, s4, sa, sb, sc, sd, se, sl⟩ := id S
  obtain ⟨z0, z1, z2, z3, z4, za, zb, zc, zd, ze, zl⟩ := id Z
  obtain ⟨t0, t1, t2, t3, ta, tb, tc, td, tl⟩ := id T
  obtain ⟨u0, u1, u2, u3, ua, ub, uc, ud, ul⟩ := id U
  obtain ⟨ra0, ra1, ra2, ra3⟩ := (T).outs (.bool b0) (.bool b1) (.bool b2) (.bool b3)
  obtain ⟨rc0, rc1, rc2, rc3, rc4⟩ := (Z.other4 (c := (w.heap.size + 1)) (by omega) (.bool b0) (.bool b1) (.bool b2) (.bool b3)).outs (.int .i64 k) (.int .u64 s') (.int .u64 i) (.slice ao n c) (.int .i64 p')
  go_region
  all_goals go_wp2
  all_goals exact bodyPost_ret (v := .tuple #[.agg #[.bool b0, .bool b1, .bool b2, .bool b3], .agg #[.int .i64 k, .int .u64 s', .int .u64 i, .slice ao n c, .int .i64 p']]) (by simp [results, Try.results12, go_sem, ra0, ra1, ra2, ra3, rc0, rc1, rc2, rc3, rc4]) rfl ⟨rfl, by go_grown⟩
set_option maxHeartbeats 4000000 in
set_option maxRecDepth 100000 in
theorem pair_any (k s i p : Int) (ao : Option Addr) (n c : Nat) (zs : List Int) (h0 : 0 ≤ s) (h1 : s ≤ 18446744073709551615) (i0 : 0 ≤ i) (i1 : i ≤ 18446744073709551615) (w : World) (hz : Row .u64 w ao n c zs) :
    Calls Try.prog 14 #[.agg #[.int .i64 k, .int .u64 s, .int .u64 i, .slice ao n c, .int .i64 p]] w fun e w' => e = .returned (.tuple #[.agg #[.bool (decide (2147483648 ≤ drawv k s p zs)), .bool (!decide (2147483648 ≤ drawv k s p zs))], .agg #[.int .i64 k, .int .u64 (statev k s i), .int .u64 i, .slice ao n c, .int .i64 (atv k p zs)]]) ∧ Below w.heap.size w w' := by
  have C := fun w hz => flip_any k s i p ao n c zs h0 h1 i0 i1 w hz
  generalize decide (2147483648 ≤ drawv k s p zs) = b0 at *
  generalize statev k s i = s' at *
  generalize atv k p zs = p' at *
  go_enter Try.func14, Try.ntmps14
  go_wp2_with fail
  refine (C _ (hz.below (by go_grown))).mono ?_
  rintro e w1 ⟨rfl, hw1⟩
  have g1 : Below w.heap.size w w1 := Below.call (by go_grown) (by simp; omega) hw1
  have S : At5 w1 w.heap.size (.int .i64 (k)) (.int .u64 (s)) (.int .u64 (i)) (.slice (ao) n c) (.int .i64 (p)) := At5.of hw1 (by constructor <;> simp [go_sem])
  have T : At2 w1 (w.heap.size + 1) (.bool false) (.bool false) := At2.of hw1 (by constructor <;> simp [go_sem])
  have Z : At5 w1 (w.heap.size + 1 + 1) (.int .i64 0) (.int .u64 0) (.int .u64 0) (.slice none 0 0) (.int .i64 0) := At5.of hw1 (by constructor <;> simp [go_sem])
  clear hw1 hz C
  obtain ⟨s0, s1, s2, s3, s4, sa, sb, sc, sd, se, sl⟩ := id S
  obtain ⟨z0, z1, z2, z3, z4, za, zb, zc, zd, ze, zl⟩ := id Z
  obtain ⟨t0, t1, ta, tb, tl⟩ := id T
  go_wp2_with fail
  refine wp_forget (fun W => At5 W w.heap.size (.int .i64 k) (.int .u64 s') (.int .u64 i) (.slice ao n c) (.int .i64 p') ∧ At2 W (w.heap.size + 1) (.bool false) (.bool false) ∧ At5 W (w.heap.size + 1 + 1) (.int .i64 0) (.int .u64 0) (.int .u64 0) (.slice none 0 0) (.int .i64 0) ∧ Below w.heap.size w W) ⟨S.put _ _ _ _ _, T.other5 (by omega) _ _ _ _ _, Z.others (by omega) _ _ _ _ _, by go_grown⟩ ?_
  clear S T Z s0 s1 s2 s3 s4 sa sb sc sd se sl z0 z1 z2 z3 z4 za zb zc zd ze zl t0 t1 ta tb tl g1
  rintro W ⟨S, T, Z, g⟩
  obtain ⟨s0, s1, s2, s3, s4, sa, sb, sc, sd, se, sl⟩ := id S
  obtain ⟨z0, z1, z2, z3, z4, za, zb, zc, zd, ze, zl⟩ := id Z
  obtain ⟨t0, t1, ta, tb, tl⟩ := id T
  obtain ⟨ra0, ra1⟩ := (T).outs (.bool b0) (.bool (!b0))
  obtain ⟨rc0, rc1, rc2, rc3, rc4⟩ := (Z.other2 (c := (w.heap.size + 1)) (by omega) (.bool b0) (.bool (!b0))).outs (.int .i64 k) (.int .u64 s') (.int .u64 i) (.slice ao n c) (.int .i64 p')
  go_region
  all_goals go_wp2
  all_goals exact bodyPost_ret (v := .tuple #[.agg #[.bool b0, .bool (!b0)], .agg #[.int .i64 k, .int .u64 s', .int .u64 i, .slice ao n c, .int .i64 p']]) (by simp [results, Try.results14, go_sem, ra0, ra1, rc0, rc1, rc2, rc3, rc4]) rfl ⟨rfl, by go_grown⟩
set_option maxHeartbeats 4000000 in
set_option maxRecDepth 100000 in
theorem refTrials_any (k s i p : Int) (ao : Option Addr) (n c : Nat) (zs : List Int) (h0 : 0 ≤ s) (h1 : s ≤ 18446744073709551615) (i0 : 0 ≤ i) (i1 : i ≤ 18446744073709551615) (w : World) (hz : Row .u64 w ao n c zs) :
    Calls Try.prog 13 #[.agg #[.int .i64 k, .int .u64 s, .int .u64 i, .slice ao n c, .int .i64 p]] w fun e w' => e = .returned (.tuple #[.agg #[.bool (up0 (drawv k s p zs % 6)), .bool (up1 (drawv k s p zs % 6)), .bool (up2 (drawv k s p zs % 6)), .bool (up3 (drawv k s p zs % 6))], .agg #[.int .i64 k, .int .u64 (statev k s i), .int .u64 i, .slice ao n c, .int .i64 (atv k p zs)]]) ∧ Below w.heap.size w w' := by
  have C := fun w hz => refBelow_yes k s i p 6 ao n c zs h0 h1 i0 i1 (by omega) (by omega) w hz
  have q0 : 0 ≤ drawv k s p zs % 6 := Int.emod_nonneg _ (by omega)
  have q1 : drawv k s p zs % 6 ≤ 5 := by have := Int.emod_lt_of_pos (drawv k s p zs) (show (0:Int) < 6 by omega); omega
  have D := fun w => refFour_in (drawv k s p zs % 6) q0 q1 w
  generalize drawv k s p zs % 6 = x at *
  generalize statev k s i = s' at *
  generalize atv k p zs = p' at *
  generalize up0 x = b0 at *
  generalize up1 x = b1 at *
  generalize up2 x = b2 at *
  generalize up3 x = b3 at *
  go_enter Try.func13, Try.ntmps13
  go_wp2_with fail
  refine (C _ (hz.below (by go_grown))).mono ?_
  rintro e w1 ⟨rfl, hw1⟩
  have g1 : Below w.heap.size w w1 := Below.call (by go_grown) (by simp; omega) hw1
  have S : At5 w1 w.heap.size (.int .i64 (k)) (.int .u64 (s)) (.int .u64 (i)) (.slice (ao) n c) (.int .i64 (p)) := At5.of hw1 (by constructor <;> simp [go_sem])
  have T : At4 w1 (w.heap.size + 1) (.bool false) (.bool false) (.bool false) (.bool false) := At4.of hw1 (by constructor <;> simp [go_sem])
  have Z : At5 w1 (w.heap.size + 1 + 1) (.int .i64 0) (.int .u64 0) (.int .u64 0) (.slice none 0 0) (.int .i64 0) := At5.of hw1 (by constructor <;> simp [go_sem])
  clear hw1 hz C
  obtain ⟨s0, s1, s2, s3, s4, sa, sb, sc, sd, se, sl⟩ := id S
  obtain ⟨z0, z1, z2, z3, z4, za, zb, zc, zd, ze, zl⟩ := id Z
  obtain ⟨t0, t1, t2, t3, ta, tb, tc, td, tl⟩ := id T
  go_wp2_with fail
  have S' : At5 (w1.alloc (.cells #[.int .i64 k, .int .u64 s', .int .u64 i, .slice ao n c, .int .i64 p'] 26)) w1.heap.size (.int .i64 k) (.int .u64 s') (.int .u64 i) (.slice ao n c) (.int .i64 p') := At5.fresh _ _ _ _ _ _ _
  have T' := T.alloc (.cells #[.int .i64 k, .int .u64 s', .int .u64 i, .slice ao n c, .int .i64 p'] 26)
  have Z' := Z.alloc (.cells #[.int .i64 k, .int .u64 s', .int .u64 i, .slice ao n c, .int .i64 p'] 26)
  have gW : Below w.heap.size w (w1.alloc (.cells #[.int .i64 k, .int .u64 s', .int .u64 i, .slice ao n c, .int .i64 p'] 26)) := by have := g1.size; go_grown
  refine (D _).mono ?_
  rintro e w2 ⟨rfl, hw2⟩
  have g2 := Below.call gW gW.size hw2
  have S2 := At5.of hw2 S'
  have T2 := At4.of hw2 T'
  have Z2 := At5.of hw2 Z'
  have hs : w1.heap.size ≠ w.heap.size + 1 ∧ w1.heap.size ≠ w.heap.size + 1 + 1 := by omega
  clear hw2 gW S' T' Z' S T Z s0 s1 s2 s3 s4 sa sb sc sd se sl z0 z1 z2 z3 z4 za zb zc zd ze zl t0 t1 t2 t3 ta tb tc td D
  generalize w1.heap.size = qq at *
  obtain ⟨s0, s1, s2, s3, s4, sa, sb, sc, sd, se, sl⟩ := id S2
  obtain ⟨z0, z1, z2, z3, z4, za, zb, zc, zd, ze, zl⟩ := id Z2
  obtain ⟨t0, t1, t2, t3, ta, tb, tc, td, tl'⟩ := id T2
  go_wp2_with fail
  refine wp_forget (fun W => At5 W qq (.int .i64 k) (.int .u64 s') (.int .u64 i) (.slice ao n c) (.int .i64 p') ∧ At4 W (w.heap.size + 1) (.bool false) (.bool false) (.bool false) (.bool false) ∧ At5 W (w.heap.size + 1 + 1) (.int .i64 0) (.int .u64 0) (.int .u64 0) (.slice none 0 0) (.int .i64 0) ∧ At4 W w2.heap.size (.bool b0) (.bool b1) (.bool b2) (.bool b3) ∧ Below w.heap.size w W ∧ w2.heap.size ≠ (w.heap.size + 1) ∧ w2.heap.size ≠ (w.heap.size + 1 + 1)) ⟨S2.alloc _, T2.alloc _, Z2.alloc _, At4.fresh _ _ _ _ _ _, by have := g2.size; go_grown, by omega, by omega⟩ ?_
  clear S2 T2 Z2 s0 s1 s2 s3 s4 sa sb sc sd se sl z0 z1 z2 z3 z4 za zb zc zd ze zl t0 t1 t2 t3 ta tb tc td tl' g2 tl g1
  generalize w2.heap.size = q
  rintro W ⟨S, T, Z, U, g, hq1, hq2⟩
  obtain ⟨s0, s1, s2, s3, s4, sa, sb, sc, sd, se, sl⟩ := id S
  obtain ⟨z0, z1, z2, z3, z4, za, zb, zc, zd, ze, zl⟩ := id Z
  obtain ⟨t0, t1, t2, t3, ta, tb, tc, td, tl⟩ := id T
  obtain ⟨u0, u1, u2, u3, ua, ub, uc, ud, ul⟩ := id U
  obtain ⟨ra0, ra1, ra2, ra3⟩ := (T).outs (.bool b0) (.bool b1) (.bool b2) (.bool b3)
  obtain ⟨rc0, rc1, rc2, rc3, rc4⟩ := (Z.other4 (c := (w.heap.size + 1)) (by omega) (.bool b0) (.bool b1) (.bool b2) (.bool b3)).outs (.int .i64 k) (.int .u64 s') (.int .u64 i) (.slice ao n c) (.int .i64 p')
  go_region
  all_goals go_wp2
  all_goals exact bodyPost_ret (v := .tuple #[.agg #[.bool b0, .bool b1, .bool b2, .bool b3], .agg #[.int .i64 k, .int .u64 s', .int .u64 i, .slice ao n c, .int .i64 p']]) (by simp [results, Try.results13, go_sem, ra0, ra1, ra2, ra3, rc0, rc1, rc2, rc3, rc4]) rfl ⟨rfl, by go_grown⟩
set_option maxHeartbeats 4000000 in
set_option maxRecDepth 100000 in
theorem refPair_any (k s i p : Int) (ao : Option Addr) (n c : Nat) (zs : List Int) (h0 : 0 ≤ s) (h1 : s ≤ 18446744073709551615) (i0 : 0 ≤ i) (i1 : i ≤ 18446744073709551615) (w : World) (hz : Row .u64 w ao n c zs) :
    Calls Try.prog 15 #[.agg #[.int .i64 k, .int .u64 s, .int .u64 i, .slice ao n c, .int .i64 p]] w fun e w' => e = .returned (.tuple #[.agg #[.bool (decide (2147483648 ≤ drawv k s p zs)), .bool (!decide (2147483648 ≤ drawv k s p zs))], .agg #[.int .i64 k, .int .u64 (statev k s i), .int .u64 i, .slice ao n c, .int .i64 (atv k p zs)]]) ∧ Below w.heap.size w w' := by
  have C := fun w hz => refFlip_any k s i p ao n c zs h0 h1 i0 i1 w hz
  generalize decide (2147483648 ≤ drawv k s p zs) = b0 at *
  generalize statev k s i = s' at *
  generalize atv k p zs = p' at *
  go_enter Try.func15, Try.ntmps15
  go_wp2_with fail
  refine (C _ (hz.below (by go_grown))).mono ?_
  rintro e w1 ⟨rfl, hw1⟩
  have g1 : Below w.heap.size w w1 := Below.call (by go_grown) (by simp; omega) hw1
  have S : At5 w1 w.heap.size (.int .i64 (k)) (.int .u64 (s)) (.int .u64 (i)) (.slice (ao) n c) (.int .i64 (p)) := At5.of hw1 (by constructor <;> simp [go_sem])
  have T : At2 w1 (w.heap.size + 1) (.bool false) (.bool false) := At2.of hw1 (by constructor <;> simp [go_sem])
  have Z : At5 w1 (w.heap.size + 1 + 1) (.int .i64 0) (.int .u64 0) (.int .u64 0) (.slice none 0 0) (.int .i64 0) := At5.of hw1 (by constructor <;> simp [go_sem])
  clear hw1 hz C
  obtain ⟨s0, s1, s2, s3, s4, sa, sb, sc, sd, se, sl⟩ := id S
  obtain ⟨z0, z1, z2, z3, z4, za, zb, zc, zd, ze, zl⟩ := id Z
  obtain ⟨t0, t1, ta, tb, tl⟩ := id T
  go_wp2_with fail
  refine wp_forget (fun W => At5 W w1.heap.size (.int .i64 k) (.int .u64 s') (.int .u64 i) (.slice ao n c) (.int .i64 p') ∧ At2 W (w.heap.size + 1) (.bool false) (.bool false) ∧ At5 W (w.heap.size + 1 + 1) (.int .i64 0) (.int .u64 0) (.int .u64 0) (.slice none 0 0) (.int .i64 0) ∧ Below w.heap.size w W ∧ w1.heap.size ≠ (w.heap.size + 1) ∧ w1.heap.size ≠ (w.heap.size + 1 + 1)) ⟨At5.fresh _ _ _ _ _ _ _, T.alloc _, Z.alloc _, by have := g1.size; go_grown, by omega, by omega⟩ ?_
  generalize w1.heap.size = q
  clear S T Z s0 s1 s2 s3 s4 sa sb sc sd se sl z0 z1 z2 z3 z4 za zb zc zd ze zl t0 t1 ta tb tl g1
  rintro W ⟨S, T, Z, g, hq1, hq2⟩
  obtain ⟨s0, s1, s2, s3, s4, sa, sb, sc, sd, se, sl⟩ := id S
  obtain ⟨z0, z1, z2, z3, z4, za, zb, zc, zd, ze, zl⟩ := id Z
  obtain ⟨t0, t1, ta, tb, tl⟩ := id T
  obtain ⟨ra0, ra1⟩ := (T).outs (.bool b0) (.bool (!b0))
  obtain ⟨rc0, rc1, rc2, rc3, rc4⟩ := (Z.other2 (c := (w.heap.size + 1)) (by omega) (.bool b0) (.bool (!b0))).outs (.int .i64 k) (.int .u64 s') (.int .u64 i) (.slice ao n c) (.int .i64 p')
  go_region
  all_goals go_wp2
  all_goals exact bodyPost_ret (v := .tuple #[.agg #[.bool b0, .bool (!b0)], .agg #[.int .i64 k, .int .u64 s', .int .u64 i, .slice ao n c, .int .i64 p']]) (by simp [results, Try.results15, go_sem, ra0, ra1, rc0, rc1, rc2, rc3, rc4]) rfl ⟨rfl, by go_grown⟩
end Go.Proofs.Ytcaledobieopjaa
