/-
  OrderDoes: for any two numbers, any order of four trials and any source, orders, their numbers, trials, pairs and places are just the document's. No conditions.
-/
import Derived.Test.YtcaledobieopjaaO10
import Derived.Test.YtcaledobieopjaaOA
import Derived.Test.YtcaledobieopjaaOS
import Derived.Test.YtcaledobieopjaaRows
import Derived.WalkKit
import Derived.ProofKit
import Derived.OpenShut
import Derived.ChangeOld
import Derived.Below
import Derived.Lib.SmallJoins
namespace Go.Proofs.Ytcaledobieopjaa
open Go.RowKit
set_option linter.unusedVariables false
theorem At5.fresh2 {w : World} {b : Nat} {x0 x1 x2 x3 x4 : Value} {t : TypeId} (hb : b = w.heap.size) : At5 (w.alloc (.cells #[x0, x1, x2, x3, x4] t)) b x0 x1 x2 x3 x4 := by
  subst hb; exact At5.fresh _ _ _ _ _ _ _
theorem perm_both (k s i p : Int) (ao : Option Addr) (n c : Nat) (zs : List Int) (m : Int) (h0 : 0 ≤ s) (h1 : s ≤ 18446744073709551615) (i0 : 0 ≤ i) (i1 : i ≤ 18446744073709551615) : ∃ (N : Nat) (L : List Int) (s' p' : Int),
    (∀ w, Row .u64 w ao n c zs → Calls Try.prog 16 #[.agg #[.int .i64 k, .int .u64 s, .int .u64 i, .slice ao n c, .int .i64 p], .int .i64 m] w fun e w' => ∃ bo d, e = .returned (.tuple #[.slice bo N d, .agg #[.int .i64 k, .int .u64 s', .int .u64 i, .slice ao n c, .int .i64 p']]) ∧ Row .i64 w' bo N d L ∧ Below w.heap.size w w') ∧
    (∀ w, Row .u64 w ao n c zs → Calls Try.prog 17 #[.agg #[.int .i64 k, .int .u64 s, .int .u64 i, .slice ao n c, .int .i64 p], .int .i64 m] w fun e w' => ∃ bo d, e = .returned (.tuple #[.slice bo N d, .agg #[.int .i64 k, .int .u64 s', .int .u64 i, .slice ao n c, .int .i64 p']]) ∧ Row .i64 w' bo N d L ∧ Below w.heap.size w w') := by
  by_cases hm : m < 1 ∨ 64 < m
  · refine ⟨0, [], s, p, fun w hz => (perm_no k s i p ao n c zs m hm w).mono ?_, fun w hz => (refPerm_no k s i p ao n c zs m hm w).mono ?_⟩
    all_goals
      rintro e w' ⟨rfl, hb⟩
      exact ⟨none, 0, rfl, row_nil _ _, hb⟩
  · obtain ⟨M, rfl⟩ : ∃ M : Nat, m = (M : Int) := ⟨m.toNat, by omega⟩
    exact ⟨M, permN k s i p zs M (M - 1), sN k s i (M - 1), pN k p zs (M - 1), fun w hz => perm_row k s i p ao n c zs M h0 h1 i0 i1 (by omega) (by omega) w hz, fun w hz => refPerm_row k s i p ao n c zs M h0 h1 i0 i1 (by omega) (by omega) w hz⟩
theorem eq2_same (a b : Bool) (w : World) : (Op.equalIn 10000 35 (.agg #[.bool a, .bool b]) (.agg #[.bool a, .bool b])).run Try.prog w = .ok true w := by
  rw [eq2]; simp
set_option maxHeartbeats 8000000 in
set_option maxRecDepth 100000 in
theorem walk_odoes (k' m : Int) (xa xb xc xd : Bool) (k s i p : Int) (ao : Option Addr) (n c : Nat) (zs : List Int) (ka : -9223372036854775808 ≤ k') (kb : k' ≤ 9223372036854775807) (ma : -9223372036854775808 ≤ m) (mb : m ≤ 9223372036854775807) (h0 : 0 ≤ s) (h1 : s ≤ 18446744073709551615) (i0 : 0 ≤ i) (i1 : i ≤ 18446744073709551615) (k0 : -9223372036854775808 ≤ k) (k1 : k ≤ 9223372036854775807) (p0 : -9223372036854775808 ≤ p) (p1 : p ≤ 9223372036854775807) (w : World) (hz : Row .u64 w ao n c zs) :
    Calls Try.prog 3 #[.int .i64 k', .int .i64 m, .agg #[.bool xa, .bool xb, .bool xc, .bool xd], .agg #[.int .i64 k, .int .u64 s, .int .u64 i, .slice ao n c, .int .i64 p]] w fun e w' => e = .returned (.bool true) ∧ Below w.heap.size w w' := by
  by_cases e5 : (2000 : Int) < n
  · have hbig : decide ((2000 : Int) < n) = true := by simpa using e5
    have G := fun w => big_any k s i p ao n c w
    rw [hbig] at G
    go_enter Try.func3, Try.ntmps3
    go_wp2_with fail
    refine (G _).mono ?_
    rintro e w1 ⟨rfl, hw1⟩
    have g1 : Below w.heap.size w w1 := Below.call (by go_grown) (by simp <;> omega) hw1
    go_wp2
    go_ret
    exact ⟨rfl, g1⟩
  have hbig : decide ((2000 : Int) < n) = false := by simpa using e5
  have G := fun w => big_any k s i p ao n c w
  rw [hbig] at G
  clear hbig e5
  have C1 := fun w => four_any k' w
  have C2 := fun w => refFour_any k' w
  have C3 := fun w => rank_any xa xb xc xd w
  have C4 := fun w => refRank_any xa xb xc xd w
  have C5 := fun w hz => trials_any k s i p ao n c zs h0 h1 i0 i1 w hz
  have C6 := fun w hz => refTrials_any k s i p ao n c zs h0 h1 i0 i1 w hz
  have C7 := fun w hz => pair_any k s i p ao n c zs h0 h1 i0 i1 w hz
  have C8 := fun w hz => refPair_any k s i p ao n c zs h0 h1 i0 i1 w hz
  obtain ⟨N, LL, s2, p2, C9, C10⟩ := perm_both k s i p ao n c zs m h0 h1 i0 i1
  generalize drawv k s p zs % 6 = q at *
  generalize hu0 : decide (2147483648 ≤ drawv k s p zs) = y0 at *
  generalize hu1 : (!y0) = y1 at *
  clear hu0 hu1
  generalize statev k s i = s1 at *
  generalize atv k p zs = p1 at *
  generalize up0 q = t0 at *
  generalize up1 q = t1 at *
  generalize up2 q = t2 at *
  generalize up3 q = t3 at *
  generalize up0 k' = f0 at *
  generalize up1 k' = f1 at *
  generalize up2 k' = f2 at *
  generalize up3 k' = f3 at *
  generalize fourE k' = fe at *
  generalize rankv xa xb xc xd = rv at *
  generalize rankE xa xb xc xd = re at *
  go_enter Try.func3, Try.ntmps3
  go_wp2_with fail
  refine (G _).mono ?_
  rintro e w1 ⟨rfl, hw1⟩
  have g1 : Below w.heap.size w w1 := Below.call (by go_grown) (by simp; omega) hw1
  have X : At4 w1 w.heap.size (.bool xa) (.bool xb) (.bool xc) (.bool xd) := At4.of hw1 (by constructor <;> simp [go_sem])
  have S : At5 w1 (w.heap.size + 1) (.int .i64 k) (.int .u64 s) (.int .u64 i) (.slice ao n c) (.int .i64 p) := At5.of hw1 (by constructor <;> simp [go_sem])
  have R := (hz.alloc2 _ _).below hw1
  clear hw1 hz G
  go_wp2_with fail
  refine (C1 _).mono ?_
  rintro e w2 ⟨rfl, hw2⟩
  have g2 := Below.call g1 g1.size hw2
  have X' : At4 w2 w.heap.size (.bool xa) (.bool xb) (.bool xc) (.bool xd) := At4.of hw2 X
  have S' : At5 w2 (w.heap.size + 1) (.int .i64 k) (.int .u64 s) (.int .u64 i) (.slice ao n c) (.int .i64 p) := At5.of hw2 S
  have R' := R.below hw2
  clear X S R hw2 g1
  have X := X'
  have S := S'
  have R := R'
  clear X' S' R'
  go_wp2_with fail
  refine (C2 _).mono ?_
  rintro e w3 ⟨rfl, hw3⟩
  have G2 := g2.size
  have g3 : Below w.heap.size w w3 := Below.call (by go_grown) (by simp; omega) hw3
  have X' : At4 w3 w.heap.size (.bool xa) (.bool xb) (.bool xc) (.bool xd) := At4.of hw3 (X.alloc _)
  have S' : At5 w3 (w.heap.size + 1) (.int .i64 k) (.int .u64 s) (.int .u64 i) (.slice ao n c) (.int .i64 p) := At5.of hw3 (S.alloc _)
  have R' := (R.alloc _).below hw3
  have Fa : At4 w3 w2.heap.size (.bool f0) (.bool f1) (.bool f2) (.bool f3) := At4.of hw3 (At4.fresh _ _ _ _ _ _)
  clear X S R hw3 g2 G2
  generalize w2.heap.size = x2 at *
  have X := X'
  have S := S'
  have R := R'
  clear X' S' R'
  obtain ⟨xc0, xc1, xc2, xc3, xf0, xf1, xf2, xf3, xl⟩ := id X
  go_wp2_with fail
  refine (C3 _).mono ?_
  rintro e w4 ⟨rfl, hw4⟩
  have G3 := g3.size
  have g4 : Below w.heap.size w w4 := Below.call (by go_grown) (by simp; omega) hw4
  have X' : At4 w4 w.heap.size (.bool xa) (.bool xb) (.bool xc) (.bool xd) := At4.of hw4 (X.alloc _)
  have S' : At5 w4 (w.heap.size + 1) (.int .i64 k) (.int .u64 s) (.int .u64 i) (.slice ao n c) (.int .i64 p) := At5.of hw4 (S.alloc _)
  have Fa' : At4 w4 x2 (.bool f0) (.bool f1) (.bool f2) (.bool f3) := At4.of hw4 (Fa.alloc _)
  have R' := (R.alloc _).below hw4
  have Fb : At4 w4 w3.heap.size (.bool f0) (.bool f1) (.bool f2) (.bool f3) := At4.of hw4 (At4.fresh _ _ _ _ _ _)
  clear xc0 xc1 xc2 xc3 xf0 xf1 xf2 xf3 xl X S Fa R hw4 g3 G3
  generalize w3.heap.size = x3 at *
  have X := X'
  have S := S'
  have Fa := Fa'
  have R := R'
  clear X' S' Fa' R'
  obtain ⟨xc0, xc1, xc2, xc3, xf0, xf1, xf2, xf3, xl⟩ := id X
  go_wp2_with fail
  refine (C4 _).mono ?_
  rintro e w5 ⟨rfl, hw5⟩
  have g5 := Below.call g4 g4.size hw5
  have X' : At4 w5 w.heap.size (.bool xa) (.bool xb) (.bool xc) (.bool xd) := At4.of hw5 X
  have S' : At5 w5 (w.heap.size + 1) (.int .i64 k) (.int .u64 s) (.int .u64 i) (.slice ao n c) (.int .i64 p) := At5.of hw5 S
  have Fa' : At4 w5 x2 (.bool f0) (.bool f1) (.bool f2) (.bool f3) := At4.of hw5 Fa
  have Fb' : At4 w5 x3 (.bool f0) (.bool f1) (.bool f2) (.bool f3) := At4.of hw5 Fb
  have R' := R.below hw5
  clear xc0 xc1 xc2 xc3 xf0 xf1 xf2 xf3 xl X S Fa Fb R hw5 g4
  have X := X'
  have S := S'
  have Fa := Fa'
  have Fb := Fb'
  have R := R'
  clear X' S' Fa' Fb' R'
  obtain ⟨sc0, sc1, sc2, sc3, sc4, sf0, sf1, sf2, sf3, sf4, sl⟩ := id S
  go_wp2_with fail
  refine (C5 _ R).mono ?_
  rintro e w6 ⟨rfl, hw6⟩
  have g6 := Below.call g5 g5.size hw6
  have X' : At4 w6 w.heap.size (.bool xa) (.bool xb) (.bool xc) (.bool xd) := At4.of hw6 X
  have S' : At5 w6 (w.heap.size + 1) (.int .i64 k) (.int .u64 s) (.int .u64 i) (.slice ao n c) (.int .i64 p) := At5.of hw6 S
  have Fa' : At4 w6 x2 (.bool f0) (.bool f1) (.bool f2) (.bool f3) := At4.of hw6 Fa
  have Fb' : At4 w6 x3 (.bool f0) (.bool f1) (.bool f2) (.bool f3) := At4.of hw6 Fb
  have R' := R.below hw6
  clear sc0 sc1 sc2 sc3 sc4 sf0 sf1 sf2 sf3 sf4 sl X S Fa Fb R hw6 g5
  have X := X'
  have S := S'
  have Fa := Fa'
  have Fb := Fb'
  have R := R'
  clear X' S' Fa' Fb' R'
  obtain ⟨xc0, xc1, xc2, xc3, xf0, xf1, xf2, xf3, xl⟩ := id X
  obtain ⟨sc0, sc1, sc2, sc3, sc4, sf0, sf1, sf2, sf3, sf4, sl⟩ := id S
  go_wp2_with fail
  refine (C6 _ ((R.alloc _).alloc _)).mono ?_
  rintro e w7 ⟨rfl, hw7⟩
  have G6 := g6.size
  have g7 : Below w.heap.size w w7 := Below.call (by go_grown) (by simp; omega) hw7
  have X' : At4 w7 w.heap.size (.bool xa) (.bool xb) (.bool xc) (.bool xd) := At4.of hw7 ((X.alloc _).alloc _)
  have S' : At5 w7 (w.heap.size + 1) (.int .i64 k) (.int .u64 s) (.int .u64 i) (.slice ao n c) (.int .i64 p) := At5.of hw7 ((S.alloc _).alloc _)
  have Fa' : At4 w7 x2 (.bool f0) (.bool f1) (.bool f2) (.bool f3) := At4.of hw7 ((Fa.alloc _).alloc _)
  have Fb' : At4 w7 x3 (.bool f0) (.bool f1) (.bool f2) (.bool f3) := At4.of hw7 ((Fb.alloc _).alloc _)
  have R' := ((R.alloc _).alloc _).below hw7
  have Ta : At4 w7 w6.heap.size (.bool t0) (.bool t1) (.bool t2) (.bool t3) := At4.of hw7 ((At4.fresh _ _ _ _ _ _).alloc _)
  have Ja : At5 w7 (w6.heap.size + 1) (.int .i64 k) (.int .u64 s1) (.int .u64 i) (.slice ao n c) (.int .i64 p1) := At5.of hw7 (At5.fresh2 (by simp))
  clear xc0 xc1 xc2 xc3 xf0 xf1 xf2 xf3 xl sc0 sc1 sc2 sc3 sc4 sf0 sf1 sf2 sf3 sf4 sl X S Fa Fb R hw7 g6 G6
  generalize w6.heap.size = x6 at *
  have X := X'
  have S := S'
  have Fa := Fa'
  have Fb := Fb'
  have R := R'
  clear X' S' Fa' Fb' R'
  obtain ⟨xc0, xc1, xc2, xc3, xf0, xf1, xf2, xf3, xl⟩ := id X
  obtain ⟨sc0, sc1, sc2, sc3, sc4, sf0, sf1, sf2, sf3, sf4, sl⟩ := id S
  go_wp2_with fail
  refine (C7 _ ((R.alloc _).alloc _)).mono ?_
  rintro e w8 ⟨rfl, hw8⟩
  have G7 := g7.size
  have g8 : Below w.heap.size w w8 := Below.call (by go_grown) (by simp; omega) hw8
  have X' : At4 w8 w.heap.size (.bool xa) (.bool xb) (.bool xc) (.bool xd) := At4.of hw8 ((X.alloc _).alloc _)
  have S' : At5 w8 (w.heap.size + 1) (.int .i64 k) (.int .u64 s) (.int .u64 i) (.slice ao n c) (.int .i64 p) := At5.of hw8 ((S.alloc _).alloc _)
  have Fa' : At4 w8 x2 (.bool f0) (.bool f1) (.bool f2) (.bool f3) := At4.of hw8 ((Fa.alloc _).alloc _)
  have Fb' : At4 w8 x3 (.bool f0) (.bool f1) (.bool f2) (.bool f3) := At4.of hw8 ((Fb.alloc _).alloc _)
  have Ta' : At4 w8 x6 (.bool t0) (.bool t1) (.bool t2) (.bool t3) := At4.of hw8 ((Ta.alloc _).alloc _)
  have Ja' : At5 w8 (x6 + 1) (.int .i64 k) (.int .u64 s1) (.int .u64 i) (.slice ao n c) (.int .i64 p1) := At5.of hw8 ((Ja.alloc _).alloc _)
  have R' := ((R.alloc _).alloc _).below hw8
  have Tb : At4 w8 w7.heap.size (.bool t0) (.bool t1) (.bool t2) (.bool t3) := At4.of hw8 ((At4.fresh _ _ _ _ _ _).alloc _)
  have Jb : At5 w8 (w7.heap.size + 1) (.int .i64 k) (.int .u64 s1) (.int .u64 i) (.slice ao n c) (.int .i64 p1) := At5.of hw8 (At5.fresh2 (by simp))
  clear xc0 xc1 xc2 xc3 xf0 xf1 xf2 xf3 xl sc0 sc1 sc2 sc3 sc4 sf0 sf1 sf2 sf3 sf4 sl X S Fa Fb Ta Ja R hw8 g7 G7
  generalize w7.heap.size = x7 at *
  have X := X'
  have S := S'
  have Fa := Fa'
  have Fb := Fb'
  have Ta := Ta'
  have Ja := Ja'
  have R := R'
  clear X' S' Fa' Fb' Ta' Ja' R'
  obtain ⟨xc0, xc1, xc2, xc3, xf0, xf1, xf2, xf3, xl⟩ := id X
  obtain ⟨sc0, sc1, sc2, sc3, sc4, sf0, sf1, sf2, sf3, sf4, sl⟩ := id S
  go_wp2_with fail
  refine (C8 _ ((R.alloc _).alloc _)).mono ?_
  rintro e w9 ⟨rfl, hw9⟩
  have G8 := g8.size
  have g9 : Below w.heap.size w w9 := Below.call (by go_grown) (by simp; omega) hw9
  have X' : At4 w9 w.heap.size (.bool xa) (.bool xb) (.bool xc) (.bool xd) := At4.of hw9 ((X.alloc _).alloc _)
  have S' : At5 w9 (w.heap.size + 1) (.int .i64 k) (.int .u64 s) (.int .u64 i) (.slice ao n c) (.int .i64 p) := At5.of hw9 ((S.alloc _).alloc _)
  have Fa' : At4 w9 x2 (.bool f0) (.bool f1) (.bool f2) (.bool f3) := At4.of hw9 ((Fa.alloc _).alloc _)
  have Fb' : At4 w9 x3 (.bool f0) (.bool f1) (.bool f2) (.bool f3) := At4.of hw9 ((Fb.alloc _).alloc _)
  have Ta' : At4 w9 x6 (.bool t0) (.bool t1) (.bool t2) (.bool t3) := At4.of hw9 ((Ta.alloc _).alloc _)
  have Ja' : At5 w9 (x6 + 1) (.int .i64 k) (.int .u64 s1) (.int .u64 i) (.slice ao n c) (.int .i64 p1) := At5.of hw9 ((Ja.alloc _).alloc _)
  have Tb' : At4 w9 x7 (.bool t0) (.bool t1) (.bool t2) (.bool t3) := At4.of hw9 ((Tb.alloc _).alloc _)
  have Jb' : At5 w9 (x7 + 1) (.int .i64 k) (.int .u64 s1) (.int .u64 i) (.slice ao n c) (.int .i64 p1) := At5.of hw9 ((Jb.alloc _).alloc _)
  have R' := ((R.alloc _).alloc _).below hw9
  have Pa : At2 w9 w8.heap.size (.bool y0) (.bool y1) := At2.of hw9 ((At2.fresh _ _ _ _).alloc _)
  have Ka : At5 w9 (w8.heap.size + 1) (.int .i64 k) (.int .u64 s1) (.int .u64 i) (.slice ao n c) (.int .i64 p1) := At5.of hw9 (At5.fresh2 (by simp))
  clear xc0 xc1 xc2 xc3 xf0 xf1 xf2 xf3 xl sc0 sc1 sc2 sc3 sc4 sf0 sf1 sf2 sf3 sf4 sl X S Fa Fb Ta Ja Tb Jb R hw9 g8 G8
  generalize w8.heap.size = x8 at *
  have X := X'
  have S := S'
  have Fa := Fa'
  have Fb := Fb'
  have Ta := Ta'
  have Ja := Ja'
  have Tb := Tb'
  have Jb := Jb'
  have R := R'
  clear X' S' Fa' Fb' Ta' Ja' Tb' Jb' R'
  obtain ⟨xc0, xc1, xc2, xc3, xf0, xf1, xf2, xf3, xl⟩ := id X
  obtain ⟨sc0, sc1, sc2, sc3, sc4, sf0, sf1, sf2, sf3, sf4, sl⟩ := id S
  go_wp2_with fail
  refine (C9 _ ((R.alloc _).alloc _)).mono ?_
  rintro e w10 ⟨bo1, d1, rfl, RP, hw10⟩
  have G9 := g9.size
  have g10 : Below w.heap.size w w10 := Below.call (by go_grown) (by simp; omega) hw10
  have X' : At4 w10 w.heap.size (.bool xa) (.bool xb) (.bool xc) (.bool xd) := At4.of hw10 ((X.alloc _).alloc _)
  have S' : At5 w10 (w.heap.size + 1) (.int .i64 k) (.int .u64 s) (.int .u64 i) (.slice ao n c) (.int .i64 p) := At5.of hw10 ((S.alloc _).alloc _)
  have Fa' : At4 w10 x2 (.bool f0) (.bool f1) (.bool f2) (.bool f3) := At4.of hw10 ((Fa.alloc _).alloc _)
  have Fb' : At4 w10 x3 (.bool f0) (.bool f1) (.bool f2) (.bool f3) := At4.of hw10 ((Fb.alloc _).alloc _)
  have Ta' : At4 w10 x6 (.bool t0) (.bool t1) (.bool t2) (.bool t3) := At4.of hw10 ((Ta.alloc _).alloc _)
  have Ja' : At5 w10 (x6 + 1) (.int .i64 k) (.int .u64 s1) (.int .u64 i) (.slice ao n c) (.int .i64 p1) := At5.of hw10 ((Ja.alloc _).alloc _)
  have Tb' : At4 w10 x7 (.bool t0) (.bool t1) (.bool t2) (.bool t3) := At4.of hw10 ((Tb.alloc _).alloc _)
  have Jb' : At5 w10 (x7 + 1) (.int .i64 k) (.int .u64 s1) (.int .u64 i) (.slice ao n c) (.int .i64 p1) := At5.of hw10 ((Jb.alloc _).alloc _)
  have Pa' : At2 w10 x8 (.bool y0) (.bool y1) := At2.of hw10 ((Pa.alloc _).alloc _)
  have Ka' : At5 w10 (x8 + 1) (.int .i64 k) (.int .u64 s1) (.int .u64 i) (.slice ao n c) (.int .i64 p1) := At5.of hw10 ((Ka.alloc _).alloc _)
  have R' := ((R.alloc _).alloc _).below hw10
  have Pb : At2 w10 w9.heap.size (.bool y0) (.bool y1) := At2.of hw10 ((At2.fresh _ _ _ _).alloc _)
  have Kb : At5 w10 (w9.heap.size + 1) (.int .i64 k) (.int .u64 s1) (.int .u64 i) (.slice ao n c) (.int .i64 p1) := At5.of hw10 (At5.fresh2 (by simp))
  clear xc0 xc1 xc2 xc3 xf0 xf1 xf2 xf3 xl sc0 sc1 sc2 sc3 sc4 sf0 sf1 sf2 sf3 sf4 sl X S Fa Fb Ta Ja Tb Jb Pa Ka R hw10 g9 G9
  generalize w9.heap.size = x9 at *
  have X := X'
  have S := S'
  have Fa := Fa'
  have Fb := Fb'
  have Ta := Ta'
  have Ja := Ja'
  have Tb := Tb'
  have Jb := Jb'
  have Pa := Pa'
  have Ka := Ka'
  have R := R'
  clear X' S' Fa' Fb' Ta' Ja' Tb' Jb' Pa' Ka' R'
  obtain ⟨xc0, xc1, xc2, xc3, xf0, xf1, xf2, xf3, xl⟩ := id X
  obtain ⟨sc0, sc1, sc2, sc3, sc4, sf0, sf1, sf2, sf3, sf4, sl⟩ := id S
  go_wp2_with fail
  refine (C10 _ (R.alloc _)).mono ?_
  rintro e w11 ⟨bo2, d2, rfl, RQ, hw11⟩
  have G10 := g10.size
  have g11 : Below w.heap.size w w11 := Below.call (by go_grown) (by simp; omega) hw11
  have X' : At4 w11 w.heap.size (.bool xa) (.bool xb) (.bool xc) (.bool xd) := At4.of hw11 (X.alloc _)
  have S' : At5 w11 (w.heap.size + 1) (.int .i64 k) (.int .u64 s) (.int .u64 i) (.slice ao n c) (.int .i64 p) := At5.of hw11 (S.alloc _)
  have Fa' : At4 w11 x2 (.bool f0) (.bool f1) (.bool f2) (.bool f3) := At4.of hw11 (Fa.alloc _)
  have Fb' : At4 w11 x3 (.bool f0) (.bool f1) (.bool f2) (.bool f3) := At4.of hw11 (Fb.alloc _)
  have Ta' : At4 w11 x6 (.bool t0) (.bool t1) (.bool t2) (.bool t3) := At4.of hw11 (Ta.alloc _)
  have Ja' : At5 w11 (x6 + 1) (.int .i64 k) (.int .u64 s1) (.int .u64 i) (.slice ao n c) (.int .i64 p1) := At5.of hw11 (Ja.alloc _)
  have Tb' : At4 w11 x7 (.bool t0) (.bool t1) (.bool t2) (.bool t3) := At4.of hw11 (Tb.alloc _)
  have Jb' : At5 w11 (x7 + 1) (.int .i64 k) (.int .u64 s1) (.int .u64 i) (.slice ao n c) (.int .i64 p1) := At5.of hw11 (Jb.alloc _)
  have Pa' : At2 w11 x8 (.bool y0) (.bool y1) := At2.of hw11 (Pa.alloc _)
  have Ka' : At5 w11 (x8 + 1) (.int .i64 k) (.int .u64 s1) (.int .u64 i) (.slice ao n c) (.int .i64 p1) := At5.of hw11 (Ka.alloc _)
  have Pb' : At2 w11 x9 (.bool y0) (.bool y1) := At2.of hw11 (Pb.alloc _)
  have Kb' : At5 w11 (x9 + 1) (.int .i64 k) (.int .u64 s1) (.int .u64 i) (.slice ao n c) (.int .i64 p1) := At5.of hw11 (Kb.alloc _)
  have R' := (R.alloc _).below hw11
  have RP' := (RP.alloc _).below hw11
  have Ua : At5 w11 w10.heap.size (.int .i64 k) (.int .u64 s2) (.int .u64 i) (.slice ao n c) (.int .i64 p2) := At5.of hw11 (At5.fresh _ _ _ _ _ _ _)
  clear xc0 xc1 xc2 xc3 xf0 xf1 xf2 xf3 xl sc0 sc1 sc2 sc3 sc4 sf0 sf1 sf2 sf3 sf4 sl X S Fa Fb Ta Ja Tb Jb Pa Ka Pb Kb R RP hw11 g10 G10
  generalize w10.heap.size = x10 at *
  have X := X'
  have S := S'
  have Fa := Fa'
  have Fb := Fb'
  have Ta := Ta'
  have Ja := Ja'
  have Tb := Tb'
  have Jb := Jb'
  have Pa := Pa'
  have Ka := Ka'
  have Pb := Pb'
  have Kb := Kb'
  have R := R'
  have RP := RP'
  clear X' S' Fa' Fb' Ta' Ja' Tb' Jb' Pa' Ka' Pb' Kb' R' RP'
  have e1 := eq4_same f0 f1 f2 f3
  have e2 := eq4_same t0 t1 t2 t3
  have e3 := eq2_same y0 y1
  obtain ⟨fac0, fac1, fac2, fac3, faf0, faf1, faf2, faf3, fal⟩ := id Fa
  obtain ⟨fbc0, fbc1, fbc2, fbc3, fbf0, fbf1, fbf2, fbf3, fbl⟩ := id Fb
  obtain ⟨tac0, tac1, tac2, tac3, taf0, taf1, taf2, taf3, tal⟩ := id Ta
  obtain ⟨tbc0, tbc1, tbc2, tbc3, tbf0, tbf1, tbf2, tbf3, tbl⟩ := id Tb
  obtain ⟨pac0, pac1, paf0, paf1, pal⟩ := id Pa
  obtain ⟨pbc0, pbc1, pbf0, pbf1, pbl⟩ := id Pb
  go_wp2_with fail
  refine (ordered_any _).mono ?_
  rintro e w12 ⟨rfl, hw12⟩
  have G11 := g11.size
  have g12 : Below w.heap.size w w12 := Below.call (by go_grown) (by simp; omega) hw12
  have X' : At4 w12 w.heap.size (.bool xa) (.bool xb) (.bool xc) (.bool xd) := At4.of hw12 (X.alloc _)
  have S' : At5 w12 (w.heap.size + 1) (.int .i64 k) (.int .u64 s) (.int .u64 i) (.slice ao n c) (.int .i64 p) := At5.of hw12 (S.alloc _)
  have Fa' : At4 w12 x2 (.bool f0) (.bool f1) (.bool f2) (.bool f3) := At4.of hw12 (Fa.alloc _)
  have Fb' : At4 w12 x3 (.bool f0) (.bool f1) (.bool f2) (.bool f3) := At4.of hw12 (Fb.alloc _)
  have Ta' : At4 w12 x6 (.bool t0) (.bool t1) (.bool t2) (.bool t3) := At4.of hw12 (Ta.alloc _)
  have Ja' : At5 w12 (x6 + 1) (.int .i64 k) (.int .u64 s1) (.int .u64 i) (.slice ao n c) (.int .i64 p1) := At5.of hw12 (Ja.alloc _)
  have Tb' : At4 w12 x7 (.bool t0) (.bool t1) (.bool t2) (.bool t3) := At4.of hw12 (Tb.alloc _)
  have Jb' : At5 w12 (x7 + 1) (.int .i64 k) (.int .u64 s1) (.int .u64 i) (.slice ao n c) (.int .i64 p1) := At5.of hw12 (Jb.alloc _)
  have Pa' : At2 w12 x8 (.bool y0) (.bool y1) := At2.of hw12 (Pa.alloc _)
  have Ka' : At5 w12 (x8 + 1) (.int .i64 k) (.int .u64 s1) (.int .u64 i) (.slice ao n c) (.int .i64 p1) := At5.of hw12 (Ka.alloc _)
  have Pb' : At2 w12 x9 (.bool y0) (.bool y1) := At2.of hw12 (Pb.alloc _)
  have Kb' : At5 w12 (x9 + 1) (.int .i64 k) (.int .u64 s1) (.int .u64 i) (.slice ao n c) (.int .i64 p1) := At5.of hw12 (Kb.alloc _)
  have Ua' : At5 w12 x10 (.int .i64 k) (.int .u64 s2) (.int .u64 i) (.slice ao n c) (.int .i64 p2) := At5.of hw12 (Ua.alloc _)
  have R' := (R.alloc _).below hw12
  have RP' := (RP.alloc _).below hw12
  have RQ' := (RQ.alloc _).below hw12
  have Ub : At5 w12 w11.heap.size (.int .i64 k) (.int .u64 s2) (.int .u64 i) (.slice ao n c) (.int .i64 p2) := At5.of hw12 (At5.fresh _ _ _ _ _ _ _)
  clear fac0 fac1 fac2 fac3 faf0 faf1 faf2 faf3 fal fbc0 fbc1 fbc2 fbc3 fbf0 fbf1 fbf2 fbf3 fbl tac0 tac1 tac2 tac3 taf0 taf1 taf2 taf3 tal tbc0 tbc1 tbc2 tbc3 tbf0 tbf1 tbf2 tbf3 tbl pac0 pac1 paf0 paf1 pal pbc0 pbc1 pbf0 pbf1 pbl X S Fa Fb Ta Ja Tb Jb Pa Ka Pb Kb Ua R RP RQ hw12 g11 G11
  generalize w11.heap.size = x11 at *
  have X := X'
  have S := S'
  have Fa := Fa'
  have Fb := Fb'
  have Ta := Ta'
  have Ja := Ja'
  have Tb := Tb'
  have Jb := Jb'
  have Pa := Pa'
  have Ka := Ka'
  have Pb := Pb'
  have Kb := Kb'
  have Ua := Ua'
  have R := R'
  have RP := RP'
  have RQ := RQ'
  clear X' S' Fa' Fb' Ta' Ja' Tb' Jb' Pa' Ka' Pb' Kb' Ua' R' RP' RQ'
  obtain ⟨jac0, jac1, jac2, jac3, jac4, jaf0, jaf1, jaf2, jaf3, jaf4, jal⟩ := id Ja
  obtain ⟨jbc0, jbc1, jbc2, jbc3, jbc4, jbf0, jbf1, jbf2, jbf3, jbf4, jbl⟩ := id Jb
  go_wp2_with fail
  refine (same_any _ _ _ _ _ _ _ _ _ _ _ R R).mono ?_
  rintro e w13 ⟨rfl, hw13⟩
  have g13 := Below.call g12 g12.size hw13
  have X' : At4 w13 w.heap.size (.bool xa) (.bool xb) (.bool xc) (.bool xd) := At4.of hw13 X
  have S' : At5 w13 (w.heap.size + 1) (.int .i64 k) (.int .u64 s) (.int .u64 i) (.slice ao n c) (.int .i64 p) := At5.of hw13 S
  have Fa' : At4 w13 x2 (.bool f0) (.bool f1) (.bool f2) (.bool f3) := At4.of hw13 Fa
  have Fb' : At4 w13 x3 (.bool f0) (.bool f1) (.bool f2) (.bool f3) := At4.of hw13 Fb
  have Ta' : At4 w13 x6 (.bool t0) (.bool t1) (.bool t2) (.bool t3) := At4.of hw13 Ta
  have Ja' : At5 w13 (x6 + 1) (.int .i64 k) (.int .u64 s1) (.int .u64 i) (.slice ao n c) (.int .i64 p1) := At5.of hw13 Ja
  have Tb' : At4 w13 x7 (.bool t0) (.bool t1) (.bool t2) (.bool t3) := At4.of hw13 Tb
  have Jb' : At5 w13 (x7 + 1) (.int .i64 k) (.int .u64 s1) (.int .u64 i) (.slice ao n c) (.int .i64 p1) := At5.of hw13 Jb
  have Pa' : At2 w13 x8 (.bool y0) (.bool y1) := At2.of hw13 Pa
  have Ka' : At5 w13 (x8 + 1) (.int .i64 k) (.int .u64 s1) (.int .u64 i) (.slice ao n c) (.int .i64 p1) := At5.of hw13 Ka
  have Pb' : At2 w13 x9 (.bool y0) (.bool y1) := At2.of hw13 Pb
  have Kb' : At5 w13 (x9 + 1) (.int .i64 k) (.int .u64 s1) (.int .u64 i) (.slice ao n c) (.int .i64 p1) := At5.of hw13 Kb
  have Ua' : At5 w13 x10 (.int .i64 k) (.int .u64 s2) (.int .u64 i) (.slice ao n c) (.int .i64 p2) := At5.of hw13 Ua
  have Ub' : At5 w13 x11 (.int .i64 k) (.int .u64 s2) (.int .u64 i) (.slice ao n c) (.int .i64 p2) := At5.of hw13 Ub
  have R' := R.below hw13
  have RP' := RP.below hw13
  have RQ' := RQ.below hw13
  clear jac0 jac1 jac2 jac3 jac4 jaf0 jaf1 jaf2 jaf3 jaf4 jal jbc0 jbc1 jbc2 jbc3 jbc4 jbf0 jbf1 jbf2 jbf3 jbf4 jbl X S Fa Fb Ta Ja Tb Jb Pa Ka Pb Kb Ua Ub R RP RQ hw13 g12
  have X := X'
  have S := S'
  have Fa := Fa'
  have Fb := Fb'
  have Ta := Ta'
  have Ja := Ja'
  have Tb := Tb'
  have Jb := Jb'
  have Pa := Pa'
  have Ka := Ka'
  have Pb := Pb'
  have Kb := Kb'
  have Ua := Ua'
  have Ub := Ub'
  have R := R'
  have RP := RP'
  have RQ := RQ'
  clear X' S' Fa' Fb' Ta' Ja' Tb' Jb' Pa' Ka' Pb' Kb' Ua' Ub' R' RP' RQ'
  obtain ⟨kac0, kac1, kac2, kac3, kac4, kaf0, kaf1, kaf2, kaf3, kaf4, kal⟩ := id Ka
  obtain ⟨kbc0, kbc1, kbc2, kbc3, kbc4, kbf0, kbf1, kbf2, kbf3, kbf4, kbl⟩ := id Kb
  go_wp2_with fail
  refine (same_any _ _ _ _ _ _ _ _ _ _ _ R R).mono ?_
  rintro e w14 ⟨rfl, hw14⟩
  have g14 := Below.call g13 g13.size hw14
  have X' : At4 w14 w.heap.size (.bool xa) (.bool xb) (.bool xc) (.bool xd) := At4.of hw14 X
  have S' : At5 w14 (w.heap.size + 1) (.int .i64 k) (.int .u64 s) (.int .u64 i) (.slice ao n c) (.int .i64 p) := At5.of hw14 S
  have Fa' : At4 w14 x2 (.bool f0) (.bool f1) (.bool f2) (.bool f3) := At4.of hw14 Fa
  have Fb' : At4 w14 x3 (.bool f0) (.bool f1) (.bool f2) (.bool f3) := At4.of hw14 Fb
  have Ta' : At4 w14 x6 (.bool t0) (.bool t1) (.bool t2) (.bool t3) := At4.of hw14 Ta
  have Ja' : At5 w14 (x6 + 1) (.int .i64 k) (.int .u64 s1) (.int .u64 i) (.slice ao n c) (.int .i64 p1) := At5.of hw14 Ja
  have Tb' : At4 w14 x7 (.bool t0) (.bool t1) (.bool t2) (.bool t3) := At4.of hw14 Tb
  have Jb' : At5 w14 (x7 + 1) (.int .i64 k) (.int .u64 s1) (.int .u64 i) (.slice ao n c) (.int .i64 p1) := At5.of hw14 Jb
  have Pa' : At2 w14 x8 (.bool y0) (.bool y1) := At2.of hw14 Pa
  have Ka' : At5 w14 (x8 + 1) (.int .i64 k) (.int .u64 s1) (.int .u64 i) (.slice ao n c) (.int .i64 p1) := At5.of hw14 Ka
  have Pb' : At2 w14 x9 (.bool y0) (.bool y1) := At2.of hw14 Pb
  have Kb' : At5 w14 (x9 + 1) (.int .i64 k) (.int .u64 s1) (.int .u64 i) (.slice ao n c) (.int .i64 p1) := At5.of hw14 Kb
  have Ua' : At5 w14 x10 (.int .i64 k) (.int .u64 s2) (.int .u64 i) (.slice ao n c) (.int .i64 p2) := At5.of hw14 Ua
  have Ub' : At5 w14 x11 (.int .i64 k) (.int .u64 s2) (.int .u64 i) (.slice ao n c) (.int .i64 p2) := At5.of hw14 Ub
  have R' := R.below hw14
  have RP' := RP.below hw14
  have RQ' := RQ.below hw14
  clear kac0 kac1 kac2 kac3 kac4 kaf0 kaf1 kaf2 kaf3 kaf4 kal kbc0 kbc1 kbc2 kbc3 kbc4 kbf0 kbf1 kbf2 kbf3 kbf4 kbl X S Fa Fb Ta Ja Tb Jb Pa Ka Pb Kb Ua Ub R RP RQ hw14 g13
  have X := X'
  have S := S'
  have Fa := Fa'
  have Fb := Fb'
  have Ta := Ta'
  have Ja := Ja'
  have Tb := Tb'
  have Jb := Jb'
  have Pa := Pa'
  have Ka := Ka'
  have Pb := Pb'
  have Kb := Kb'
  have Ua := Ua'
  have Ub := Ub'
  have R := R'
  have RP := RP'
  have RQ := RQ'
  clear X' S' Fa' Fb' Ta' Ja' Tb' Jb' Pa' Ka' Pb' Kb' Ua' Ub' R' RP' RQ'
  go_wp2_with fail
  refine (ints_same _ _ _ _ _ _ _ RP RQ).mono ?_
  rintro e w15 ⟨rfl, hw15⟩
  have g15 := Below.call g14 g14.size hw15
  have X' : At4 w15 w.heap.size (.bool xa) (.bool xb) (.bool xc) (.bool xd) := At4.of hw15 X
  have S' : At5 w15 (w.heap.size + 1) (.int .i64 k) (.int .u64 s) (.int .u64 i) (.slice ao n c) (.int .i64 p) := At5.of hw15 S
  have Fa' : At4 w15 x2 (.bool f0) (.bool f1) (.bool f2) (.bool f3) := At4.of hw15 Fa
  have Fb' : At4 w15 x3 (.bool f0) (.bool f1) (.bool f2) (.bool f3) := At4.of hw15 Fb
  have Ta' : At4 w15 x6 (.bool t0) (.bool t1) (.bool t2) (.bool t3) := At4.of hw15 Ta
  have Ja' : At5 w15 (x6 + 1) (.int .i64 k) (.int .u64 s1) (.int .u64 i) (.slice ao n c) (.int .i64 p1) := At5.of hw15 Ja
  have Tb' : At4 w15 x7 (.bool t0) (.bool t1) (.bool t2) (.bool t3) := At4.of hw15 Tb
  have Jb' : At5 w15 (x7 + 1) (.int .i64 k) (.int .u64 s1) (.int .u64 i) (.slice ao n c) (.int .i64 p1) := At5.of hw15 Jb
  have Pa' : At2 w15 x8 (.bool y0) (.bool y1) := At2.of hw15 Pa
  have Ka' : At5 w15 (x8 + 1) (.int .i64 k) (.int .u64 s1) (.int .u64 i) (.slice ao n c) (.int .i64 p1) := At5.of hw15 Ka
  have Pb' : At2 w15 x9 (.bool y0) (.bool y1) := At2.of hw15 Pb
  have Kb' : At5 w15 (x9 + 1) (.int .i64 k) (.int .u64 s1) (.int .u64 i) (.slice ao n c) (.int .i64 p1) := At5.of hw15 Kb
  have Ua' : At5 w15 x10 (.int .i64 k) (.int .u64 s2) (.int .u64 i) (.slice ao n c) (.int .i64 p2) := At5.of hw15 Ua
  have Ub' : At5 w15 x11 (.int .i64 k) (.int .u64 s2) (.int .u64 i) (.slice ao n c) (.int .i64 p2) := At5.of hw15 Ub
  have R' := R.below hw15
  have RP' := RP.below hw15
  have RQ' := RQ.below hw15
  clear X S Fa Fb Ta Ja Tb Jb Pa Ka Pb Kb Ua Ub R RP RQ hw15 g14
  have X := X'
  have S := S'
  have Fa := Fa'
  have Fb := Fb'
  have Ta := Ta'
  have Ja := Ja'
  have Tb := Tb'
  have Jb := Jb'
  have Pa := Pa'
  have Ka := Ka'
  have Pb := Pb'
  have Kb := Kb'
  have Ua := Ua'
  have Ub := Ub'
  have R := R'
  have RP := RP'
  have RQ := RQ'
  clear X' S' Fa' Fb' Ta' Ja' Tb' Jb' Pa' Ka' Pb' Kb' Ua' Ub' R' RP' RQ'
  obtain ⟨uac0, uac1, uac2, uac3, uac4, uaf0, uaf1, uaf2, uaf3, uaf4, ual⟩ := id Ua
  obtain ⟨ubc0, ubc1, ubc2, ubc3, ubc4, ubf0, ubf1, ubf2, ubf3, ubf4, ubl⟩ := id Ub
  go_wp2_with fail
  refine (same_any _ _ _ _ _ _ _ _ _ _ _ R R).mono ?_
  rintro e w16 ⟨rfl, hw16⟩
  have g16 := Below.call g15 g15.size hw16
  have X' : At4 w16 w.heap.size (.bool xa) (.bool xb) (.bool xc) (.bool xd) := At4.of hw16 X
  have S' : At5 w16 (w.heap.size + 1) (.int .i64 k) (.int .u64 s) (.int .u64 i) (.slice ao n c) (.int .i64 p) := At5.of hw16 S
  have Fa' : At4 w16 x2 (.bool f0) (.bool f1) (.bool f2) (.bool f3) := At4.of hw16 Fa
  have Fb' : At4 w16 x3 (.bool f0) (.bool f1) (.bool f2) (.bool f3) := At4.of hw16 Fb
  have Ta' : At4 w16 x6 (.bool t0) (.bool t1) (.bool t2) (.bool t3) := At4.of hw16 Ta
  have Ja' : At5 w16 (x6 + 1) (.int .i64 k) (.int .u64 s1) (.int .u64 i) (.slice ao n c) (.int .i64 p1) := At5.of hw16 Ja
  have Tb' : At4 w16 x7 (.bool t0) (.bool t1) (.bool t2) (.bool t3) := At4.of hw16 Tb
  have Jb' : At5 w16 (x7 + 1) (.int .i64 k) (.int .u64 s1) (.int .u64 i) (.slice ao n c) (.int .i64 p1) := At5.of hw16 Jb
  have Pa' : At2 w16 x8 (.bool y0) (.bool y1) := At2.of hw16 Pa
  have Ka' : At5 w16 (x8 + 1) (.int .i64 k) (.int .u64 s1) (.int .u64 i) (.slice ao n c) (.int .i64 p1) := At5.of hw16 Ka
  have Pb' : At2 w16 x9 (.bool y0) (.bool y1) := At2.of hw16 Pb
  have Kb' : At5 w16 (x9 + 1) (.int .i64 k) (.int .u64 s1) (.int .u64 i) (.slice ao n c) (.int .i64 p1) := At5.of hw16 Kb
  have Ua' : At5 w16 x10 (.int .i64 k) (.int .u64 s2) (.int .u64 i) (.slice ao n c) (.int .i64 p2) := At5.of hw16 Ua
  have Ub' : At5 w16 x11 (.int .i64 k) (.int .u64 s2) (.int .u64 i) (.slice ao n c) (.int .i64 p2) := At5.of hw16 Ub
  have R' := R.below hw16
  have RP' := RP.below hw16
  have RQ' := RQ.below hw16
  clear uac0 uac1 uac2 uac3 uac4 uaf0 uaf1 uaf2 uaf3 uaf4 ual ubc0 ubc1 ubc2 ubc3 ubc4 ubf0 ubf1 ubf2 ubf3 ubf4 ubl X S Fa Fb Ta Ja Tb Jb Pa Ka Pb Kb Ua Ub R RP RQ hw16 g15
  have X := X'
  have S := S'
  have Fa := Fa'
  have Fb := Fb'
  have Ta := Ta'
  have Ja := Ja'
  have Tb := Tb'
  have Jb := Jb'
  have Pa := Pa'
  have Ka := Ka'
  have Pb := Pb'
  have Kb := Kb'
  have Ua := Ua'
  have Ub := Ub'
  have R := R'
  have RP := RP'
  have RQ := RQ'
  clear X' S' Fa' Fb' Ta' Ja' Tb' Jb' Pa' Ka' Pb' Kb' Ua' Ub' R' RP' RQ'
  go_wp2
  go_ret
  exact ⟨rfl, g16⟩
end Go.Proofs.Ytcaledobieopjaa
namespace Go.Proofs.Ytcaledobieopjaa.orderDoes
open Go.ChangeShapes Go.WideShapes Go.ChangeAt Go.RowKit Go.Joins
set_option linter.unusedVariables false

theorem own : ownKnob Try.prog.godebug = none := by kernel_rfl
theorem laidOut : laidOutB Try.prog = true := by kernel_rfl
theorem word_of {x : Int} (h : (Lit.int .u64 x).wf = true) : 0 ≤ x ∧ x ≤ 18446744073709551615 := by
  simp [Lit.wf, IntKind.min, IntKind.max, IntKind.signed, IntKind.bits] at h
  exact ⟨by omega, by omega⟩
theorem int_of {x : Int} (h : (Lit.int .i64 x).wf = true) : -9223372036854775808 ≤ x ∧ x ≤ 9223372036854775807 := by
  simp [Lit.wf, IntKind.min, IntKind.max, IntKind.signed, IntKind.bits] at h
  exact ⟨by omega, by omega⟩

set_option maxRecDepth 100000 in
theorem lifted (os : Os) (started : os.Started) (H : Type) (enc : TypeId × Value → H) :
    ReturnsInHanded {} Try.checked os 3 .any (Rows.orderDoesSpec.pre6 enc Try.prog Try.f3 Rows.orderDoesRow.domain false) (Rows.orderDoesSpec.post enc Try.prog Try.f3 false true false false) := by
  refine returnsInHanded_of_change (C := Try.checked) own started (by kernel_rfl) Try.func3
    (ChangeSpec.witness6 (enc := enc) (C := Try.checked) false ⟨#[], #[.int .i64 0, .int .i64 0, .agg #[.bool false, .bool false, .bool false, .bool false], .agg #[.int .i64 0, .int .u64 0, .int .u64 0, .slice none 0 0, .int .i64 0]], []⟩ 8 (by kernel_rfl) (by kernel_rfl) (by kernel_rfl) (by kernel_rfl)) ?_
  intro W base args ds gs before hval0 hW hcnd _
  have hval : ∀ (j : Nat) t v, Try.f3.params[j]? = some t → args[j]? = some v → Value.okWide Try.prog W .any base t v := hval0
  have hW' := hW
  obtain ⟨p, q, hA0, hV, rfl, hfz, hnd⟩ := hW
  have hA : DataW.TrodAll enc Try.prog W 0 (fun _ => true) true Try.f3.params.toList args.toList ds p := hA0
  rw [Try.params3] at hA hval
  obtain ⟨v0, vs0, d0, ds0, p0, q0, hargs, rfl, rfl, h0, r0⟩ := trodAll_cons hA
  obtain ⟨v1, vs1, d1, ds1, p1, q1, rfl, rfl, rfl, h1, r1⟩ := trodAll_cons r0
  obtain ⟨v2, vs2, d2, ds2, p2, q2, rfl, rfl, rfl, h2, r2⟩ := trodAll_cons r1
  obtain ⟨v3, vs3, d3, ds3, p3, q3, rfl, rfl, rfl, h3, r3⟩ := trodAll_cons r2
  obtain ⟨rfl, rfl, rfl⟩ := trodAll_nil r3
  obtain rfl : args = #[v0, v1, v2, v3] := by cases args; simp_all
  obtain ⟨rfl, rfl⟩ := trodVars_none hV
  obtain ⟨a0, rfl, rfl, rfl, w0⟩ := open_int Try.underlying3 (hval 0 3 v0 rfl rfl) h0
  obtain ⟨a1, rfl, rfl, rfl, w1⟩ := open_int Try.underlying3 (hval 1 3 v1 rfl rfl) h1
  have k2 := h2
  have lt2 : ∀ x ∈ p2, x.block < W.heap.size := by obtain ⟨m, hm⟩ := k2; exact DataW.trod_lt m _ _ _ hm
  obtain ⟨ba_2, bb_2, bc_2, bd_2, rfl⟩ := open_four (hval 2 22 v2 rfl rfl) h2
  have k3 := h3
  have lt3 : ∀ x ∈ p3, x.block < W.heap.size := by obtain ⟨m, hm⟩ := k3; exact DataW.trod_lt m _ _ _ hm
  obtain ⟨k_3, s_3, i_3, q_3, ao_3, n_3, c_3, zs_3, rfl, bs3, bi3, bk3, bq3, hz3⟩ := open_source (hval 3 26 v3 rfl rfl) h3
  clear hA0 hval0
  refine (walk_odoes a0 a1 ba_2 bb_2 bc_2 bd_2 k_3 s_3 i_3 q_3 ao_3 n_3 c_3 zs_3 (int_of w0).1 (int_of w0).2 (int_of w1).1 (int_of w1).2 bs3.1 bs3.2 bi3.1 bi3.2 bk3.1 bk3.2 bq3.1 bq3.2 W hz3).mono fun e W' ⟨he, bel⟩ => ?_
  subst he
  exact ⟨_, rfl, _, _, _, [], _, [], hW', trodAll_mk1 (shut_bool Try.underlying4 _), (trodAll_cons_mk (shut_int Try.underlying3 w0) (trodAll_cons_mk (shut_int Try.underlying3 w1) (trodAll_cons_mk (Below.trod laidOut (by kernel_rfl) (of_decide_eq_true (by kernel_rfl)) k2 bel lt2) (trodAll_cons_mk (Below.trod laidOut (by kernel_rfl) (of_decide_eq_true (by kernel_rfl)) k3 bel lt3) trodAll_mk0)))), rfl, bel.frame _, fun h => by cases h⟩

theorem over : Rows.orderDoesRow.holds Try.pinned (OpenSpec.ofChange Rows.orderDoesSpec) :=
  OpenClaim.holds_of_wide 3 Try.f3 rfl rfl rfl rfl rfl rfl rfl ⟨rfl, rfl, rfl, rfl, rfl⟩ rfl rfl rfl rfl rfl (by kernel_rfl) Try.func3 (by kernel_rfl)
    (of_decide_eq_true (by kernel_rfl)) (by unfold Func.isWrapper; first | (rw [if_pos (by decide +kernel)]; kernel_rfl) | (rw [if_neg (by decide +kernel)]; exact ⟨rfl, rfl⟩))
    (fun os started H enc _ => lifted os started H enc)
theorem proved : Rows.OrderDoesSaid := over
#print axioms proved
end Go.Proofs.Ytcaledobieopjaa.orderDoes
