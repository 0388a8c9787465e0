/-
  Many draws in a row, by the document; both as rows. No conditions but the numbers' own ranges.
-/
import Derived.Test.YtfpchofihofojaaQ10
namespace Go.Proofs.Ytfpchofihofojaa
open Go.RowKit
set_option linter.unusedVariables false
set_option maxHeartbeats 1000000 in
set_option maxRecDepth 100000 in
theorem refMany_to (k s i p m : Int) (M : Nat) (ao : Option Addr) (n c : Nat) (zs : List Int) (h0 : 0 ≤ s) (h1 : s ≤ 18446744073709551615) (i0 : 0 ≤ i) (i1 : i ≤ 18446744073709551615)
    (HM : Hid ((m ≤ 0 ∧ M = 0) ∨ (0 < m ∧ m ≤ 1000 ∧ (M : Int) = m) ∨ (1000 < m ∧ M = 1000))) (w : World) (hz : Row .u64 w ao n c zs) :
    Calls Try.prog 18 #[.agg #[.int .i64 k, .int .u64 s, .int .u64 i, .slice ao n c, .int .i64 p], .int .i64 m] w fun e w' => ∃ v, e = .returned (.tuple #[v, .agg #[.int .i64 k, .int .u64 (sN k s i M), .int .u64 i, .slice ao n c, .int .i64 (pN k p zs M)]]) ∧
      w'.ownsRow (w.heap.size + 1 + 1) 3 1 v M ((dN k s i p zs M).map (Value.int .i64)) ∧ Below w.heap.size w w' := by
  have hM1 : M ≤ 1000 := by have := HM.out; omega
  obtain ⟨i9, hi, hz0, hz1, hz2⟩ := info_parts info_int
  go_enter Try.func18, Try.ntmps18
  go_wp2
  all_goals
    go_loopw [6, 7] (fun v i' wr => ∃ j : Nat, j ≤ M ∧ i' = .int .i64 j ∧ wr.ownsRow (w.heap.size + 1 + 1) 3 1 v j ((dN k s i p zs j).map (Value.int .i64)) ∧
        At5 wr w.heap.size (.int .i64 (k)) (.int .u64 (sN k s i j)) (.int .u64 (i)) (.slice ao n c) (.int .i64 (pN k p zs j)) ∧ At5 wr (w.heap.size + 1) (.int .i64 0) (.int .u64 0) (.int .u64 0) (.slice none 0 0) (.int .i64 0) ∧ Below w.heap.size w wr) (fun _ i' _ => M - (intOf i').toNat)
    case atStart => exact ⟨0, Nat.zero_le _, rfl, World.ownsRow_nil _ _ _ _, by constructor <;> simp [go_sem, sN_zero, pN_zero], by constructor <;> simp [go_sem], by go_grown⟩
    case round =>
      obtain ⟨j, hj, rfl, own, S, Z, hbw⟩ := hrel
      by_cases hlt : j < M
      · have ht : (j : Int) < m := by have := HM.out; omega
        have ht2 : (j : Int) < 1000 := by have := HM.out; omega
        have C := fun w hz => refNext_any k (sN k s i j) i (pN k p zs j) ao n c zs (sN_bd h0 h1 j).1 (sN_bd h0 h1 j).2 i0 i1 w hz
        have hz' := hz.below hbw
        have DS : Hid (dN k s i p zs (j + 1) = dN k s i p zs j ++ [drawv k (sN k s i j) (pN k p zs j) zs]) := dN_succ k s i p zs j
        rw [← sN_succ, ← pN_succ] at C
        have ES : Hid (sN k s i (j + 1) = sN k s i (j + 1)) := rfl
        generalize drawv k (sN k s i j) (pN k p zs j) zs = x at *
        generalize hs2 : sN k s i (j + 1) = s'' at *
        generalize hp2 : pN k p zs (j + 1) = p'' at *
        have HS2 : Hid (sN k s i (j + 1) = s'') := hs2
        have HP2 : Hid (pN k p zs (j + 1) = p'') := hp2
        clear hs2 hp2 ES
        generalize sN k s i j = s' at *
        generalize pN k p zs j = p' at *
        generalize dN k s i p zs j = D at *
        obtain ⟨s0, s1, s2, s3, s4, sa, sb, sc, sd, se, sl⟩ := id S
        obtain ⟨z0, z1, z2, z3, z4, za, zb, zc, zd, ze, zl⟩ := id Z
        go_wp2_with fail
        refine (C _ hz').mono ?_
        rintro e w1 ⟨rfl, hw1⟩
        have g1 := Below.call hbw hbw.size hw1
        have own1 := own_below own hw1
        have S1 := (At5.of hw1 S).alloc (.cells #[.int .i64 k, .int .u64 s'', .int .u64 i, .slice ao n c, .int .i64 p''] 25)
        have Z1 := (At5.of hw1 Z).alloc (.cells #[.int .i64 k, .int .u64 s'', .int .u64 i, .slice ao n c, .int .i64 p''] 25)
        have T1 := At5.fresh w1 (.int .i64 k) (.int .u64 s'') (.int .u64 i) (.slice ao n c) (.int .i64 p'') 25
        have hq : w.heap.size + 1 < w1.heap.size := (At5.of hw1 Z).lt
        clear s0 s1 s2 s3 s4 sa sb sc sd se sl z0 z1 z2 z3 z4 za zb zc zd ze zl S Z
        have hsz := g1.size
        go_wp2_with (at_builtin; refine wpList_append_own _ rfl _ _ 34 rfl (w.heap.size + 1 + 1) 3 i9 (.int .i64 0) 1 8 Try.underlying34 hi hz0 hz1 hz2 rfl (by decide) _ _ _ rfl ((own1.alloc _).alloc _) ⟨w1.heap.size + 1, 0, none⟩ 1 1 [.int .i64 x] rfl rfl (one_cell (by simp [go_sem])) (ints_oneCell .i64 [x]) (by unfold maxLen; omega) (by omega) (by simp; omega) ?_; intro v' w2 hown' hgrow _; have S2 := (S1.alloc _).grown hgrow (own_far own1 (by omega)); have Z2 := (Z1.alloc _).grown hgrow (own_far own1 (by omega)); have T2 := (T1.alloc _).grown hgrow (fun e => by have := (own1.lt _ e.symm).2; omega); have g2 : Below w.heap.size w w2 := Below.grown (by go_grown) hgrow (by simp; omega) (fun k hk => Nat.le_trans (by omega) (own1.lt k hk).1); clear S1 Z1 T1 own1 hgrow g1 hw1 hbw own hsz; generalize w1.heap.size = q at *; obtain ⟨s0, s1, s2, s3, s4, sa, sb, sc, sd, se, sl⟩ := id S2; obtain ⟨t0, t1, t2, t3, t4, ta, tb, tc, td, te, tl⟩ := id T2; have own2 := own_five hown' (b := w.heap.size) (by omega) (.int .i64 k) (.int .u64 s'') (.int .u64 i) (.slice ao n c) (.int .i64 p''); have S3 := S2.put (.int .i64 k) (.int .u64 s'') (.int .u64 i) (.slice ao n c) (.int .i64 p''); have Z3 := Z2.others (c := w.heap.size) (by omega) (.int .i64 k) (.int .u64 s'') (.int .u64 i) (.slice ao n c) (.int .i64 p''))
        go_roundw
        case rel => exact ⟨j + 1, by omega, by go_num, by rw [DS.out]; simpa using own2, by rw [HS2.out, HP2.out]; exact S3, Z3, by go_grown⟩
        case measure => simp [intOf]; omega
      · obtain rfl : j = M := by omega
        rcases Int.lt_or_le (j : Int) m with ht | ht
        all_goals
          try (have ht2 : ¬ (j : Int) < 1000 := by have := HM.out; omega)
          generalize hs2 : sN k s i j = s'' at *
          generalize hp2 : pN k p zs j = p'' at *
          generalize hd2 : dN k s i p zs j = D at *
          have HS2 : Hid (sN k s i j = s'') := hs2
          have HP2 : Hid (pN k p zs j = p'') := hp2
          have HD2 : Hid (dN k s i p zs j = D) := hd2
          clear hs2 hp2 hd2
          obtain ⟨s0, s1, s2, s3, s4, sa, sb, sc, sd, se, sl⟩ := id S
          obtain ⟨z0, z1, z2, z3, z4, za, zb, zc, zd, ze, zl⟩ := id Z
          have own1 := own_five own (b := w.heap.size + 1) (by omega) (.int .i64 k) (.int .u64 s'') (.int .u64 i) (.slice ao n c) (.int .i64 p'')
          obtain ⟨r0, r1, r2, r3, r4⟩ := Z.outs (.int .i64 k) (.int .u64 s'') (.int .u64 i) (.slice ao n c) (.int .i64 p'')
          go_wp2
          go_region
          all_goals go_wp2
          all_goals exact bodyPost_ret (v := .tuple #[u6, .agg #[.int .i64 k, .int .u64 s'', .int .u64 i, .slice ao n c, .int .i64 p'']]) (by simp [results, Try.results18, go_sem, r0, r1, r2, r3, r4]) rfl ⟨u6, by rw [HS2.out, HP2.out], by rw [HD2.out]; exact own1.drew, by go_grown⟩
theorem manyN_is (m : Int) : Hid ((m ≤ 0 ∧ manyN m = 0) ∨ (0 < m ∧ m ≤ 1000 ∧ (manyN m : Int) = m) ∨ (1000 < m ∧ manyN m = 1000)) := by
  show _ ∨ _ ∨ _
  unfold manyN; omega
theorem many_any (k s i p m : Int) (ao : Option Addr) (n c : Nat) (zs : List Int) (h0 : 0 ≤ s) (h1 : s ≤ 18446744073709551615) (i0 : 0 ≤ i) (i1 : i ≤ 18446744073709551615) (w : World) (hz : Row .u64 w ao n c zs) :
    Calls Try.prog 17 #[.agg #[.int .i64 k, .int .u64 s, .int .u64 i, .slice ao n c, .int .i64 p], .int .i64 m] w fun e w' => ∃ bo d, e = .returned (.tuple #[.slice bo (manyN m) d, .agg #[.int .i64 k, .int .u64 (sN k s i (manyN m)), .int .u64 i, .slice ao n c, .int .i64 (pN k p zs (manyN m))]]) ∧
      Row .i64 w' bo (manyN m) d (dN k s i p zs (manyN m)) ∧ Below w.heap.size w w' := by
  refine (many_to k s i p m (manyN m) ao n c zs h0 h1 i0 i1 (manyN_is m) w hz).mono ?_
  rintro e w' ⟨v, rfl, own, hb⟩
  obtain ⟨bo, d, rfl, R⟩ := Row.own own (dN_wf h0 h1 _)
  exact ⟨bo, d, rfl, R, hb⟩
theorem refMany_any (k s i p m : Int) (ao : Option Addr) (n c : Nat) (zs : List Int) (h0 : 0 ≤ s) (h1 : s ≤ 18446744073709551615) (i0 : 0 ≤ i) (i1 : i ≤ 18446744073709551615) (w : World) (hz : Row .u64 w ao n c zs) :
    Calls Try.prog 18 #[.agg #[.int .i64 k, .int .u64 s, .int .u64 i, .slice ao n c, .int .i64 p], .int .i64 m] w fun e w' => ∃ bo d, e = .returned (.tuple #[.slice bo (manyN m) d, .agg #[.int .i64 k, .int .u64 (sN k s i (manyN m)), .int .u64 i, .slice ao n c, .int .i64 (pN k p zs (manyN m))]]) ∧
      Row .i64 w' bo (manyN m) d (dN k s i p zs (manyN m)) ∧ Below w.heap.size w w' := by
  refine (refMany_to k s i p m (manyN m) ao n c zs h0 h1 i0 i1 (manyN_is m) w hz).mono ?_
  rintro e w' ⟨v, rfl, own, hb⟩
  obtain ⟨bo, d, rfl, R⟩ := Row.own own (dN_wf h0 h1 _)
  exact ⟨bo, d, rfl, R, hb⟩
end Go.Proofs.Ytfpchofihofojaa
