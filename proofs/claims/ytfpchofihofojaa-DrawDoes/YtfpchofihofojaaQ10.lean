/-
  Many draws in a row, by the program and by the document. No conditions but the numbers' own ranges.
-/
import Derived.Test.YtfpchofihofojaaQ8
import Derived.Test.YtfpchofihofojaaQ9
namespace Go.Proofs.Ytfpchofihofojaa
open Go.RowKit
set_option linter.unusedVariables false
theorem own_below {w w1 : World} {base : Nat} {e : TypeId} {size : Nat} {v : Value} {n : Nat} {xs : List Value} (h : w.ownsRow base e size v n xs) (hb : Below w.heap.size w w1) : w1.ownsRow base e size v n xs := by
  refine ⟨h.1, ?_⟩
  rcases h.2 with hn | ⟨g, cap, cur, rfl, hg, hh, r⟩
  · exact .inl hn
  · exact .inr ⟨g, cap, cur, rfl, hg, by rw [hb.block g (Array.getElem?_eq_some_iff.1 hh).1]; exact hh, r⟩
theorem own_five {w : World} {base : Nat} {e : TypeId} {size : Nat} {v : Value} {n : Nat} {xs : List Value} (h : w.ownsRow base e size v n xs) {b : Nat} (hb : b < base) (y0 y1 y2 y3 y4 : Value) :
    (((((w.setCell ⟨b, 0, none⟩ y0).setCell ⟨b, 1, none⟩ y1).setCell ⟨b, 2, none⟩ y2).setCell ⟨b, 3, none⟩ y3).setCell ⟨b, 4, none⟩ y4).ownsRow base e size v n xs :=
  ownsRow_setCell_below (ownsRow_setCell_below (ownsRow_setCell_below (ownsRow_setCell_below (ownsRow_setCell_below h hb _) hb _) hb _) hb _) hb _
theorem At5.grown {w w' : World} {row : Option Nat} {b : Nat} {x0 x1 x2 x3 x4 : Value} (h : At5 w b x0 x1 x2 x3 x4) (hg : w.grownBy w' row) (hr : some b ≠ row) : At5 w' b x0 x1 x2 x3 x4 := by
  have e := hg.block b h.lt hr
  have c : ∀ o, w'.cell? ⟨b, o, none⟩ = w.cell? ⟨b, o, none⟩ := fun o => World.cell?_of_block e
  have f : ∀ o, w'.frozen? ⟨b, o, none⟩ = w.frozen? ⟨b, o, none⟩ := fun o => World.frozen?_of_block e
  exact ⟨(c 0).trans h.c0, (c 1).trans h.c1, (c 2).trans h.c2, (c 3).trans h.c3, (c 4).trans h.c4, (f 0).trans h.f0, (f 1).trans h.f1, (f 2).trans h.f2, (f 3).trans h.f3, (f 4).trans h.f4, Nat.lt_of_lt_of_le h.lt hg.size⟩
theorem own_far {w : World} {base : Nat} {e : TypeId} {size : Nat} {v : Value} {n : Nat} {xs : List Value} (h : w.ownsRow base e size v n xs) {b : Nat} (hb : b < base) : some b ≠ v.ownBlock := by
  intro e
  have := (h.lt b e.symm).1
  omega
theorem info_int : (Try.prog.info? 3).map (fun i => (i.zero, i.size, i.bytes)) = some (some (.int .i64 0), 1, 8) := by kernel_rfl
/-- How many draws a call makes. -/
def manyN (m : Int) : Nat := (min m 1000).toNat
theorem manyN_le (m : Int) : manyN m ≤ 1000 := by unfold manyN; omega
theorem one_cell {w : World} {x : Int} {a : Addr} (h : w.cell? a = some (.int .i64 x)) : ∀ j u, ([Value.int .i64 x] : List Value)[j]? = some u → w.cell? (a.add j) = some u := by
  intro j u hj
  match j, hj with
  | 0, hj => simp at hj; subst hj; simpa [Addr.add] using h
  | j + 1, hj => simp at hj

set_option maxHeartbeats 4000000 in
set_option maxRecDepth 100000 in
theorem many_to (k s i p m : Int) (M : Nat) (ao : Option Addr) (n c : Nat) (zs : List Int) (h0 : 0 ≤ s) (h1 : s ≤ 18446744073709551615) (i0 : 0 ≤ i) (i1 : i ≤ 18446744073709551615)
    (HM : Hid ((m ≤ 0 ∧ M = 0) ∨ (0 < m ∧ m ≤ 1000 ∧ (M : Int) = m) ∨ (1000 < m ∧ M = 1000))) (w : World) (hz : Row .u64 w ao n c zs) :
    Calls Try.prog 17 #[.agg #[.int .i64 k, .int .u64 s, .int .u64 i, .slice ao n c, .int .i64 p], .int .i64 m] w fun e w' => ∃ v, e = .returned (.tuple #[v, .agg #[.int .i64 k, .int .u64 (sN k s i M), .int .u64 i, .slice ao n c, .int .i64 (pN k p zs M)]]) ∧
      w'.ownsRow (w.heap.size + 1 + 1) 3 1 v M ((dN k s i p zs M).map (Value.int .i64)) ∧ Below w.heap.size w w' := by
  have hM1 : M ≤ 1000 := by have := HM.out; omega
  obtain ⟨i9, hi, hz0, hz1, hz2⟩ := info_parts info_int
  go_enter Try.func17, Try.ntmps17
  go_wp2
  all_goals
    go_loopw [6, 10] (fun v i' wr => ∃ j : Nat, j ≤ M ∧ i' = .int .i64 j ∧ wr.ownsRow (w.heap.size + 1 + 1) 3 1 v j ((dN k s i p zs j).map (Value.int .i64)) ∧
        At5 wr w.heap.size (.int .i64 (k)) (.int .u64 (sN k s i j)) (.int .u64 (i)) (.slice ao n c) (.int .i64 (pN k p zs j)) ∧ At5 wr (w.heap.size + 1) (.int .i64 0) (.int .u64 0) (.int .u64 0) (.slice none 0 0) (.int .i64 0) ∧ Below w.heap.size w wr) (fun _ i' _ => M - (intOf i').toNat)
    case atStart => exact ⟨0, Nat.zero_le _, rfl, World.ownsRow_nil _ _ _ _, by constructor <;> simp [go_sem, sN_zero, pN_zero], by constructor <;> simp [go_sem], by go_grown⟩
    case round =>
      obtain ⟨j, hj, rfl, own, S, Z, hbw⟩ := hrel
      by_cases hlt : j < M
      · have ht : (j : Int) < m := by have := HM.out; omega
        have ht2 : (j : Int) < 1000 := by have := HM.out; omega
        have C := fun w hz => next_any k (sN k s i j) i (pN k p zs j) ao n c zs (sN_bd h0 h1 j).1 (sN_bd h0 h1 j).2 i0 i1 w hz
        have hz' := hz.below hbw
        have DS : Hid (dN k s i p zs (j + 1) = dN k s i p zs j ++ [drawv k (sN k s i j) (pN k p zs j) zs]) := dN_succ k s i p zs j
        rw [← sN_succ, ← pN_succ] at C
        have ES : Hid (sN k s i (j + 1) = sN k s i (j + 1)) := rfl
        generalize drawv k (sN k s i j) (pN k p zs j) zs = x at *
        generalize hs2 : sN k s i (j + 1) = s'' at *
        generalize hp2 : pN k p zs (j + 1) = p'' at *
        have HS2 : Hid (sN k s i (j + 1) = s'') := hs2
        have HP2 : Hid (pN k p zs (j + 1) = p'') := hp2
        clear hs2 hp2 ES
        generalize sN k s i j = s' at *
        generalize pN k p zs j = p' at *
        generalize dN k s i p zs j = D at *
        obtain ⟨s0, s1, s2, s3, s4, sa, sb, sc, sd, se, sl⟩ := id S
        obtain ⟨z0, z1, z2, z3, z4, za, zb, zc, zd, ze, zl⟩ := id Z
        go_wp2_with fail
        refine (C _ hz').mono ?_
        rintro e w1 ⟨rfl, hw1⟩
        have g1 := Below.call hbw hbw.size hw1
        have own1 := own_five (own_below own hw1) (b := w.heap.size) (by omega) (.int .i64 k) (.int .u64 s'') (.int .u64 i) (.slice ao n c) (.int .i64 p'')
        have S1 := (At5.of hw1 S).put (.int .i64 k) (.int .u64 s'') (.int .u64 i) (.slice ao n c) (.int .i64 p'')
        have Z1 := (At5.of hw1 Z).others (c := w.heap.size) (by omega) (.int .i64 k) (.int .u64 s'') (.int .u64 i) (.slice ao n c) (.int .i64 p'')
        clear s0 s1 s2 s3 s4 sa sb sc sd se sl z0 z1 z2 z3 z4 za zb zc zd ze zl
        obtain ⟨s0, s1, s2, s3, s4, sa, sb, sc, sd, se, sl⟩ := id (At5.of hw1 S)
        obtain ⟨z0, z1, z2, z3, z4, za, zb, zc, zd, ze, zl⟩ := id (At5.of hw1 Z)
        clear S Z
        have hsz := g1.size
        go_wp2_with (at_builtin; refine wpList_append_own _ rfl _ _ 34 rfl (w.heap.size + 1 + 1) 3 i9 (.int .i64 0) 1 8 Try.underlying34 hi hz0 hz1 hz2 rfl (by decide) _ _ _ rfl (own1.alloc _) ⟨w1.heap.size, 0, none⟩ 1 1 [.int .i64 x] rfl rfl (one_cell (by simp [go_sem])) (ints_oneCell .i64 [x]) (by unfold maxLen; omega) (by omega) (by simp; omega) ?_; intro v' w2 hown' hgrow _)
        have S2 := (S1.alloc _).grown hgrow (own_far own1 (by omega))
        have Z2 := (Z1.alloc _).grown hgrow (own_far own1 (by omega))
        have g2 : Below w.heap.size w w2 := Below.grown (by go_grown) hgrow (by simp; omega) (fun k hk => Nat.le_trans (by omega) (own1.lt k hk).1)
        clear s0 s1 s2 s3 s4 sa sb sc sd se sl z0 z1 z2 z3 z4 za zb zc zd ze zl S1 Z1 own1 hgrow g1 hw1 hbw own
        go_wp2
        go_roundw
        case rel => exact ⟨j + 1, by omega, by go_num, by rw [DS.out]; simpa using hown', by rw [HS2.out, HP2.out]; exact S2, Z2, g2⟩
        case measure => simp [intOf]; omega
      · obtain rfl : j = M := by omega
        try (have ht : ¬ (j : Int) < m := by have := HM.out; omega)
        try (have ht2 : ¬ (j : Int) < 1000 := by have := HM.out; omega)
        generalize hs2 : sN k s i j = s'' at *
        generalize hp2 : pN k p zs j = p'' at *
        generalize hd2 : dN k s i p zs j = D at *
        have HS2 : Hid (sN k s i j = s'') := hs2
        have HP2 : Hid (pN k p zs j = p'') := hp2
        have HD2 : Hid (dN k s i p zs j = D) := hd2
        clear hs2 hp2 hd2
        obtain ⟨s0, s1, s2, s3, s4, sa, sb, sc, sd, se, sl⟩ := id S
        obtain ⟨z0, z1, z2, z3, z4, za, zb, zc, zd, ze, zl⟩ := id Z
        have own1 := own_five own (b := w.heap.size + 1) (by omega) (.int .i64 k) (.int .u64 s'') (.int .u64 i) (.slice ao n c) (.int .i64 p'')
        obtain ⟨r0, r1, r2, r3, r4⟩ := Z.outs (.int .i64 k) (.int .u64 s'') (.int .u64 i) (.slice ao n c) (.int .i64 p'')
        go_wp2
        go_region
        all_goals go_wp2
        all_goals exact bodyPost_ret (v := .tuple #[u6, .agg #[.int .i64 k, .int .u64 s'', .int .u64 i, .slice ao n c, .int .i64 p'']]) (by simp [results, Try.results17, go_sem, r0, r1, r2, r3, r4]) rfl ⟨u6, by rw [HS2.out, HP2.out], by rw [HD2.out]; exact own1.drew, by go_grown⟩
end Go.Proofs.Ytfpchofihofojaa
