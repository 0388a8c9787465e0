/-
  The document's places: numbers that change places. No conditions but the numbers' own ranges.
-/
import Derived.Test.YtcaledobieopjaaO7
import Derived.Test.YtcaledobieopjaaQ7
namespace Go.Proofs.Ytcaledobieopjaa
open Go.RowKit
set_option linter.unusedVariables false
theorem own_some {w : World} {base : Nat} {e : TypeId} {size : Nat} {v : Value} {n : Nat} {xs : List Value} (h : w.ownsRow base e size v n xs) (hn : 0 < n) : ∃ g c, v = .slice (some ⟨g, 0, none⟩) n c ∧ base ≤ g ∧ g < w.heap.size := by
  rcases h.2 with ⟨_, h0⟩ | ⟨g, cap, cur, rfl, hg, hh, r⟩
  · omega
  · exact ⟨g, cap, rfl, hg, (Array.getElem?_eq_some_iff.1 hh).1⟩
set_option maxHeartbeats 1000000 in
set_option maxRecDepth 100000 in
theorem refPerm_no (k s i p : Int) (ao : Option Addr) (n c : Nat) (zs : List Int) (m : Int) (hm : m < 1 ∨ 64 < m) (w : World) :
    Calls Try.prog 17 #[.agg #[.int .i64 k, .int .u64 s, .int .u64 i, .slice ao n c, .int .i64 p], .int .i64 m] w fun e w' => e = .returned (.tuple #[.slice none 0 0, .agg #[.int .i64 k, .int .u64 s, .int .u64 i, .slice ao n c, .int .i64 p]]) ∧ Below w.heap.size w w' := by
  rcases hm with hm | hm
  all_goals
    go_enter Try.func17, Try.ntmps17
    go_wp2
    go_region
    all_goals go_wp2
    all_goals go_returns
    all_goals exact ⟨rfl, by go_grown⟩
set_option maxHeartbeats 4000000 in
set_option maxRecDepth 100000 in
theorem refPerm_yes (k s i p : Int) (ao : Option Addr) (n c : Nat) (zs : List Int) (m : Nat) (h0 : 0 ≤ s) (h1 : s ≤ 18446744073709551615) (i0 : 0 ≤ i) (i1 : i ≤ 18446744073709551615) (m0 : 1 ≤ m) (m1 : m ≤ 64) (w : World) (hz : Row .u64 w ao n c zs) :
    Calls Try.prog 17 #[.agg #[.int .i64 k, .int .u64 s, .int .u64 i, .slice ao n c, .int .i64 p], .int .i64 m] w fun e w' => ∃ g d, e = .returned (.tuple #[.slice (some ⟨g, 0, none⟩) m d, .agg #[.int .i64 k, .int .u64 (sN k s i (m - 1)), .int .u64 i, .slice ao n c, .int .i64 (pN k p zs (m - 1))]]) ∧
      w'.ownsRow w.heap.size 3 1 (.slice (some ⟨g, 0, none⟩) m d) m ((permN k s i p zs m (m - 1)).map (Value.int .i64)) ∧ Below w.heap.size w w' := by
  obtain ⟨i9, hi, hz0, hz1, hz2⟩ := info_parts info_int
  go_enter Try.func17, Try.ntmps17
  go_wp2
  go_loopw [6, 7] (fun v i' wr => ∃ j : Nat, j ≤ m ∧ i' = .int .i64 j ∧ wr.ownsRow (w.heap.size + 1 + 1) 3 1 v j ((countup j).map (Value.int .i64)) ∧
      At5 wr w.heap.size (.int .i64 k) (.int .u64 s) (.int .u64 i) (.slice ao n c) (.int .i64 p) ∧ At5 wr (w.heap.size + 1) (.int .i64 0) (.int .u64 0) (.int .u64 0) (.slice none 0 0) (.int .i64 0) ∧ Below w.heap.size w wr) (fun _ i' _ => m - (intOf i').toNat)
  case atStart => exact ⟨0, Nat.zero_le _, rfl, World.ownsRow_nil _ _ _ _, by constructor <;> simp [go_sem], by constructor <;> simp [go_sem], by go_grown⟩
  case round =>
    obtain ⟨j, hj, rfl, own, S, Z, hb⟩ := hrel
    by_cases hlt : j < m
    · have hsz := hb.size
      go_wp2_with (at_builtin; refine wpList_append_own _ rfl _ _ 38 rfl (w.heap.size + 1 + 1) 3 i9 (.int .i64 0) 1 8 Try.underlying38 hi hz0 hz1 hz2 rfl (by decide) _ _ _ rfl (own.alloc _) ⟨wr.heap.size, 0, none⟩ 1 1 [.int .i64 j] rfl rfl (one_cell (by simp [go_sem])) (ints_oneCell .i64 [(j : Int)]) (by unfold maxLen; omega) (by omega) (by have := S.lt; have := Z.lt; simp; omega) ?_; intro v' w2 hown' hgrow _)
      have S2 := (S.alloc _).grown hgrow (own_far own (by omega))
      have Z2 := (Z.alloc _).grown hgrow (own_far own (by omega))
      have g2 : Below w.heap.size w w2 := Below.grown (by go_grown) hgrow (by simp; omega) (fun k hk => Nat.le_trans (by omega) (own.lt k hk).1)
      clear S Z own hgrow hb
      go_wp2
      go_roundw
      case rel => exact ⟨j + 1, by omega, by go_num, by rw [countup_succ]; simpa using hown', S2, Z2, g2⟩
      case measure => simp [intOf]; omega
    · obtain rfl : j = m := by omega
      obtain ⟨g, d, rfl, hg0, hg1⟩ := own_some own (by omega)
      go_wp2
      clear hlt hj
      have hb0 := hb.size
      go_loopw [8] (fun i' wr => ∃ a j' : Nat, a + j' = j - 1 ∧ i' = .int .i64 a ∧ wr.ownsRow (w.heap.size + 1 + 1) 3 1 (.slice (some ⟨g, 0, none⟩) j d) j ((permN k s i p zs j j').map (Value.int .i64)) ∧
        At5 wr w.heap.size (.int .i64 k) (.int .u64 (sN k s i j')) (.int .u64 i) (.slice ao n c) (.int .i64 (pN k p zs j')) ∧ At5 wr (w.heap.size + 1) (.int .i64 0) (.int .u64 0) (.int .u64 0) (.slice none 0 0) (.int .i64 0) ∧ Below w.heap.size w wr) (fun i' _ => (intOf i').toNat)
      case atStart => exact ⟨j - 1, 0, by omega, by go_num, own, S, Z, hb⟩
      case round =>
        obtain ⟨a, t, haj, rfl, own', S', Z', hb'⟩ := hrel
        clear own S Z hb hg1 hb0
        by_cases ha : 0 < a
        · have b := sN_bd (k := k) (i := i) h0 h1 t
          have C := fun w hz => refBelow_yes k (sN k s i t) i (pN k p zs t) ((a : Int) + 1) ao n c zs b.1 b.2 i0 i1 (by omega) (by omega) w hz
          have E : drawv k (sN k s i t) (pN k p zs t) zs % ((a : Int) + 1) = (placeN k s i p zs j t : Int) := by
            rw [show ((a : Int) + 1) = (j : Int) - t by omega]; exact placeN_eq (by omega)
          have ql : placeN k s i p zs j t ≤ a := by have := placeN_lt (k := k) (s := s) (i := i) (p := p) (zs := zs) (show t < j by omega); omega
          have PS : Hid (permN k s i p zs j (t + 1) = swap (permN k s i p zs j t) a (placeN k s i p zs j t)) := by
            show _ = _
            rw [permN_succ, show j - 1 - t = a by omega]
          rw [E, ← sN_succ, ← pN_succ] at C
          clear E b
          have hz' := hz.below hb'
          generalize hs2 : sN k s i (t + 1) = s'' at *
          generalize hp2 : pN k p zs (t + 1) = p'' at *
          have HS2 : Hid (sN k s i (t + 1) = s'') := hs2
          have HP2 : Hid (pN k p zs (t + 1) = p'') := hp2
          clear hs2 hp2
          generalize placeN k s i p zs j t = q at *
          generalize permN k s i p zs j t = L at *
          generalize sN k s i t = sj at *
          generalize pN k p zs t = pj at *
          have hl := own_len own'
          obtain ⟨s0, s1, s2, s3, s4, sa, sb, sc, sd, se, sl⟩ := id S'
          have ha1 : (1 : Int) ≤ a := by omega
          go_wp2_with fail
          refine (C _ hz').mono ?_
          rintro e w1 ⟨rfl, hw1⟩
          have g1 := Below.call hb' hb'.size hw1
          have own1 := (own_five (own_below own' hw1) (b := w.heap.size) (by omega) (.int .i64 k) (.int .u64 s'') (.int .u64 i) (.slice ao n c) (.int .i64 p'')).alloc (.cells #[.int .i64 k, .int .u64 s'', .int .u64 i, .slice ao n c, .int .i64 p''] 26)
          have S1 := ((At5.of hw1 S').put (.int .i64 k) (.int .u64 s'') (.int .u64 i) (.slice ao n c) (.int .i64 p'')).alloc (.cells #[.int .i64 k, .int .u64 s'', .int .u64 i, .slice ao n c, .int .i64 p''] 26)
          have Z1 := ((At5.of hw1 Z').others (c := w.heap.size) (by omega) (.int .i64 k) (.int .u64 s'') (.int .u64 i) (.slice ao n c) (.int .i64 p'')).alloc (.cells #[.int .i64 k, .int .u64 s'', .int .u64 i, .slice ao n c, .int .i64 p''] 26)
          have hsz := g1.size
          have gW : Below w.heap.size w ((((((w1.setCell ⟨w.heap.size, 0, none⟩ (.int .i64 k)).setCell ⟨w.heap.size, 1, none⟩ (.int .u64 s'')).setCell ⟨w.heap.size, 2, none⟩ (.int .u64 i)).setCell ⟨w.heap.size, 3, none⟩ (.slice ao n c)).setCell ⟨w.heap.size, 4, none⟩ (.int .i64 p'')).alloc (.cells #[.int .i64 k, .int .u64 s'', .int .u64 i, .slice ao n c, .int .i64 p''] 26)) := by go_grown
          clear s0 s1 s2 s3 s4 sa sb sc sd se sl
          obtain ⟨s0, s1, s2, s3, s4, sa, sb, sc, sd, se, sl⟩ := id (At5.of hw1 S')
          go_upto_region 13 with fail
          refine wp_forget (fun W => At5 W w.heap.size (.int .i64 k) (.int .u64 s'') (.int .u64 i) (.slice ao n c) (.int .i64 p'') ∧ At5 W (w.heap.size + 1) (.int .i64 0) (.int .u64 0) (.int .u64 0) (.slice none 0 0) (.int .i64 0) ∧ W.ownsRow (w.heap.size + 1 + 1) 3 1 (.slice (some ⟨g, 0, none⟩) j d) j (L.map (Value.int .i64)) ∧ Below w.heap.size w W) ⟨S1, Z1, own1, gW⟩ ?_
          clear S1 Z1 own1 gW s0 s1 s2 s3 s4 sa sb sc sd se sl hw1 g1 hb' own' S' Z' hz' C hsz
          generalize w1.heap.size = wq
          rintro W ⟨S, Z, own, hb⟩
          have ca := own_cell own (show a < j by omega)
          have cq := own_cell own (show q < j by omega)
          have fa := own.frozenAt a
          have fq := own.frozenAt q
          have own2 := own_swap own a q
          have S2 := (S.other (a := ⟨g, a, none⟩) (by simp; omega) (.int .i64 (L.getD q 0))).other (a := ⟨g, q, none⟩) (by simp; omega) (.int .i64 (L.getD a 0))
          have Z2 := (Z.other (a := ⟨g, a, none⟩) (by simp; omega) (.int .i64 (L.getD q 0))).other (a := ⟨g, q, none⟩) (by simp; omega) (.int .i64 (L.getD a 0))
          rw [← PS.out] at own2
          clear PS
          have ha2 : (a : Int) < j := by omega
          have hq1 : (q : Int) < j := by omega
          by_cases hq : q = a
          · subst hq
            generalize L.getD q 0 = xq at *
            go_wp2
            go_roundw
            case rel => exact ⟨q - 1, t + 1, by omega, by go_num, own2, by rw [HS2.out, HP2.out]; exact S2, Z2, by go_grown⟩
            case measure => simp [intOf]; omega
          · generalize L.getD a 0 = xa at *
            generalize L.getD q 0 = xq at *
            go_wp2
            go_roundw
            case rel => exact ⟨a - 1, t + 1, by omega, by go_num, own2, by rw [HS2.out, HP2.out]; exact S2, Z2, by go_grown⟩
            case measure => simp [intOf]; omega
        · obtain rfl : a = 0 := by omega
          obtain rfl : t = j - 1 := by omega
          generalize hs2 : sN k s i (j - 1) = s'' at *
          generalize hp2 : pN k p zs (j - 1) = p'' at *
          generalize hl2 : permN k s i p zs j (j - 1) = L at *
          have HS2 : Hid (sN k s i (j - 1) = s'') := hs2
          have HP2 : Hid (pN k p zs (j - 1) = p'') := hp2
          have HL2 : Hid (permN k s i p zs j (j - 1) = L) := hl2
          clear hs2 hp2 hl2
          obtain ⟨s0, s1, s2, s3, s4, sa, sb, sc, sd, se, sl⟩ := id S'
          obtain ⟨z0, z1, z2, z3, z4, za, zb, zc, zd, ze, zl⟩ := id Z'
          obtain ⟨r0, r1, r2, r3, r4⟩ := Z'.outs (.int .i64 k) (.int .u64 s'') (.int .u64 i) (.slice ao n c) (.int .i64 p'')
          have own1 := own_five own' (b := w.heap.size + 1) (by omega) (.int .i64 k) (.int .u64 s'') (.int .u64 i) (.slice ao n c) (.int .i64 p'')
          have own2 := own_base own1 (show w.heap.size ≤ w.heap.size + 1 + 1 by omega)
          go_wp2
          go_region
          all_goals go_wp2
          all_goals exact bodyPost_ret (v := .tuple #[.slice (some ⟨g, 0, none⟩) j d, .agg #[.int .i64 k, .int .u64 s'', .int .u64 i, .slice ao n c, .int .i64 p'']]) (by simp [results, Try.results17, go_sem, r0, r1, r2, r3, r4]) rfl ⟨g, d, by rw [HS2.out, HP2.out], by rw [HL2.out]; exact own2.drew, by go_grown⟩
end Go.Proofs.Ytcaledobieopjaa
