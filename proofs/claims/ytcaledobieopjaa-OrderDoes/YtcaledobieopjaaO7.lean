/-
  The program's places: numbers that change places, in a labelled loop. No conditions but the numbers' own ranges.
-/
import Derived.Test.YtcaledobieopjaaO6
import Derived.Test.YtcaledobieopjaaQ6
import Derived.Deep.DeepCutAuto
import Derived.WalkMore
namespace Go.Proofs.Ytcaledobieopjaa
open Go.RowKit
set_option linter.unusedVariables false
theorem own_len {w : World} {base : Nat} {e : TypeId} {v : Value} {n : Nat} {L : List Int} (h : w.ownsRow base e 1 v n (L.map (Value.int .i64))) : L.length = n := by have := h.1; simpa using this
theorem own_base {w : World} {base base' : Nat} {e : TypeId} {size : Nat} {v : Value} {n : Nat} {xs : List Value} (h : w.ownsRow base e size v n xs) (hb : base' ≤ base) : w.ownsRow base' e size v n xs := by
  refine ⟨h.1, ?_⟩
  rcases h.2 with hn | ⟨g, cap, cur, rfl, hg, r⟩
  · exact .inl hn
  · exact .inr ⟨g, cap, cur, rfl, Nat.le_trans hb hg, r⟩
theorem own_swap {w : World} {base : Nat} {e : TypeId} {g n c : Nat} {L : List Int} (h : w.ownsRow base e 1 (.slice (some ⟨g, 0, none⟩) n c) n (L.map (Value.int .i64))) (a b : Nat) :
    ((w.setCell ⟨g, a, none⟩ (.int .i64 (L.getD b 0))).setCell ⟨g, b, none⟩ (.int .i64 (L.getD a 0))).ownsRow base e 1 (.slice (some ⟨g, 0, none⟩) n c) n ((swap L a b).map (Value.int .i64)) := by
  have h1 := (h.stored a (.int .i64 (L.getD b 0))).1
  have h2 := (h1.stored b (.int .i64 (L.getD a 0))).1
  rw [map_set_int, map_set_int] at h2
  exact h2
set_option maxHeartbeats 1000000 in
set_option maxRecDepth 100000 in
theorem perm_no (k s i p : Int) (ao : Option Addr) (n c : Nat) (zs : List Int) (m : Int) (hm : m < 1 ∨ 64 < m) (w : World) :
    Calls Try.prog 16 #[.agg #[.int .i64 k, .int .u64 s, .int .u64 i, .slice ao n c, .int .i64 p], .int .i64 m] w fun e w' => e = .returned (.tuple #[.slice none 0 0, .agg #[.int .i64 k, .int .u64 s, .int .u64 i, .slice ao n c, .int .i64 p]]) ∧ Below w.heap.size w w' := by
  rcases hm with hm | hm
  all_goals
    go_enter Try.func16, Try.ntmps16
    go_wp2
    go_step3
    go_wp2
    go_region
    all_goals go_wp2
    all_goals rw [Exit.noGoto_ret]
    all_goals show bodyPost Try.prog Try.f16 _ Exit.ret _ _
    all_goals go_returns
    all_goals exact ⟨rfl, by go_grown⟩
set_option maxHeartbeats 4000000 in
set_option maxRecDepth 100000 in
theorem perm_yes (k s i p : Int) (ao : Option Addr) (n c : Nat) (zs : List Int) (m : Nat) (h0 : 0 ≤ s) (h1 : s ≤ 18446744073709551615) (i0 : 0 ≤ i) (i1 : i ≤ 18446744073709551615) (m0 : 1 ≤ m) (m1 : m ≤ 64) (w : World) (hz : Row .u64 w ao n c zs) :
    Calls Try.prog 16 #[.agg #[.int .i64 k, .int .u64 s, .int .u64 i, .slice ao n c, .int .i64 p], .int .i64 m] w fun e w' => ∃ g, e = .returned (.tuple #[.slice (some ⟨g, 0, none⟩) m m, .agg #[.int .i64 k, .int .u64 (sN k s i (m - 1)), .int .u64 i, .slice ao n c, .int .i64 (pN k p zs (m - 1))]]) ∧
      w'.ownsRow w.heap.size 3 1 (.slice (some ⟨g, 0, none⟩) m m) m ((permN k s i p zs m (m - 1)).map (Value.int .i64)) ∧ Below w.heap.size w w' := by
  go_enter Try.func16, Try.ntmps16
  go_wp2
  go_step3
  go_wp2_with fail
  refine (inOrder_any m m1 _).mono ?_
  rintro e w1 ⟨rfl, own, hw1⟩
  have S : At5 w1 w.heap.size (.int .i64 k) (.int .u64 s) (.int .u64 i) (.slice ao n c) (.int .i64 p) := At5.of hw1 (by constructor <;> simp [go_sem])
  have Z : At5 w1 (w.heap.size + 1) (.int .i64 0) (.int .u64 0) (.int .u64 0) (.slice none 0 0) (.int .i64 0) := At5.of hw1 (by constructor <;> simp [go_sem])
  have hg : Below w.heap.size w w1 := Below.call (by go_grown) (by simp; omega) hw1
  clear hw1
  simp only [World.size_alloc] at own
  go_wp2
  go_step3
  go_wp2
  go_loopw [8] (fun i' wr => ∃ a j : Nat, a + j = m - 1 ∧ i' = .int .i64 a ∧ wr.ownsRow (w.heap.size + 1 + 1) 3 1 (.slice (some ⟨w.heap.size + 1 + 1, 0, none⟩) m m) m ((permN k s i p zs m j).map (Value.int .i64)) ∧
      At5 wr w.heap.size (.int .i64 k) (.int .u64 (sN k s i j)) (.int .u64 i) (.slice ao n c) (.int .i64 (pN k p zs j)) ∧ At5 wr (w.heap.size + 1) (.int .i64 0) (.int .u64 0) (.int .u64 0) (.slice none 0 0) (.int .i64 0) ∧ Below w.heap.size w wr) (fun i' _ => (intOf i').toNat)
  case atStart => exact ⟨m - 1, 0, by omega, by go_num, own, S, Z, hg⟩
  case round =>
    obtain ⟨a, j, haj, rfl, own', S', Z', hb⟩ := hrel
    clear own S Z hg
    by_cases ha : 0 < a
    · have b := sN_bd (k := k) (i := i) h0 h1 j
      have C := fun w hz => below_yes k (sN k s i j) i (pN k p zs j) ((a : Int) + 1) ao n c zs b.1 b.2 i0 i1 (by omega) (by omega) w hz
      have E : drawv k (sN k s i j) (pN k p zs j) zs % ((a : Int) + 1) = (placeN k s i p zs m j : Int) := by
        rw [show ((a : Int) + 1) = (m : Int) - j by omega]; exact placeN_eq (by omega)
      have ql : placeN k s i p zs m j ≤ a := by have := placeN_lt (k := k) (s := s) (i := i) (p := p) (zs := zs) (show j < m by omega); omega
      have PS : Hid (permN k s i p zs m (j + 1) = swap (permN k s i p zs m j) a (placeN k s i p zs m j)) := by
        show _ = _
        rw [permN_succ, show m - 1 - j = a by omega]
      rw [E, ← sN_succ, ← pN_succ] at C
      clear E b
      have hz' := hz.below hb
      generalize hs2 : sN k s i (j + 1) = s'' at *
      generalize hp2 : pN k p zs (j + 1) = p'' at *
      have HS2 : Hid (sN k s i (j + 1) = s'') := hs2
      have HP2 : Hid (pN k p zs (j + 1) = p'') := hp2
      clear hs2 hp2
      generalize placeN k s i p zs m j = q at *
      generalize permN k s i p zs m j = L at *
      generalize sN k s i j = sj at *
      generalize pN k p zs j = pj at *
      have hl := own_len own'
      obtain ⟨s0, s1, s2, s3, s4, sa, sb, sc, sd, se, sl⟩ := id S'
      go_wp2_with fail
      refine (C _ hz').mono ?_
      rintro e w1 ⟨rfl, hw1⟩
      have g1 := Below.call hb hb.size hw1
      have own1 := own_five (own_below own' hw1) (b := w.heap.size) (by omega) (.int .i64 k) (.int .u64 s'') (.int .u64 i) (.slice ao n c) (.int .i64 p'')
      have S1 := (At5.of hw1 S').put (.int .i64 k) (.int .u64 s'') (.int .u64 i) (.slice ao n c) (.int .i64 p'')
      have Z1 := (At5.of hw1 Z').others (c := w.heap.size) (by omega) (.int .i64 k) (.int .u64 s'') (.int .u64 i) (.slice ao n c) (.int .i64 p'')
      have gW : Below w.heap.size w (((((w1.setCell ⟨w.heap.size, 0, none⟩ (.int .i64 k)).setCell ⟨w.heap.size, 1, none⟩ (.int .u64 s'')).setCell ⟨w.heap.size, 2, none⟩ (.int .u64 i)).setCell ⟨w.heap.size, 3, none⟩ (.slice ao n c)).setCell ⟨w.heap.size, 4, none⟩ (.int .i64 p'')) := by go_grown
      clear s0 s1 s2 s3 s4 sa sb sc sd se sl
      obtain ⟨s0, s1, s2, s3, s4, sa, sb, sc, sd, se, sl⟩ := id (At5.of hw1 S')
      by_cases hq : q = a
      · subst hq
        rw [swap_self L q (by omega)] at PS
        go_wp2
        go_roundw
        case rel => exact ⟨q - 1, j + 1, by omega, by go_num, by rw [PS.out]; exact own1, by rw [HS2.out, HP2.out]; exact S1, Z1, gW⟩
        case measure => simp [intOf]; omega
      · have hqa : ¬ (q : Int) = a := by omega
        go_upto_region 10 with fail
        refine wp_forget (fun W => At5 W w.heap.size (.int .i64 k) (.int .u64 s'') (.int .u64 i) (.slice ao n c) (.int .i64 p'') ∧ At5 W (w.heap.size + 1) (.int .i64 0) (.int .u64 0) (.int .u64 0) (.slice none 0 0) (.int .i64 0) ∧ W.ownsRow (w.heap.size + 1 + 1) 3 1 (.slice (some ⟨w.heap.size + 1 + 1, 0, none⟩) m m) m (L.map (Value.int .i64)) ∧ Below w.heap.size w W) ⟨S1, Z1, own1, gW⟩ ?_
        clear S1 Z1 own1 gW s0 s1 s2 s3 s4 sa sb sc sd se sl hw1 g1 hb own' S' Z' hz' C
        rintro W ⟨S, Z, own, hb⟩
        have ca := own_cell own (show a < m by omega)
        have cq := own_cell own (show q < m by omega)
        have fa := own.frozenAt a
        have fq := own.frozenAt q
        have own2 := own_swap own a q
        have S2 := (S.other (a := ⟨w.heap.size + 1 + 1, a, none⟩) (by simp; omega) (.int .i64 (L.getD q 0))).other (a := ⟨w.heap.size + 1 + 1, q, none⟩) (by simp; omega) (.int .i64 (L.getD a 0))
        have Z2 := (Z.other (a := ⟨w.heap.size + 1 + 1, a, none⟩) (by simp) (.int .i64 (L.getD q 0))).other (a := ⟨w.heap.size + 1 + 1, q, none⟩) (by simp) (.int .i64 (L.getD a 0))
        rw [← PS.out] at own2
        clear PS
        generalize L.getD a 0 = xa at *
        generalize L.getD q 0 = xq at *
        have ha1 : (a : Int) < m := by omega
        have hq1 : (q : Int) < m := by omega
        go_region
        all_goals go_wp2
        all_goals exact ⟨⟨a - 1, j + 1, by omega, by go_num, own2.drew, by rw [HS2.out, HP2.out]; exact S2.drew, Z2.drew, by go_grown⟩, by simp [intOf]; omega⟩
    · obtain rfl : a = 0 := by omega
      obtain rfl : j = m - 1 := by omega
      generalize hs2 : sN k s i (m - 1) = s'' at *
      generalize hp2 : pN k p zs (m - 1) = p'' at *
      generalize hl2 : permN k s i p zs m (m - 1) = L at *
      have HS2 : Hid (sN k s i (m - 1) = s'') := hs2
      have HP2 : Hid (pN k p zs (m - 1) = p'') := hp2
      have HL2 : Hid (permN k s i p zs m (m - 1) = L) := hl2
      clear hs2 hp2 hl2
      obtain ⟨s0, s1, s2, s3, s4, sa, sb, sc, sd, se, sl⟩ := id S'
      obtain ⟨z0, z1, z2, z3, z4, za, zb, zc, zd, ze, zl⟩ := id Z'
      obtain ⟨r0, r1, r2, r3, r4⟩ := Z'.outs (.int .i64 k) (.int .u64 s'') (.int .u64 i) (.slice ao n c) (.int .i64 p'')
      have own1 := own_five own' (b := w.heap.size + 1) (by omega) (.int .i64 k) (.int .u64 s'') (.int .u64 i) (.slice ao n c) (.int .i64 p'')
      have own2 := own_base own1 (show w.heap.size ≤ w.heap.size + 1 + 1 by omega)
      go_wp2
      go_region
      all_goals go_wp2
      all_goals rw [Exit.noGoto_ret]
      all_goals show bodyPost Try.prog Try.f16 _ Exit.ret _ _
      all_goals exact bodyPost_ret (v := .tuple #[.slice (some ⟨w.heap.size + 1 + 1, 0, none⟩) m m, .agg #[.int .i64 k, .int .u64 s'', .int .u64 i, .slice ao n c, .int .i64 p'']]) (by simp [results, Try.results16, go_sem, r0, r1, r2, r3, r4]) rfl ⟨w.heap.size + 1 + 1, by rw [HS2.out, HP2.out], by rw [HL2.out]; exact own2.drew, by go_grown⟩
end Go.Proofs.Ytcaledobieopjaa
