/-
  The reference's New, Put, first and without. No conditions but the row's own, and that it is short.
-/
import Derived.Test.YtoonffglkadofaaG5
import Derived.Deep.QuietTactic
import Derived.BigQuiet
namespace Go.Proofs.Ytoonffglkadofaa
open Go.RowKit
set_option linter.unusedVariables false
attribute [local go_sem] Later.cell Later.frozen
theorem Below.drewN {B : Nat} {a w : World} (h : Below B a w) (n : Nat) : Below B a (w.drewN n) := ⟨h.os, h.tape, h.output, h.size, h.block⟩
/-- A row of events in memory, as it is read. -/
structure Evs (w : World) (ao : Option Addr) (n c : Nat) (f : Nat → Ev) : Prop where
  cap : n ≤ c
  max : c ≤ maxLen
  at' : 0 < n → ∃ b o, ao = some ⟨b, o, none⟩ ∧ b < w.heap.size ∧ ∀ i, i < n → w.cell? ⟨b, o + i * 4, none⟩ = some (.int .i64 (f i).a) ∧ w.cell? ⟨b, o + i * 4 + 1, none⟩ = some (.int .i64 (f i).k) ∧ w.cell? ⟨b, o + i * 4 + 2, none⟩ = some (.int .i64 (f i).o) ∧ w.cell? ⟨b, o + i * 4 + 3, none⟩ = some (.int .u64 (f i).s)
theorem Evs.below {w w1 : World} {ao : Option Addr} {n c : Nat} {f : Nat → Ev} (h : Evs w ao n c f) (hb : Below w.heap.size w w1) : Evs w1 ao n c f := by
  refine ⟨h.cap, h.max, fun hn => ?_⟩
  obtain ⟨b, o, e, hl, hc⟩ := h.at' hn
  refine ⟨b, o, e, Nat.lt_of_lt_of_le hl hb.size, fun i hi => ?_⟩
  obtain ⟨c0, c1, c2, c3⟩ := hc i hi
  exact ⟨(hb.cell (p := ⟨b, _, none⟩) hl).trans c0, (hb.cell (p := ⟨b, _, none⟩) hl).trans c1, (hb.cell (p := ⟨b, _, none⟩) hl).trans c2, (hb.cell (p := ⟨b, _, none⟩) hl).trans c3⟩
theorem Evs.own {w : World} {base : Nat} {ao : Option Addr} {n c : Nat} {L : List Ev} (h : w.ownsRow base 32 4 (.slice ao n c) n (ecs L)) : Evs w ao n c (evp L) := by
  rcases h.2 with ⟨e, rfl⟩ | ⟨g, cap, cur, e, hb, hg, h1, h2, h3, h4⟩
  · simp only [Value.slice.injEq] at e
    obtain ⟨rfl, _, rfl⟩ := e
    exact ⟨Nat.le_refl _, by unfold maxLen; omega, fun h => absurd h (Nat.lt_irrefl _)⟩
  · simp only [Value.slice.injEq, true_and] at e
    obtain ⟨rfl, rfl⟩ := e
    refine ⟨h1, h2, fun _ => ⟨g, 0, rfl, (Array.getElem?_eq_some_iff.1 hg).1, fun i hi => ?_⟩⟩
    simp only [Nat.zero_add]
    exact own_ev h hi
/-- What lies behind a place. -/
theorem Evs.drop {w : World} {b o n c : Nat} {f : Nat → Ev} (h : Evs w (some ⟨b, o, none⟩) n c f) {m : Nat} (hm : m ≤ n) : Evs w (some ⟨b, o + m * 4, none⟩) (n - m) (c - m) (fun i => f (m + i)) := by
  have := h.cap; have hx := h.max
  refine ⟨by omega, by omega, fun hn => ?_⟩
  obtain ⟨b', o', e, hl, hc⟩ := h.at' (by omega)
  simp only [Option.some.injEq, Addr.mk.injEq, and_true] at e
  obtain ⟨rfl, rfl⟩ := e
  refine ⟨b, o + m * 4, rfl, hl, fun i hi => ?_⟩
  have := hc (m + i) (by omega)
  rw [show o + m * 4 + i * 4 = o + (m + i) * 4 by omega]
  exact this
/-- The reference's agenda: its block and its row. -/
structure Rg (w : World) (mb base : Nat) (m : Int) (v : Value) (n : Nat) (l : List Ev) : Prop where
  c0 : w.cell? ⟨mb, 0, none⟩ = some (.int .i64 m)
  c1 : w.cell? ⟨mb, 1, none⟩ = some v
  f1 : w.frozen? ⟨mb, 1, none⟩ = false
  own : w.ownsRow base 32 4 v n (ecs l)
  lt : mb < w.heap.size
  bb : mb < base
  bs : base ≤ w.heap.size
theorem Rg.len {w : World} {mb base : Nat} {m : Int} {v : Value} {n : Nat} {l : List Ev} (h : Rg w mb base m v n l) : l.length = n := own_elen h.own
theorem Rg.far {w w1 : World} {mb base : Nat} {m : Int} {v : Value} {n : Nat} {l : List Ev} {S : List Nat} (h : Rg w mb base m v n l) (k : Far S w w1) (h1 : mb ∉ S) (h2 : ∀ g, v.ownBlock = some g → g ∉ S) : Rg w1 mb base m v n l := by
  have e := k.block mb h.lt h1
  exact ⟨(World.cell?_of_block (a := ⟨mb, 0, none⟩) e).trans h.c0, (World.cell?_of_block (a := ⟨mb, 1, none⟩) e).trans h.c1, (World.frozen?_of_block (a := ⟨mb, 1, none⟩) e).trans h.f1, k.own h.own h2, Nat.lt_of_lt_of_le h.lt k.size, h.bb, Nat.le_trans h.bs k.size⟩
theorem Rg.below {w w1 : World} {mb base : Nat} {m : Int} {v : Value} {n : Nat} {l : List Ev} (h : Rg w mb base m v n l) (k : Below w.heap.size w w1) : Rg w1 mb base m v n l := h.far (Far.of_below k) (by simp) (by simp)
theorem Rg.alloc {w : World} {mb base : Nat} {m : Int} {v : Value} {n : Nat} {l : List Ev} (h : Rg w mb base m v n l) (o : Obj) : Rg (w.alloc o) mb base m v n l := h.below ((Below.refl _ _).alloc (Nat.le_refl _) o)
theorem Rg.drew {w : World} {mb base : Nat} {m : Int} {v : Value} {n : Nat} {l : List Ev} (h : Rg w mb base m v n l) : Rg w.drew mb base m v n l := h.below (Below.refl _ _).drew
/-- Another row put in its cell. -/
theorem Rg.stored {w w1 : World} {mb base : Nat} {m : Int} {v u : Value} {n n1 : Nat} {l l1 : List Ev} {row : Option Nat} (h : Rg w mb base m v n l) (k : w.grownBy w1 row) (hr : row ≠ some mb) (own : w1.ownsRow base 32 4 u n1 (ecs l1)) : Rg (w1.setCell ⟨mb, 1, none⟩ u) mb base m u n1 l1 := by
  have e := k.block mb h.lt (fun e => hr e.symm)
  exact ⟨(World.cell?_setCell_other w1 _ ⟨mb, 0, none⟩ _ (by simp)).trans ((World.cell?_of_block (a := ⟨mb, 0, none⟩) e).trans h.c0), World.cell?_setCell_same w1 _ _ ((World.cell?_of_block (a := ⟨mb, 1, none⟩) e).trans h.c1),
    (World.frozen?_setCell _ _ _ _).trans ((World.frozen?_of_block (a := ⟨mb, 1, none⟩) e).trans h.f1), ownsRow_setCell_below own h.bb _, by rw [World.size_setCell]; exact Nat.lt_of_lt_of_le h.lt k.size, h.bb, by rw [World.size_setCell]; exact Nat.le_trans h.bs k.size⟩
set_option maxRecDepth 100000 in
theorem rnew_no (m : Int) (hm : m < 1 ∨ 65536 < m) (w : World) : Calls Try.prog 8 #[.int .i64 m] w fun e w' => e = .returned (.tuple #[.pointer none, .int .i64 1]) ∧ Below w.heap.size w w' := by
  by_cases h1 : m < 1
  · go_enter Try.func8, Try.ntmps8
    go_wp2
    go_ret2
    exact ⟨rfl, Below.refl _ _⟩
  · have h2 : 65536 < m := by omega
    go_enter Try.func8, Try.ntmps8
    go_wp2
    go_ret2
    exact ⟨rfl, Below.refl _ _⟩
set_option maxRecDepth 100000 in
theorem rnew_yes (m : Int) (h1 : 1 ≤ m) (h2 : m ≤ 65536) (w : World) : Calls Try.prog 8 #[.int .i64 m] w fun e w' => e = .returned (.tuple #[.pointer (some ⟨w.heap.size, 0, none⟩), .int .i64 0]) ∧
    w'.heap.size = w.heap.size + 1 ∧ Rg w' w.heap.size (w.heap.size + 1) m (.slice none 0 0) 0 [] ∧ Below w.heap.size w w' := by
  go_enter Try.func8, Try.ntmps8
  go_wp2
  go_ret2
  exact ⟨rfl, by simp, ⟨by simp [go_sem], by simp [go_sem], by simp [go_sem], World.ownsRow_nil _ _ _ _, by simp, by omega, by simp⟩, by go_grown⟩
set_option maxHeartbeats 1000000 in
set_option maxRecDepth 100000 in
theorem rput_full (mb base : Nat) (m : Int) (v : Value) (n : Nat) (l : List Ev) (x : Ev) (hn : n ≤ 100000) (hm : m ≤ n) (w : World) (A : Rg w mb base m v n l) :
    Calls Try.prog 10 #[.pointer (some ⟨mb, 0, none⟩), .agg #[.int .i64 x.a, .int .i64 x.k, .int .i64 x.o, .int .u64 x.s]] w fun e w' => e = .returned (.int .i64 2) ∧ Below w.heap.size w w' := by
  obtain ⟨ao, c, rfl⟩ := own_slice A.own
  have c0 := A.c0
  have c1 := A.c1
  have lt := A.lt
  go_enter Try.func10, Try.ntmps10
  go_wp2_with fail
  go_quiet (fail)
  all_goals go_wp2
  all_goals go_ret
  all_goals exact ⟨rfl, by exact Below.drewN (by go_grown) _⟩
section
attribute [local go_sem ↓] append_shut
set_option maxHeartbeats 2000000 in
set_option maxRecDepth 100000 in
theorem rput_room (mb base : Nat) (m : Int) (ao : Option Addr) (n c : Nat) (l : List Ev) (x : Ev) (hn : n ≤ 1000) (hm : (n : Int) < m) (w : World) (A : Rg w mb base m (.slice ao n c) n l) :
    Calls Try.prog 10 #[.pointer (some ⟨mb, 0, none⟩), .agg #[.int .i64 x.a, .int .i64 x.k, .int .i64 x.o, .int .u64 x.s]] w fun e w' => e = .returned (.int .i64 0) ∧
      ∃ ao' c', Rg w' mb base m (.slice ao' (n + 1) c') (n + 1) (l ++ [x]) ∧ (∀ g, (Value.slice ao' (n + 1) c').ownBlock = some g → (Value.slice ao n c).ownBlock = some g ∨ w.heap.size ≤ g) ∧ Far (mb :: (Value.slice ao n c).ownBlock.toList) w w' := by
  have c0 := A.c0
  have c1 := A.c1
  have lt := A.lt
  go_enter Try.func10, Try.ntmps10
  go_wp2_with fail
  go_quiet (fail)
  all_goals go_upto_region 3 with fail
  refine wp_forget (fun W => Rg W mb base m (.slice ao n c) n l ∧ At4 W w.heap.size (.int .i64 x.a) (.int .i64 x.k) (.int .i64 x.o) (.int .u64 x.s) ∧ Below w.heap.size w W) ⟨(A.alloc _).below (Below.drewN (Below.refl _ _) _), At4.drewN (At4.fresh _ _ _ _ _ _) _, Below.drewN (by go_grown) _⟩ ?_
  clear c0 c1 A
  rintro W ⟨A, X, hB⟩
  have X2 := At4.fresh W (.int .i64 x.a) (.int .i64 x.k) (.int .i64 x.o) (.int .u64 x.s) 32
  have A2 := (A.alloc (.cells #[.int .i64 x.a, .int .i64 x.k, .int .i64 x.o, .int .u64 x.s] 32)).drew
  obtain ⟨ao', c', w1, hr, own3, hg, hv⟩ := eapp_run (w := (W.alloc (.cells #[.int .i64 x.a, .int .i64 x.k, .int .i64 x.o, .int .u64 x.s] 32)).drew) 40 A2.own A2.bs hn (x := x) X2.drew
  have far : some mb ≠ (Value.slice ao n c).ownBlock := own_far A2.own A2.bb
  have A3 := A2.stored hg (fun e => far e.symm) own3
  have hbl := hg.block mb A2.lt far
  have k0 : w1.cell? ⟨mb, 1, none⟩ = some (.slice ao n c) := (World.cell?_of_block (a := ⟨mb, 1, none⟩) hbl).trans A2.c1
  have k1 : w1.frozen? ⟨mb, 1, none⟩ = false := (World.frozen?_of_block (a := ⟨mb, 1, none⟩) hbl).trans A2.f1
  have F3 : Far (mb :: (Value.slice ao n c).ownBlock.toList) w (w1.setCell ⟨mb, 1, none⟩ (.slice ao' (n + 1) c')) :=
    Far.setCell (((((Far.of_below hB).mono (by simp)).alloc _).drew).trans ((Far.of_grown hg).mono (fun k hk => by simp [hk]))) (.inr (by simp)) _ _
  have B3 : ∀ g, (Value.slice ao' (n + 1) c').ownBlock = some g → (Value.slice ao n c).ownBlock = some g ∨ w.heap.size ≤ g := fun g hg => (hv g hg).imp id (fun h => by have := hB.size; simp at h; omega)
  have c0 := A.c0
  have c1 := A.c1
  have lt2 := A.lt
  obtain ⟨x0, x1, x2, x3, _, _, _, _, xl⟩ := id X
  clear A A2 X X2 hB far hbl own3 hg hv
  go_wp2_with fail
  go_region
  all_goals go_wp2_with fail
  all_goals go_ret
  all_goals exact ⟨rfl, ao', c', A3, B3, F3⟩
end
set_option maxHeartbeats 2000000 in
set_option maxRecDepth 100000 in
theorem first_any (ao : Option Addr) (n c : Nat) (l : List Ev) (hn : n ≤ 100000) (w : World) (E : Evs w ao n c (evp l)) :
    Calls Try.prog 23 #[.slice ao n c] w fun e w' => e = .returned (.int .i64 (fi l n)) ∧ Below w.heap.size w w' := by
  go_enter Try.func23, Try.ntmps23
  go_wp2
  go_loopw [3, 4] (fun v3 v4 wr => ∃ i : Nat, i ≤ n ∧ v3 = .int .i64 (fi l i) ∧ v4 = .int .i64 i ∧ Below w.heap.size w wr) (fun _ v4 _ => n - (intOf v4).toNat)
  case atStart => exact ⟨0, Nat.zero_le _, rfl, rfl, Below.refl _ _⟩
  case round =>
    obtain ⟨i, hi, rfl, rfl, hB⟩ := hrel
    by_cases hin : i < n
    · have hin2 : (i : Int) < n := by omega
      have hf : Hid (fi l (i + 1) = if fi l i < 0 ∨ (evp l i).a < (evp l (fi l i).toNat).a then (i : Int) else fi l i) := rfl
      by_cases h0 : i = 0
      · subst h0
        have hf2 : Hid (fi l (0 + 1) = 0) := by show _ = _; rw [hf.out]; rfl
        have h0 : Hid (fi l 0 = -1) := rfl
        have h1 : fi l 0 < 0 := by rw [h0.out]; omega
        generalize fi l 0 = q at *
        clear hf
        go_wp2
        go_quiet (fail)
        all_goals go_wp2
        all_goals go_roundw
        case rel => exact ⟨1, by omega, by rw [show fi l 1 = 0 from hf2.out]; rfl, by go_num, Below.drewN hB _⟩
        case measure => simp [intOf]; omega
      · obtain ⟨k, hk, e, _⟩ := fi_spec l i (by omega)
        rw [e] at hf
        rw [e]
        obtain ⟨b, o, rfl, _, hc⟩ := (E.below hB).at' (by omega)
        obtain ⟨a0, _, _, _⟩ := hc i hin
        obtain ⟨b0, _, _, _⟩ := hc k (by omega)
        have hcap := E.cap
        have hmax := E.max
        have hmx : maxLen = 9223372036854775807 := rfl
        clear hc e
        have hf2 : Hid (fi l (i + 1) = if (evp l i).a < (evp l k).a then (i : Int) else k) := by
          show _ = _
          rw [hf.out]
          simp only [Int.toNat_natCast, show ¬ ((k : Int) < 0) by omega, false_or]
        clear hf
        generalize (evp l i).a = x at *
        generalize (evp l k).a = y at *
        have hk2 : (k : Int) < n := by omega
        by_cases hxy : x < y
        · rw [if_pos hxy] at hf2
          go_wp2
          go_quiet (fail)
          all_goals go_wp2
          all_goals go_roundw
          case rel => exact ⟨i + 1, by omega, by rw [hf2.out], by go_num, Below.drewN hB _⟩
          case measure => simp [intOf]; omega
        · rw [if_neg hxy] at hf2
          go_wp2
          go_quiet (fail)
          all_goals go_wp2
          all_goals go_roundw
          case rel => exact ⟨i + 1, by omega, by rw [hf2.out], by go_num, Below.drewN hB _⟩
          case measure => simp [intOf]; omega
    · obtain rfl : i = n := by omega
      go_wp2
      go_ret
      exact ⟨rfl, hB⟩
end Go.Proofs.Ytoonffglkadofaa
