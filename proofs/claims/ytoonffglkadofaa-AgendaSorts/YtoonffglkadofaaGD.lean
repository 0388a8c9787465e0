/-
  The reference's Peek, Next and All; two rows that are the same are told to be so. No conditions but the row's own, and that it is short.
-/
import Derived.Test.YtoonffglkadofaaGC
namespace Go.Proofs.Ytoonffglkadofaa
open Go.RowKit
set_option linter.unusedVariables false
attribute [local go_sem] Later.cell Later.frozen
set_option maxHeartbeats 1600000 in
set_option maxRecDepth 100000 in
theorem same_any (ao bo : Option Addr) (n c d : Nat) (f : Nat → Ev) (w : World) (ha : Evs w ao n c f) (hb : Evs w bo n d f) :
    Calls Try.prog 17 #[.slice ao n c, .slice bo n d] w fun e w' => e = .returned (.bool true) ∧ Below w.heap.size w w' := by
  have hn : (n : Int) ≤ 9223372036854775807 := by have := ha.cap; have := ha.max; unfold maxLen at this; omega
  go_enter Try.func17, Try.ntmps17
  go_wp2
  go_loopw [5] (fun i' wr => ∃ j : Nat, j ≤ n ∧ i' = .int .i64 j ∧ Below w.heap.size w wr) (fun i' _ => n - (intOf i').toNat)
  case atStart => exact ⟨0, Nat.zero_le _, rfl, Below.refl _ _⟩
  case round =>
    obtain ⟨j, hj, rfl, hbw⟩ := hrel
    by_cases hlt : j < n
    · obtain ⟨b1, o1, rfl, _, hc1⟩ := (ha.below hbw).at' (by omega)
      obtain ⟨b2, o2, rfl, _, hc2⟩ := (hb.below hbw).at' (by omega)
      obtain ⟨l1, l2, l3, l4⟩ := hc1 j hlt
      obtain ⟨m1, m2, m3, m4⟩ := hc2 j hlt
      clear hc1 hc2 ha hb
      generalize (f j).a = x at *
      generalize (f j).k = y at *
      generalize (f j).o = z at *
      generalize (f j).s = u at *
      go_wp2
      go_quiet (fail)
      all_goals go_wp2
      exact ⟨⟨j + 1, by omega, by go_num, Below.drewN hbw _⟩, by simp [intOf]; omega⟩
    · go_wp2
      go_ret
      exact ⟨rfl, hbw⟩
theorem Rg.evs {w : World} {mb base : Nat} {m : Int} {ao : Option Addr} {n c : Nat} {l : List Ev} (h : Rg w mb base m (.slice ao n c) n l) : Evs w ao n c (evp l) := Evs.own h.own
set_option maxHeartbeats 2000000 in
set_option maxRecDepth 100000 in
theorem rpeek_any (mb base : Nat) (m : Int) (v : Value) (n : Nat) (l : List Ev) (hn : n ≤ 100000) (w : World) (A : Rg w mb base m v n l) :
    Calls Try.prog 14 #[.pointer (some ⟨mb, 0, none⟩)] w fun e w' => e = .returned (.tuple #[.agg #[.int .i64 ((pke l)).a, .int .i64 ((pke l)).k, .int .i64 ((pke l)).o, .int .u64 ((pke l)).s], .bool (pkb l)]) ∧ Below w.heap.size w w' := by
  have hl := A.len
  obtain ⟨ao, c, rfl⟩ := own_slice A.own
  have FI := fun w E => first_any ao n c l hn w E
  have c1 := A.c1
  have lt := A.lt
  by_cases h0 : 0 < n
  · have hk : Hid (pke l = me l 0) := by show _ = _; unfold pke; rw [hl, if_pos h0]
    have hb : Hid (pkb l = true) := by show _ = _; unfold pkb; rw [hl]; exact decide_eq_true h0
    obtain ⟨k1, k2, _⟩ := mi_spec (l := l) (by omega)
    rw [hl] at k1 k2
    rw [k2] at FI
    obtain ⟨g, o, rfl, hg, hc⟩ := A.evs.at' h0
    obtain ⟨a0, a1, a2, a3⟩ := hc (mi l) k1
    have hx : Hid (me l 0 = evp l (mi l)) := rfl
    have hcap := A.evs.cap
    have hmax := A.evs.max
    have hmx : maxLen = 9223372036854775807 := rfl
    have E := A.evs
    clear k2 hc
    have k3 : (mi l : Int) < n := by omega
    generalize evp l (mi l) = x at *
    generalize mi l = k at *
    go_enter Try.func14, Try.ntmps14
    go_wp2_with fail
    refine (FI _ (A.alloc _).evs).mono ?_
    rintro e w1 ⟨rfl, hw1⟩
    have R1 : At4 w1 w.heap.size (.int .i64 0) (.int .i64 0) (.int .i64 0) (.int .u64 0) := At4.of hw1 (by constructor <;> simp [go_sem])
    have hB : Below w.heap.size w w1 := Below.call (by go_grown) (by simp <;> omega) hw1
    replace a0 := (hB.cell (p := ⟨g, _, none⟩) hg).trans a0
    replace a1 := (hB.cell (p := ⟨g, _, none⟩) hg).trans a1
    replace a2 := (hB.cell (p := ⟨g, _, none⟩) hg).trans a2
    replace a3 := (hB.cell (p := ⟨g, _, none⟩) hg).trans a3
    replace c1 := (hB.cell (p := ⟨mb, 1, none⟩) lt).trans c1
    clear hw1 FI A E
    have l1 := R1.lt
    obtain ⟨r0, r1, r2, r3⟩ := R1.outs (.int .i64 x.a) (.int .i64 x.k) (.int .i64 x.o) (.int .u64 x.s)
    obtain ⟨s0, s1, s2, s3, sa, sb, sc, sd, sl⟩ := id R1
    go_wp2_with (exact bodyPost_ret (v := .tuple #[.agg #[.int .i64 x.a, .int .i64 x.k, .int .i64 x.o, .int .u64 x.s], .bool true]) (by simp [results, Try.results14, go_sem, r0, r1, r2, r3]) rfl ⟨by rw [hk.out, hb.out, hx.out], by go_grown⟩)
  · obtain rfl : n = 0 := by omega
    have hk : Hid (pke l = ⟨0, 0, 0, 0⟩) := by show _ = _; unfold pke; rw [hl]; rfl
    have hb : Hid (pkb l = false) := by show _ = _; unfold pkb; rw [hl]; rfl
    have f0 : fi l 0 = -1 := rfl
    rw [f0] at FI
    clear f0
    go_enter Try.func14, Try.ntmps14
    go_wp2_with fail
    refine (FI _ (A.alloc _).evs).mono ?_
    rintro e w1 ⟨rfl, hw1⟩
    have R1 : At4 w1 w.heap.size (.int .i64 0) (.int .i64 0) (.int .i64 0) (.int .u64 0) := At4.of hw1 (by constructor <;> simp [go_sem])
    have hB : Below w.heap.size w w1 := Below.call (by go_grown) (by simp <;> omega) hw1
    clear hw1 FI A
    have l1 := R1.lt
    obtain ⟨r0, r1, r2, r3⟩ := R1.outs (.int .i64 0) (.int .i64 0) (.int .i64 0) (.int .u64 0)
    obtain ⟨s0, s1, s2, s3, sa, sb, sc, sd, sl⟩ := id R1
    go_wp2_with (exact bodyPost_ret (v := .tuple #[.agg #[.int .i64 0, .int .i64 0, .int .i64 0, .int .u64 0], .bool false]) (by simp [results, Try.results14, go_sem, r0, r1, r2, r3]) rfl ⟨by rw [hk.out, hb.out], by go_grown⟩)
set_option maxHeartbeats 2000000 in
set_option maxRecDepth 100000 in
theorem rnext_no (mb base : Nat) (m : Int) (v : Value) (n : Nat) (l : List Ev) (t : Int) (hn : n ≤ 100000) (hx : nxb l t = false) (w : World) (A : Rg w mb base m v n l) :
    Calls Try.prog 12 #[.pointer (some ⟨mb, 0, none⟩), .int .i64 t] w fun e w' => e = .returned (.tuple #[.agg #[.int .i64 0, .int .i64 0, .int .i64 0, .int .u64 0], .bool false]) ∧ Below w.heap.size w w' := by
  have hl := A.len
  obtain ⟨ao, c, rfl⟩ := own_slice A.own
  have FI := fun w E => first_any ao n c l hn w E
  have c1 := A.c1
  have lt := A.lt
  by_cases h0 : 0 < n
  · obtain ⟨k1, k2, _⟩ := mi_spec (l := l) (by omega)
    rw [hl] at k1 k2
    rw [k2] at FI
    obtain ⟨g, o, rfl, hg, hc⟩ := A.evs.at' h0
    obtain ⟨a0, a1, a2, a3⟩ := hc (mi l) k1
    have ht : t < (evp l (mi l)).a := by
      unfold nxb at hx
      rw [decide_eq_true (by omega : 0 < l.length), Bool.true_and, decide_eq_false_iff_not] at hx
      have : me l 0 = evp l (mi l) := rfl
      rw [this] at hx
      omega
    have hcap := A.evs.cap
    have hmax := A.evs.max
    have hmx : maxLen = 9223372036854775807 := rfl
    clear k2 hc a1 a2 a3 hx
    have k3 : (mi l : Int) < n := by omega
    generalize evp l (mi l) = x at *
    generalize mi l = k at *
    go_enter Try.func12, Try.ntmps12
    go_wp2_with fail
    refine (FI _ (A.alloc _).evs).mono ?_
    rintro e w1 ⟨rfl, hw1⟩
    have R1 : At4 w1 w.heap.size (.int .i64 0) (.int .i64 0) (.int .i64 0) (.int .u64 0) := At4.of hw1 (by constructor <;> simp [go_sem])
    have hB : Below w.heap.size w w1 := Below.call (by go_grown) (by simp <;> omega) hw1
    replace a0 := (hB.cell (p := ⟨g, _, none⟩) hg).trans a0
    replace c1 := (hB.cell (p := ⟨mb, 1, none⟩) lt).trans c1
    clear hw1 FI A
    have l1 := R1.lt
    obtain ⟨r0, r1, r2, r3⟩ := R1.outs (.int .i64 0) (.int .i64 0) (.int .i64 0) (.int .u64 0)
    obtain ⟨s0, s1, s2, s3, sa, sb, sc, sd, sl⟩ := id R1
    go_wp2_with (exact bodyPost_ret (v := .tuple #[.agg #[.int .i64 0, .int .i64 0, .int .i64 0, .int .u64 0], .bool false]) (by simp [results, Try.results12, go_sem, r0, r1, r2, r3]) rfl ⟨rfl, by go_grown⟩)
  · obtain rfl : n = 0 := by omega
    have f0 : fi l 0 = -1 := rfl
    rw [f0] at FI
    clear f0 hx
    go_enter Try.func12, Try.ntmps12
    go_wp2_with fail
    refine (FI _ (A.alloc _).evs).mono ?_
    rintro e w1 ⟨rfl, hw1⟩
    have R1 : At4 w1 w.heap.size (.int .i64 0) (.int .i64 0) (.int .i64 0) (.int .u64 0) := At4.of hw1 (by constructor <;> simp [go_sem])
    have hB : Below w.heap.size w w1 := Below.call (by go_grown) (by simp <;> omega) hw1
    clear hw1 FI A
    have l1 := R1.lt
    obtain ⟨r0, r1, r2, r3⟩ := R1.outs (.int .i64 0) (.int .i64 0) (.int .i64 0) (.int .u64 0)
    obtain ⟨s0, s1, s2, s3, sa, sb, sc, sd, sl⟩ := id R1
    go_wp2_with (exact bodyPost_ret (v := .tuple #[.agg #[.int .i64 0, .int .i64 0, .int .i64 0, .int .u64 0], .bool false]) (by simp [results, Try.results12, go_sem, r0, r1, r2, r3]) rfl ⟨rfl, by go_grown⟩)
set_option maxHeartbeats 4000000 in
set_option maxRecDepth 100000 in
theorem rnext_yes (mb base : Nat) (m : Int) (v : Value) (n : Nat) (l : List Ev) (t : Int) (hn : n ≤ 1000) (hx : nxb l t = true) (w : World) (A : Rg w mb base m v n l) :
    Calls Try.prog 12 #[.pointer (some ⟨mb, 0, none⟩), .int .i64 t] w fun e w' => e = .returned (.tuple #[.agg #[.int .i64 ((me l 0)).a, .int .i64 ((me l 0)).k, .int .i64 ((me l 0)).o, .int .u64 ((me l 0)).s], .bool true]) ∧
      ∃ ao' c', Rg w' mb base m (.slice ao' (n - 1) c') (n - 1) (l.eraseIdx (mi l)) ∧ (∀ g, (Value.slice ao' (n - 1) c').ownBlock = some g → w.heap.size ≤ g) ∧ Far [mb] w w' := by
  have hl := A.len
  obtain ⟨ao, c, rfl⟩ := own_slice A.own
  have FI := fun w E => first_any ao n c l (by omega) w E
  have c1 := A.c1
  have lt := A.lt
  have hx' : 0 < n ∧ (me l 0).a ≤ t := by
    unfold nxb at hx
    rw [Bool.and_eq_true, decide_eq_true_iff, decide_eq_true_iff, hl] at hx
    exact hx
  obtain ⟨h0, ht⟩ := hx'
  obtain ⟨k1, k2, _⟩ := mi_spec (l := l) (by omega)
  rw [hl] at k1 k2
  rw [k2] at FI
  obtain ⟨g, o, rfl, hg, hc⟩ := A.evs.at' h0
  obtain ⟨a0, a1, a2, a3⟩ := hc (mi l) k1
  have hxx : Hid (me l 0 = evp l (mi l)) := rfl
  rw [hxx.out] at ht
  have hcap := A.evs.cap
  have hmax := A.evs.max
  have hmx : maxLen = 9223372036854775807 := rfl
  have WI := fun w E => without_any (some ⟨g, o, none⟩) n c (mi l) l hl hn (by omega) w E
  have hel : (l.eraseIdx (mi l)).length = n - 1 := by rw [List.length_eraseIdx, if_pos (by omega)]; omega
  clear k2 hc hx
  have k3 : (mi l : Int) < n := by omega
  generalize evp l (mi l) = x at *
  obtain ⟨k, hk⟩ : ∃ k, Hid (mi l = k) := ⟨_, rfl⟩
  rw [hk.out] at FI WI k1 k3 a0 a1 a2 a3 hel
  go_enter Try.func12, Try.ntmps12
  go_wp2_with fail
  refine (FI _ (A.alloc _).evs).mono ?_
  rintro e w1 ⟨rfl, hw1⟩
  have R1 : At4 w1 w.heap.size (.int .i64 0) (.int .i64 0) (.int .i64 0) (.int .u64 0) := At4.of hw1 (by constructor <;> simp [go_sem])
  have hB : Below w.heap.size w w1 := Below.call (by go_grown) (by simp <;> omega) hw1
  replace a0 := (hB.cell (p := ⟨g, _, none⟩) hg).trans a0
  replace a1 := (hB.cell (p := ⟨g, _, none⟩) hg).trans a1
  replace a2 := (hB.cell (p := ⟨g, _, none⟩) hg).trans a2
  replace a3 := (hB.cell (p := ⟨g, _, none⟩) hg).trans a3
  replace c1 := (hB.cell (p := ⟨mb, 1, none⟩) lt).trans c1
  replace A := A.below hB
  clear hw1 FI
  have hs1 := hB.size
  have l1 := R1.lt
  have lt1 := A.lt
  go_wp2_with fail
  refine (WI _ (A.alloc _).evs).mono ?_
  rintro e w2 ⟨⟨ao', n', c', rfl, own2⟩, hw2⟩
  obtain rfl : n' = n - 1 := by rw [← own_elen own2]; exact hel
  have A2 := (A.alloc (.cells #[.int .i64 x.a, .int .i64 x.k, .int .i64 x.o, .int .u64 x.s] 32)).below hw2
  have R2 := At4.of hw2 (R1.alloc (.cells #[.int .i64 x.a, .int .i64 x.k, .int .i64 x.o, .int .u64 x.s] 32))
  have X2 := At4.of hw2 (At4.fresh w1 (.int .i64 x.a) (.int .i64 x.k) (.int .i64 x.o) (.int .u64 x.s) 32)
  have hB2 : Below w.heap.size w w2 := Below.call (show Below w.heap.size w _ by go_grown) (by simp; omega) hw2
  have B2 : ∀ g, (Value.slice ao' (n - 1) c').ownBlock = some g → w.heap.size ≤ g := fun g hg => by have := (own2.lt g hg).1; simp at this; omega
  have A3 := A2.stored (row := none) ⟨rfl, rfl, rfl, Nat.le_refl _, fun _ _ _ => rfl⟩ (by simp) (own_base own2 (show base ≤ _ by have := A.bs; simp; omega))
  have R3 := R2.other (a := ⟨mb, 1, none⟩) (by simp; omega) (.slice ao' (n - 1) c')
  have X3 := X2.other (a := ⟨mb, 1, none⟩) (by simp; omega) (.slice ao' (n - 1) c')
  have F3 : Far [mb] w (w2.setCell ⟨mb, 1, none⟩ (.slice ao' (n - 1) c')) := ((Far.of_below hB2).mono (by simp)).setCell (.inr (by simp)) _ _
  have d1 := A2.c1
  have e1 := A2.f1
  have lt2 := A2.lt
  obtain ⟨r0, r1, r2, r3⟩ := R3.outs (.int .i64 x.a) (.int .i64 x.k) (.int .i64 x.o) (.int .u64 x.s)
  obtain ⟨s0, s1, s2, s3, sa, sb, sc, sd, sl⟩ := id R2
  obtain ⟨z0, z1, z2, z3, za, zb, zc, zd, zl⟩ := id X2
  have F5 : Far [w.heap.size] (w2.setCell ⟨mb, 1, none⟩ (.slice ao' (n - 1) c')) (((((w2.setCell ⟨mb, 1, none⟩ (.slice ao' (n - 1) c')).setCell ⟨w.heap.size, 0, none⟩ (.int .i64 x.a)).setCell ⟨w.heap.size, 1, none⟩ (.int .i64 x.k)).setCell ⟨w.heap.size, 2, none⟩ (.int .i64 x.o)).setCell ⟨w.heap.size, 3, none⟩ (.int .u64 x.s)) := ((((Far.refl _ _).setCell (.inr (by simp)) _ _).setCell (.inr (by simp)) _ _).setCell (.inr (by simp)) _ _).setCell (.inr (by simp)) _ _
  have A4 := A3.far F5 (by simp; omega) (fun j hj => by have := (own2.lt j hj).1; simp at this ⊢; omega)
  have F6 := F3.then F5 (fun b hb => .inr (by simp at hb; omega))
  clear A A2 A3 R1 R2 R3 X2 X3 F3 F5 hB hB2 hw2 own2 WI a0 a1 a2 a3 c1
  go_wp2_with (exact bodyPost_ret (v := .tuple #[.agg #[.int .i64 x.a, .int .i64 x.k, .int .i64 x.o, .int .u64 x.s], .bool true]) (by simp [results, Try.results12, go_sem, r0, r1, r2, r3]) rfl ⟨by rw [hxx.out], ao', c', by rw [hk.out]; exact A4, B2, F6⟩)
end Go.Proofs.Ytoonffglkadofaa
