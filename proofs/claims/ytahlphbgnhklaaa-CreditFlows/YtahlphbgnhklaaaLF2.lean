/-
  CreditFlows, way by way. No conditions but those of each way.
-/
import Derived.Test.YtahlphbgnhklaaaXF
import Derived.Test.YtahlphbgnhklaaaLF1
import Derived.Deep.RegionHeld3
import Derived.Deep.DeepCutAuto
import Derived.Deep.CutBlock
namespace Go.Proofs.Ytahlphbgnhklaaa
open Go.RowKit
set_option linter.unusedVariables false
attribute [local go_sem] Later.cell Later.frozen

theorem c_new {W w3 : World} {x y : Value} (h : Below W.heap.size W w3) : Below W.heap.size W (w3.alloc (.cells #[x, y] 23)) := h.alloc h.size _
theorem c_old {W w3 : World} {u v : Value} (h : Below W.heap.size W w3) : Below W.heap.size W ((w3.setCell ⟨W.heap.size, 0, none⟩ u).setCell ⟨W.heap.size, 1, none⟩ v) := by have := h.size; go_grown
theorem new_ok (b t : Int) (b0 : 1 ≤ b) (b1 : b ≤ 1048576) (t0 : 0 ≤ t) (t1 : t ≤ 1099511627776) (w : World) :
    Calls Try.prog 8 #[.int .i64 b, .int .i64 t] w fun e w' => e = .returned (.tuple #[.agg #[.int .i64 t, .int .i64 (b * 1000000)], .int .i64 0]) ∧ Below w.heap.size w w' := by
  have E : nwE b t = 0 := by unfold nwE; rw [if_pos (wi_iff.2 ⟨b0, b1⟩), if_pos (wi_iff.2 ⟨t0, t1⟩)]
  have F := new_any b t (by omega) w
  rw [show nwA b t = t by unfold nwA; rw [if_pos E], show nwH b t = b * 1000000 by unfold nwH; rw [if_pos E], E] at F
  exact F
set_option maxHeartbeats 4000000 in
set_option maxRecDepth 100000 in
theorem flows_skip1 (b r s : Int) (ao : Option Addr) (n c : Nat) (zs : List Int) (A H E : Int) (NW : ∀ w, Calls Try.prog 8 #[.int .i64 b, .int .i64 0] w fun e w' => e = .returned (.tuple #[.agg #[.int .i64 A, .int .i64 H], .int .i64 E]) ∧ Below w.heap.size w w') (hn : 60 < n) (w : World) (hz : Row .i64 w ao n c zs) :
    Calls Try.prog 5 #[.int .i64 b, .int .i64 r, .int .i64 s, .slice ao n c] w fun e w' => e = .returned (.bool true) ∧ Below w.heap.size w w' := by
  have hcap := hz.cap; have hmax := hz.max
  have hmx : maxLen = 9223372036854775807 := rfl
  have hn2 : (60 : Int) < n := by omega
  have hn3 : decide ((60 : Int) < n) = true := decide_eq_true hn2
  go_enter Try.func5, Try.ntmps5
  go_wp2_with fail
  refine (NW _).mono ?_
  rintro e w1 ⟨rfl, hw1⟩
  have hb : Below w.heap.size w w1 := Below.call (by go_grown) (by simp <;> omega) hw1
  clear hw1
  have hs := hb.size
  go_wp2_with fail
  refine (credited_any _).mono ?_
  rintro e w2 ⟨rfl, hw2⟩
  replace hb : Below w.heap.size w w2 := Below.call (show Below w.heap.size w _ by have := hb.size; go_grown) (by have := hb.size; simp <;> omega) hw2
  go_wp2
  go_ret
  exact ⟨rfl, by go_grown⟩
set_option maxHeartbeats 4000000 in
set_option maxRecDepth 100000 in
theorem flows_skip2 (b r s : Int) (ao : Option Addr) (n c : Nat) (zs : List Int) (A H E : Int) (NW : ∀ w, Calls Try.prog 8 #[.int .i64 b, .int .i64 0] w fun e w' => e = .returned (.tuple #[.agg #[.int .i64 A, .int .i64 H], .int .i64 E]) ∧ Below w.heap.size w w') (hn : decide ((60 : Int) < n) = false) (hE : (E == 0) = false) (w : World) (hz : Row .i64 w ao n c zs) :
    Calls Try.prog 5 #[.int .i64 b, .int .i64 r, .int .i64 s, .slice ao n c] w fun e w' => e = .returned (.bool true) ∧ Below w.heap.size w w' := by
  have hcap := hz.cap; have hmax := hz.max
  have hmx : maxLen = 9223372036854775807 := rfl
  have hE2 : (E != 0) = true := by simpa using hE
  go_enter Try.func5, Try.ntmps5
  go_wp2_with fail
  refine (NW _).mono ?_
  rintro e w1 ⟨rfl, hw1⟩
  have hb : Below w.heap.size w w1 := Below.call (by go_grown) (by simp <;> omega) hw1
  clear hw1
  have hs := hb.size
  go_wp2_with fail
  refine (credited_any _).mono ?_
  rintro e w2 ⟨rfl, hw2⟩
  replace hb : Below w.heap.size w w2 := Below.call (show Below w.heap.size w _ by have := hb.size; go_grown) (by have := hb.size; simp <;> omega) hw2
  go_wp2
  go_ret
  exact ⟨rfl, by go_grown⟩
set_option maxHeartbeats 4000000 in
set_option maxRecDepth 100000 in
theorem flows_skip3 (b r s : Int) (ao : Option Addr) (n c : Nat) (zs : List Int) (b0 : 1 ≤ b) (b1 : b ≤ 1048576) (hn : decide ((60 : Int) < n) = false)  (c' : r < 1) (w : World) (hz : Row .i64 w ao n c zs) :
    Calls Try.prog 5 #[.int .i64 b, .int .i64 r, .int .i64 s, .slice ao n c] w fun e w' => e = .returned (.bool true) ∧ Below w.heap.size w w' := by
  have hcap := hz.cap; have hmax := hz.max
  have hmx : maxLen = 9223372036854775807 := rfl
  go_enter Try.func5, Try.ntmps5
  go_wp2_with fail
  refine (new_ok b 0 b0 b1 (by omega) (by omega) _).mono ?_
  rintro e w1 ⟨rfl, hw1⟩
  have hb : Below w.heap.size w w1 := Below.call (by go_grown) (by simp <;> omega) hw1
  clear hw1
  have hs := hb.size
  go_wp2_with fail
  refine (credited_any _).mono ?_
  rintro e w2 ⟨rfl, hw2⟩
  replace hb : Below w.heap.size w w2 := Below.call (show Below w.heap.size w _ by have := hb.size; go_grown) (by have := hb.size; simp <;> omega) hw2
  go_wp2
  go_ret
  exact ⟨rfl, by go_grown⟩
set_option maxHeartbeats 4000000 in
set_option maxRecDepth 100000 in
theorem flows_skip4 (b r s : Int) (ao : Option Addr) (n c : Nat) (zs : List Int) (b0 : 1 ≤ b) (b1 : b ≤ 1048576) (hn : decide ((60 : Int) < n) = false) (e1 : 1 ≤ r) (c' : 1000000000 < r) (w : World) (hz : Row .i64 w ao n c zs) :
    Calls Try.prog 5 #[.int .i64 b, .int .i64 r, .int .i64 s, .slice ao n c] w fun e w' => e = .returned (.bool true) ∧ Below w.heap.size w w' := by
  have hcap := hz.cap; have hmax := hz.max
  have hmx : maxLen = 9223372036854775807 := rfl
  have d0 : decide (r < 1) = false := decide_eq_false (by omega)
  go_enter Try.func5, Try.ntmps5
  go_wp2_with fail
  refine (new_ok b 0 b0 b1 (by omega) (by omega) _).mono ?_
  rintro e w1 ⟨rfl, hw1⟩
  have hb : Below w.heap.size w w1 := Below.call (by go_grown) (by simp <;> omega) hw1
  clear hw1
  have hs := hb.size
  go_wp2_with fail
  refine (credited_any _).mono ?_
  rintro e w2 ⟨rfl, hw2⟩
  replace hb : Below w.heap.size w w2 := Below.call (show Below w.heap.size w _ by have := hb.size; go_grown) (by have := hb.size; simp <;> omega) hw2
  go_wp2
  go_ret
  exact ⟨rfl, by go_grown⟩
set_option maxHeartbeats 4000000 in
set_option maxRecDepth 100000 in
theorem flows_skip5 (b r s : Int) (ao : Option Addr) (n c : Nat) (zs : List Int) (b0 : 1 ≤ b) (b1 : b ≤ 1048576) (hn : decide ((60 : Int) < n) = false) (e1 : 1 ≤ r) (e2 : r ≤ 1000000000) (c' : s < 1) (w : World) (hz : Row .i64 w ao n c zs) :
    Calls Try.prog 5 #[.int .i64 b, .int .i64 r, .int .i64 s, .slice ao n c] w fun e w' => e = .returned (.bool true) ∧ Below w.heap.size w w' := by
  have hcap := hz.cap; have hmax := hz.max
  have hmx : maxLen = 9223372036854775807 := rfl
  have d0 : decide (r < 1) = false := decide_eq_false (by omega)
  have d1 : decide (1000000000 < r) = false := decide_eq_false (by omega)
  go_enter Try.func5, Try.ntmps5
  go_wp2_with fail
  refine (new_ok b 0 b0 b1 (by omega) (by omega) _).mono ?_
  rintro e w1 ⟨rfl, hw1⟩
  have hb : Below w.heap.size w w1 := Below.call (by go_grown) (by simp <;> omega) hw1
  clear hw1
  have hs := hb.size
  go_wp2_with fail
  refine (credited_any _).mono ?_
  rintro e w2 ⟨rfl, hw2⟩
  replace hb : Below w.heap.size w w2 := Below.call (show Below w.heap.size w _ by have := hb.size; go_grown) (by have := hb.size; simp <;> omega) hw2
  go_wp2
  go_ret
  exact ⟨rfl, by go_grown⟩
set_option maxHeartbeats 4000000 in
set_option maxRecDepth 100000 in
theorem flows_skip6 (b r s : Int) (ao : Option Addr) (n c : Nat) (zs : List Int) (b0 : 1 ≤ b) (b1 : b ≤ 1048576) (hn : decide ((60 : Int) < n) = false) (e1 : 1 ≤ r) (e2 : r ≤ 1000000000) (e3 : 1 ≤ s) (c' : 9000 < s) (w : World) (hz : Row .i64 w ao n c zs) :
    Calls Try.prog 5 #[.int .i64 b, .int .i64 r, .int .i64 s, .slice ao n c] w fun e w' => e = .returned (.bool true) ∧ Below w.heap.size w w' := by
  have hcap := hz.cap; have hmax := hz.max
  have hmx : maxLen = 9223372036854775807 := rfl
  have d0 : decide (r < 1) = false := decide_eq_false (by omega)
  have d1 : decide (1000000000 < r) = false := decide_eq_false (by omega)
  have d2 : decide (s < 1) = false := decide_eq_false (by omega)
  go_enter Try.func5, Try.ntmps5
  go_wp2_with fail
  refine (new_ok b 0 b0 b1 (by omega) (by omega) _).mono ?_
  rintro e w1 ⟨rfl, hw1⟩
  have hb : Below w.heap.size w w1 := Below.call (by go_grown) (by simp <;> omega) hw1
  clear hw1
  have hs := hb.size
  go_wp2_with fail
  refine (credited_any _).mono ?_
  rintro e w2 ⟨rfl, hw2⟩
  replace hb : Below w.heap.size w w2 := Below.call (show Below w.heap.size w _ by have := hb.size; go_grown) (by have := hb.size; simp <;> omega) hw2
  go_wp2
  go_ret
  exact ⟨rfl, by go_grown⟩
set_option maxHeartbeats 4000000 in
set_option maxRecDepth 100000 in
theorem flows_skip7 (b r s : Int) (ao : Option Addr) (n c : Nat) (zs : List Int) (b0 : 1 ≤ b) (b1 : b ≤ 1048576) (hn : decide ((60 : Int) < n) = false) (e1 : 1 ≤ r) (e2 : r ≤ 1000000000) (e3 : 1 ≤ s) (e4 : s ≤ 9000) (c' : b < s) (w : World) (hz : Row .i64 w ao n c zs) :
    Calls Try.prog 5 #[.int .i64 b, .int .i64 r, .int .i64 s, .slice ao n c] w fun e w' => e = .returned (.bool true) ∧ Below w.heap.size w w' := by
  have hcap := hz.cap; have hmax := hz.max
  have hmx : maxLen = 9223372036854775807 := rfl
  have d0 : decide (r < 1) = false := decide_eq_false (by omega)
  have d1 : decide (1000000000 < r) = false := decide_eq_false (by omega)
  have d2 : decide (s < 1) = false := decide_eq_false (by omega)
  have d3 : decide (9000 < s) = false := decide_eq_false (by omega)
  go_enter Try.func5, Try.ntmps5
  go_wp2_with fail
  refine (new_ok b 0 b0 b1 (by omega) (by omega) _).mono ?_
  rintro e w1 ⟨rfl, hw1⟩
  have hb : Below w.heap.size w w1 := Below.call (by go_grown) (by simp <;> omega) hw1
  clear hw1
  have hs := hb.size
  go_wp2_with fail
  refine (credited_any _).mono ?_
  rintro e w2 ⟨rfl, hw2⟩
  replace hb : Below w.heap.size w w2 := Below.call (show Below w.heap.size w _ by have := hb.size; go_grown) (by have := hb.size; simp <;> omega) hw2
  go_wp2
  go_ret
  exact ⟨rfl, by go_grown⟩
set_option maxHeartbeats 4000000 in
set_option maxRecDepth 100000 in
theorem flows_skip8 (b r s : Int) (ao : Option Addr) (n c : Nat) (zs : List Int) (b0 : 1 ≤ b) (b1 : b ≤ 1048576) (hn : decide ((60 : Int) < n) = false) (e1 : 1 ≤ r) (e2 : r ≤ 1000000000) (e3 : 1 ≤ s) (e4 : s ≤ 9000) (e5 : s ≤ b) (c' : 4096 < b / s) (w : World) (hz : Row .i64 w ao n c zs) :
    Calls Try.prog 5 #[.int .i64 b, .int .i64 r, .int .i64 s, .slice ao n c] w fun e w' => e = .returned (.bool true) ∧ Below w.heap.size w w' := by
  have hcap := hz.cap; have hmax := hz.max
  have hmx : maxLen = 9223372036854775807 := rfl
  have hs0 : ¬ s = 0 := by omega
  have hqt : b.tdiv s = b / s := Int.tdiv_eq_ediv_of_nonneg (by omega)
  have hq0 : 0 ≤ b / s := Int.ediv_nonneg (by omega) (by omega)
  have hq1 : b / s ≤ b := Int.ediv_le_self _ (by omega)
  have d0 : decide (r < 1) = false := decide_eq_false (by omega)
  have d1 : decide (1000000000 < r) = false := decide_eq_false (by omega)
  have d2 : decide (s < 1) = false := decide_eq_false (by omega)
  have d3 : decide (9000 < s) = false := decide_eq_false (by omega)
  have d4 : decide (b < s) = false := decide_eq_false (by omega)
  go_enter Try.func5, Try.ntmps5
  go_wp2_with fail
  refine (new_ok b 0 b0 b1 (by omega) (by omega) _).mono ?_
  rintro e w1 ⟨rfl, hw1⟩
  have hb : Below w.heap.size w w1 := Below.call (by go_grown) (by simp <;> omega) hw1
  clear hw1
  have hs := hb.size
  go_wp2_with fail
  refine (credited_any _).mono ?_
  rintro e w2 ⟨rfl, hw2⟩
  replace hb : Below w.heap.size w w2 := Below.call (show Below w.heap.size w _ by have := hb.size; go_grown) (by have := hb.size; simp <;> omega) hw2
  go_wp2
  go_ret
  exact ⟨rfl, by go_grown⟩
set_option maxHeartbeats 4000000 in
set_option maxRecDepth 100000 in
theorem flows_main (b r s : Int) (ao : Option Addr) (n c : Nat) (zs : List Int) (b0 : 1 ≤ b) (b1 : b ≤ 1048576) (hn : decide ((60 : Int) < n) = false) (e1 : 1 ≤ r) (e2 : r ≤ 1000000000) (e3 : 1 ≤ s) (e4 : s ≤ 9000) (e5 : s ≤ b) (hq : b / s ≤ 4096) (w : World) (hz : Row .i64 w ao n c zs) :
    Calls Try.prog 5 #[.int .i64 b, .int .i64 r, .int .i64 s, .slice ao n c] w fun e w' => e = .returned (.bool true) ∧ Below w.heap.size w w' := by
  have hcap := hz.cap; have hmax := hz.max
  have hmx : maxLen = 9223372036854775807 := rfl
  have hs0 : ¬ s = 0 := by omega
  have hqt : b.tdiv s = b / s := Int.tdiv_eq_ediv_of_nonneg (by omega)
  have hq0 : 0 ≤ b / s := Int.ediv_nonneg (by omega) (by omega)
  have hq1 : b / s ≤ b := Int.ediv_le_self _ (by omega)
  have d0 : decide (r < 1) = false := decide_eq_false (by omega)
  have d1 : decide (1000000000 < r) = false := decide_eq_false (by omega)
  have d2 : decide (s < 1) = false := decide_eq_false (by omega)
  have d3 : decide (9000 < s) = false := decide_eq_false (by omega)
  have d4 : decide (b < s) = false := decide_eq_false (by omega)
  have d5 : decide (4096 < b / s) = false := decide_eq_false (by omega)
  have hn60 : n ≤ 60 := by have := of_decide_eq_false hn; omega
  go_enter Try.func5, Try.ntmps5
  go_wp2_with fail
  refine (new_ok b 0 b0 b1 (by omega) (by omega) _).mono ?_
  rintro e w1 ⟨rfl, hw1⟩
  have hb : Below w.heap.size w w1 := Below.call (by go_grown) (by simp <;> omega) hw1
  clear hw1
  have hs := hb.size
  go_wp2_with fail
  clear d0 d1 d2 d3 d4 d5 hqt hq0 hq1
  go_loopw [11, 12, 13] (fun v11 v12 v13 wr => ∃ (i : Nat) (G K A H : Int), i ≤ n ∧ v11 = .int .i64 G ∧ v12 = .int .i64 K ∧ v13 = .int .i64 i ∧ At2 wr w1.heap.size (.int .i64 A) (.int .i64 H) ∧ Below w.heap.size w wr ∧ Hid (FI b s i G K A H)) (fun v11 v12 v13 _ => n - (intOf v13).toNat)
  case atStart => exact ⟨0, 0, 0, 0, b * 1000000, Nat.zero_le _, rfl, rfl, rfl, At2.fresh _ _ _ _, by go_grown, FI.start b s (by omega)⟩
  case round =>
    obtain ⟨i, G, K, A, H, hi, rfl, rfl, rfl, X, hB, hI⟩ := hrel
    clear hb
    obtain ⟨⟨g0, g1⟩, ⟨k0, k1⟩, ⟨a0, a1⟩, h0, h1⟩ := hI.out.bds b1 (show i ≤ 60 by omega)
    obtain ⟨x0, x1, x2, x3, x4⟩ := id X
    by_cases hin : i < n
    · obtain ⟨bo, o, rfl, hc⟩ := hz.at' (by omega)
      have hlt0 : bo < w.heap.size := World.block_lt_of_cell? _ _ (hc i hin)
      have hci := (hB.cell (p := ⟨bo, o + i, none⟩) hlt0).trans (hc i hin)
      have hv := hz.val i
      have hlt : bo < wr.heap.size := World.block_lt_of_cell? _ _ hci
      clear hc
      generalize zs.getD i 0 = p at *
      by_cases c1 : p < 0
      · go_wp2_with fail
        refine (credited_any _).mono ?_
        rintro e w2 ⟨rfl, hw2⟩
        have hb2 := Below.call hB hB.size hw2
        go_wp2
        go_ret
        exact ⟨rfl, hb2⟩
      by_cases c2 : 1000000 < p
      · go_wp2_with fail
        refine (credited_any _).mono ?_
        rintro e w2 ⟨rfl, hw2⟩
        have hb2 := Below.call hB hB.size hw2
        go_wp2
        go_ret
        exact ⟨rfl, hb2⟩
      obtain ⟨x, hx⟩ : ∃ x, r * p = x := ⟨_, rfl⟩
      have y0 : 0 ≤ x := by rw [← hx]; exact Int.mul_nonneg (by omega) (by omega)
      have y1 : x ≤ 1000000000000000 := by rw [← hx]; have := Int.mul_le_mul e2 (show p ≤ 1000000 by omega) (by omega) (by omega); omega
      by_cases c3 : (b - s) * 1000000 < x
      · go_wp2_with fail
        refine (credited_any _).mono ?_
        rintro e w2 ⟨rfl, hw2⟩
        have hb2 := Below.call hB hB.size hw2
        go_wp2
        go_ret
        exact ⟨rfl, hb2⟩
      have c3' : x ≤ (b - s) * 1000000 := by omega
      obtain ⟨H1, hH1⟩ : ∃ H1, heldv b (x + H) = H1 := ⟨_, rfl⟩
      obtain ⟨f0, f1, f2, f3⟩ := hI.out.fill y0 c3' (by omega) hH1
      have hi2 : isv b A H = true := isv_iff.2 ⟨⟨b0, b1⟩, ⟨a0, by omega⟩, h0, h1⟩
      have FX := fun w => fill_ok b A H r (A + p) H1 hi2 e1 e2 (by omega) (by omega) (by rw [show A + p - A = p by omega, hx]; exact hH1) w
      have hi3 : ∀ H2, 0 ≤ H2 → H2 ≤ H1 → isv b (A + p) H2 = true := fun H2 k0 k1 => isv_iff.2 ⟨⟨b0, b1⟩, ⟨by omega, by omega⟩, k0, by omega⟩
      have dx : decide ((b - s) * 1000000 < x) = false := decide_eq_false (by omega)
      have dp1 : decide (p < 0) = false := decide_eq_false (by omega)
      have dp2 : decide (1000000 < p) = false := decide_eq_false (by omega)
      have hbx := hB.size
      have lX := X.lt
      have hbo : bo ≠ w1.heap.size := by omega
      have hHH : Hid (heldv b (x + H) = H1) := hH1
      clear hH1 hi2
      go_upto_region 11 with fail
      go_cut [14, 15] (fun v14 v15 wc => ∃ b14 : Nat, v14 = .pointer (some ⟨b14, 0, none⟩) ∧ v15 = .int .i64 0 ∧ At2 wc b14 (.int .i64 (A + p)) (.int .i64 H1) ∧ wr.heap.size ≤ b14 ∧ Below wr.heap.size wr wc)
      case first =>
        have hAp : IntKind.i64.wrap (A + p) = A + p := by rw [IntKind.wrap_i64]; omega
        have LD0 : ∀ w', Below wr.heap.size wr w' → w'.cell? ⟨w1.heap.size, 0, none⟩ = some (.int .i64 A) := fun w' hw' => (hw'.cell (p := ⟨w1.heap.size, 0, none⟩) lX).trans x0
        have LD1 : ∀ w', Below wr.heap.size wr w' → w'.cell? ⟨w1.heap.size, 1, none⟩ = some (.int .i64 H) := fun w' hw' => (hw'.cell (p := ⟨w1.heap.size, 1, none⟩) lX).trans x1
        have LD2 : ∀ w', Below wr.heap.size wr w' → w'.cell? ⟨bo, o + i, none⟩ = some (.int .i64 p) := fun w' hw' => (hw'.cell (p := ⟨bo, o + i, none⟩) hlt).trans hci
        clear X x0 x1 x2 x3 hci hI hi3
        go_wp2_with fail
        go_region_held3 (fun w' => Below wr.heap.size wr w')
          (first | with_reducible exact c_new (by assumption) | with_reducible exact c_old (by assumption) | with_reducible exact Below.refl _ _ | go_grown)
          (first
            | (go_at_call 10; refine (FX _).mono ?_; rintro e w7 ⟨rfl, hw7⟩; have g2 : Below wr.heap.size wr w7 := Below.call (by go_grown) (by simp) hw7; have l2 := g2.size; try (first | (have P2 := At2.after_fresh hw7; obtain ⟨s0', s1', s2', s3', s4'⟩ := id P2) | (have P2 := At2.after_fresh' hw7; obtain ⟨s0', s1', s2', s3', s4'⟩ := id P2))))
        all_goals
          go_wp2_with fail
          go_meet
          case rel =>
            first
              | exact ⟨w7.heap.size, rfl, rfl, At2.fresh _ _ _ _, g2.size, by go_grown⟩
              | exact ⟨_, rfl, rfl, P2.put _ _, Nat.le_refl _, by go_grown⟩
      case rest =>
        obtain ⟨b14, rfl, rfl, Y, hby, hbc⟩ := hcut
        have X2 := X.below hbc X.lt
        have hBc := hB.trans (hbc.mono hB.size)
        have hci2 : wc.cell? ⟨bo, o + i, none⟩ = some (.int .i64 p) := (hbc.cell (p := ⟨bo, o + i, none⟩) hlt).trans hci
        have lt2 := X2.lt
        have lY := Y.lt
        have hsz := hBc.size
        clear X hB hbc hci x0 x1 x2 x3 x4
        obtain ⟨x0, x1, x2, x3, x4⟩ := id X2
        obtain ⟨y0', y1', y2', y3', y4'⟩ := id Y
        have hne : b14 ≠ w1.heap.size := by omega
        have X3 := X2.put (.int .i64 (A + p)) (.int .i64 H1)
        have Y2 := (Y.others (c := w1.heap.size) (by omega) (.int .i64 (A + p)) (.int .i64 H1))
        go_wp2_with fail
        clear Y Y2 lY y0' y1' y2' y3' y4' X2 x0 x1 x2 x3 x4
        go_loopw [12, 16] (fun v12 v16 wq => ∃ (j : Nat) (J : Int), v12 = .int .i64 (K + J) ∧ v16 = .int .i64 j ∧ At2 wq w1.heap.size (.int .i64 (A + p)) (.int .i64 (H1 - J)) ∧ Below w.heap.size w wq ∧ 0 ≤ J ∧ J ≤ H1 ∧ Hid (J = (j : Int) * (s * 1000000))) (fun v12 v16 _ => 5001 - (intOf v16).toNat)
        case atStart => exact ⟨0, 0, by rw [Int.add_zero], rfl, by rw [Int.sub_zero]; exact X3, by go_grown, by omega, f0, by show (0 : Int) = ((0 : Nat) : Int) * _; simp⟩
        case round =>
          obtain ⟨j, J, rfl, rfl, X4, hb4, q0, q1, q2⟩ := hrel
          clear X3 hBc
          have hj : (j : Int) ≤ 4096 := times_le e3 hq (by rw [← q2.out]; omega)
          have hsz4 := hb4.size
          have lX4 := X4.lt
          obtain ⟨u0, u1, u2, u3, u4⟩ := id X4
          by_cases ct : H1 - J < s * 1000000
          · have TE := fun w => take_early b (A + p) (H1 - J) s (hi3 _ (by omega) (by omega)) e3 e4 ct w
            go_wp2_with fail
            refine (TE _).mono ?_
            rintro e w5 ⟨rfl, hw5⟩
            have X5 := X4.below hw5 lX4
            have hb5 := Below.call hb4 hb4.size hw5
            have hsz5 := hb5.size
            clear hw5
            go_wp2_with fail
            exact ⟨⟨i + 1, G + x, K + J, A + p, H1 - J, by omega, rfl, rfl, by simp, X5.alloc _, by go_grown, FI.next hI.out y0 c3' b1 (by omega) hHH.out (by omega) (by omega) q0 rfl rfl (by omega) ct⟩, by simp only [intOf]; omega⟩
          · have TK := fun w => take_ok b (A + p) (H1 - J) s (H1 - (J + s * 1000000)) (hi3 _ (by omega) (by omega)) e3 e4 (by omega) (by omega) w
            go_wp2_with fail
            refine (TK _).mono ?_
            rintro e w5 ⟨rfl, hw5⟩
            have X5 := X4.below hw5 lX4
            have hb5 := Below.call hb4 hb4.size hw5
            have hsz5 := hb5.size
            have lX5 := X5.lt
            clear hw5 u0 u1 u2 u3 u4
            obtain ⟨u0, u1, u2, u3, u4⟩ := id X5
            have hn5 : w1.heap.size ≠ w5.heap.size := by omega
            have X6 := (X5.put (.int .i64 (A + p)) (.int .i64 (H1 - (J + s * 1000000)))).alloc (.cells #[.int .i64 (A + p), .int .i64 (H1 - (J + s * 1000000))] 23)
            have hKJ : Hid (K + J + s * 1000000 = K + (J + s * 1000000)) := by show _ = _; omega
            go_wp2_with fail
            exact ⟨⟨j + 1, J + s * 1000000, by rw [hKJ.out], by simp, X6, by go_grown, by omega, by omega, times_succ q2.out⟩, by simp only [intOf]; omega⟩
    · have hie : i = n := by omega
      obtain ⟨z0, z1⟩ := hI.out.end (by omega)
      clear hI
      go_wp2_with fail
      refine (credited_any _).mono ?_
      rintro e w2 ⟨rfl, hw2⟩
      have hb2 := Below.call hB hB.size hw2
      go_wp2
      go_ret
      exact ⟨rfl, hb2⟩
end Go.Proofs.Ytahlphbgnhklaaa
