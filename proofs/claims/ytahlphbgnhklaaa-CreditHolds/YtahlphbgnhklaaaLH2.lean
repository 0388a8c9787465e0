/-
  CreditHolds, way by way. No conditions but those of each way.
-/
import Derived.Test.YtahlphbgnhklaaaXF
import Derived.Test.YtahlphbgnhklaaaLH1
import Derived.Deep.DeepCutAuto
import Derived.OwnWalk
namespace Go.Proofs.Ytahlphbgnhklaaa
open Go.RowKit
set_option linter.unusedVariables false

theorem new_ok' (b t : Int) (b0 : 1 ≤ b) (b1 : b ≤ 1048576) (t0 : 0 ≤ t) (t1 : t ≤ 1099511627776) (w : World) :
    Calls Try.prog 8 #[.int .i64 b, .int .i64 t] w fun e w' => e = .returned (.tuple #[.agg #[.int .i64 t, .int .i64 (b * 1000000)], .int .i64 0]) ∧ Below w.heap.size w w' := by
  have E : nwE b t = 0 := by unfold nwE; rw [if_pos (wi_iff.2 ⟨b0, b1⟩), if_pos (wi_iff.2 ⟨t0, t1⟩)]
  have F := new_any b t (by omega) w
  rw [show nwA b t = t by unfold nwA; rw [if_pos E], show nwH b t = b * 1000000 by unfold nwH; rw [if_pos E], E] at F
  exact F
set_option maxHeartbeats 4000000 in
set_option maxRecDepth 100000 in
theorem holds_skip1 (b t : Int) (ao : Option Addr) (n c : Nat) (Z : Nat → St3) (A H : Int) (NW : ∀ w, Calls Try.prog 8 #[.int .i64 b, .int .i64 t] w fun e w' => e = .returned (.tuple #[.agg #[.int .i64 A, .int .i64 H], .int .i64 0]) ∧ Below w.heap.size w w') (hn : 60 < n) (w : World) (hz : Steps3 w ao n c Z) :
    Calls Try.prog 4 #[.int .i64 b, .int .i64 t, .slice ao n c] w fun e w' => e = .returned (.bool true) ∧ Below w.heap.size w w' := by
  have hcap := hz.cap; have hmax := hz.max
  have hmx : maxLen = 9223372036854775807 := rfl
  have hn2 : (60 : Int) < n := by omega
  have hn3 : decide ((60 : Int) < n) = true := decide_eq_true hn2
  go_enter Try.func4, Try.ntmps4
  go_wp2_with fail
  refine (NW _).mono ?_
  rintro e w1 ⟨rfl, hw1⟩
  have hb : Below w.heap.size w w1 := Below.call (by go_grown) (by simp <;> omega) hw1
  clear hw1
  have hs := hb.size
  go_wp2_with fail
  refine (credited_any _).mono ?_
  rintro e w2 ⟨rfl, hw2⟩
  have X := At2.after_fresh' hw2
  obtain ⟨x0, x1, x2, x3, x4⟩ := id X
  replace hb : Below w.heap.size w w2 := Below.call (show Below w.heap.size w _ by have := hb.size; go_grown) (by have := hb.size; simp <;> omega) hw2
  go_wp2
  go_ret
  exact ⟨rfl, by go_grown⟩
set_option maxHeartbeats 4000000 in
set_option maxRecDepth 100000 in
theorem holds_skip2 (b t : Int) (ao : Option Addr) (n c : Nat) (Z : Nat → St3) (E : Int) (NW : ∀ w, Calls Try.prog 8 #[.int .i64 b, .int .i64 t] w fun e w' => e = .returned (.tuple #[.agg #[.int .i64 0, .int .i64 0], .int .i64 E]) ∧ Below w.heap.size w w') (hn : 60 < n) (hE : (E == 0) = false) (w : World) (hz : Steps3 w ao n c Z) :
    Calls Try.prog 4 #[.int .i64 b, .int .i64 t, .slice ao n c] w fun e w' => e = .returned (.bool true) ∧ Below w.heap.size w w' := by
  have hcap := hz.cap; have hmax := hz.max
  have hmx : maxLen = 9223372036854775807 := rfl
  have hn2 : (60 : Int) < n := by omega
  have hn3 : decide ((60 : Int) < n) = true := decide_eq_true hn2
  have hE2 : (E != 0) = true := by simpa using hE
  go_enter Try.func4, Try.ntmps4
  go_wp2_with fail
  refine (NW _).mono ?_
  rintro e w1 ⟨rfl, hw1⟩
  have hb : Below w.heap.size w w1 := Below.call (by go_grown) (by simp <;> omega) hw1
  clear hw1
  have hs := hb.size
  go_wp2_with fail
  refine (credited_any _).mono ?_
  rintro e w2 ⟨rfl, hw2⟩
  have X := At2.after_fresh' hw2
  obtain ⟨x0, x1, x2, x3, x4⟩ := id X
  replace hb : Below w.heap.size w w2 := Below.call (show Below w.heap.size w _ by have := hb.size; go_grown) (by have := hb.size; simp <;> omega) hw2
  go_wp2
  go_ret
  exact ⟨rfl, by go_grown⟩
set_option maxHeartbeats 4000000 in
set_option maxRecDepth 100000 in
theorem holds_skip3 (b t : Int) (ao : Option Addr) (n c : Nat) (Z : Nat → St3) (E : Int) (NW : ∀ w, Calls Try.prog 8 #[.int .i64 b, .int .i64 t] w fun e w' => e = .returned (.tuple #[.agg #[.int .i64 0, .int .i64 0], .int .i64 E]) ∧ Below w.heap.size w w') (hn : decide ((60 : Int) < n) = false) (hE : (E == 0) = false) (w : World) (hz : Steps3 w ao n c Z) :
    Calls Try.prog 4 #[.int .i64 b, .int .i64 t, .slice ao n c] w fun e w' => e = .returned (.bool true) ∧ Below w.heap.size w w' := by
  have hcap := hz.cap; have hmax := hz.max
  have hmx : maxLen = 9223372036854775807 := rfl
  have hE2 : (E != 0) = true := by simpa using hE
  go_enter Try.func4, Try.ntmps4
  go_wp2_with fail
  refine (NW _).mono ?_
  rintro e w1 ⟨rfl, hw1⟩
  have hb : Below w.heap.size w w1 := Below.call (by go_grown) (by simp <;> omega) hw1
  clear hw1
  have hs := hb.size
  go_wp2_with fail
  refine (credited_any _).mono ?_
  rintro e w2 ⟨rfl, hw2⟩
  have X := At2.after_fresh' hw2
  obtain ⟨x0, x1, x2, x3, x4⟩ := id X
  replace hb : Below w.heap.size w w2 := Below.call (show Below w.heap.size w _ by have := hb.size; go_grown) (by have := hb.size; simp <;> omega) hw2
  go_wp2
  go_ret
  exact ⟨rfl, by go_grown⟩
set_option maxHeartbeats 4000000 in
set_option maxRecDepth 100000 in
theorem holds_main (b t : Int) (ao : Option Addr) (n c : Nat) (Z : Nat → St3) (b0 : 1 ≤ b) (b1 : b ≤ 1048576) (t0 : 0 ≤ t) (t1 : t ≤ 1099511627776) (hn : decide ((60 : Int) < n) = false) (w : World) (hz : Steps3 w ao n c Z) :
    Calls Try.prog 4 #[.int .i64 b, .int .i64 t, .slice ao n c] w fun e w' => e = .returned (.bool true) ∧ Below w.heap.size w w' := by
  have hcap := hz.cap; have hmax := hz.max
  have hmx : maxLen = 9223372036854775807 := rfl
  have hn60 : n ≤ 60 := by have := of_decide_eq_false hn; omega
  obtain ⟨i9, hi, hz0, hz1, hz2⟩ := info_parts info_int
  go_enter Try.func4, Try.ntmps4
  go_wp2_with fail
  refine (new_ok' b t b0 b1 t0 t1 _).mono ?_
  rintro e w1 ⟨rfl, hw1⟩
  have hb : Below w.heap.size w w1 := Below.call (by go_grown) (by simp <;> omega) hw1
  clear hw1
  have hs := hb.size
  go_upto_region 4 with fail
  refine wp_forget (fun W => At2 W w1.heap.size (.int .i64 t) (.int .i64 (b * 1000000)) ∧ Below w.heap.size w W) ⟨At2.fresh _ _ _ _, by go_grown⟩ ?_
  clear hb
  rintro w2 ⟨X, hb⟩
  have lX := X.lt
  have hs2 := hb.size
  go_upto_region 5 with (at_make; refine wpList_make_full _ rfl (.tmp 45) (.tmp 45) 34 rfl w2.heap.size 3 i9 (.int .i64 0) 1 Try.underlying34 hi hz0 hz1 .i64 .i64 n n n rfl rfl rfl rfl (by rw [hz2]; omega) (by unfold maxLen; omega) (Nat.le_refl _) ?_; intro w3 own gr)
  have C1 := cells_made own
  have B3 : Below w2.heap.size w2 w3 := Below.grown (Below.refl _ _) gr (Nat.le_refl _) (by simp)
  replace X := X.below B3 lX
  replace hb := hb.trans (B3.mono hb.size)
  have hs3 := B3.size
  clear own gr B3
  go_upto_region 6 with (at_make; refine wpList_make_full _ rfl (.tmp 48) (.tmp 48) 34 rfl w3.heap.size 3 i9 (.int .i64 0) 1 Try.underlying34 hi hz0 hz1 .i64 .i64 n n n rfl rfl rfl rfl (by rw [hz2]; omega) (by unfold maxLen; omega) (Nat.le_refl _) ?_; intro w4 own gr)
  have C2 := cells_made own
  have B4 : Below w3.heap.size w3 w4 := Below.grown (Below.refl _ _) gr (Nat.le_refl _) (by simp)
  replace X := X.below B4 X.lt
  have hg : 0 < n → w2.heap.size < w3.heap.size := C1.lt
  replace C1 := C1.of B4
  replace hb := hb.trans (B4.mono hb.size)
  have hs4 := B4.size
  clear own gr B4 hi hz0 hz1 hz2
  go_wp2_with fail
  go_loopw [11] (fun v11 wr => ∃ (i : Nat) (A H : Int) (g tk v : Nat → Int), i ≤ n ∧ v11 = .int .i64 i ∧ At2 wr w1.heap.size (.int .i64 A) (.int .i64 H) ∧ Cells wr w2.heap.size n g ∧ Cells wr w3.heap.size n tk ∧ Below w.heap.size w wr ∧ Hid (HI b i A H g tk v)) (fun v11 _ => n - (intOf v11).toNat)
  case atStart => exact ⟨0, t, b * 1000000, _, _, fun _ => 0, Nat.zero_le _, rfl, X, C1, C2, hb, HI.start (by omega) t0 t1⟩
  case round =>
    obtain ⟨i, A, H, g, tk, v, hi, rfl, X, C1, C2, hB, hI⟩ := hrel
    clear hb
    have a0 := hI.out.a0; have a1 := hI.out.a1; have h0 := hI.out.h0; have h1 := hI.out.h1
    have hB0 := hB.size
    have lX := X.lt
    by_cases hin : i < n
    · obtain ⟨bo, o, rfl, hl0, hc⟩ := hz.at' (by omega)
      obtain ⟨q0, q1, q2⟩ := hc i hin
      replace q0 := (hB.cell (p := ⟨bo, _, none⟩) hl0).trans q0
      replace q1 := (hB.cell (p := ⟨bo, _, none⟩) hl0).trans q1
      replace q2 := (hB.cell (p := ⟨bo, _, none⟩) hl0).trans q2
      obtain ⟨⟨br0, br1⟩, ⟨bp0, bp1⟩, bs0, bs1⟩ := hz.bd i
      generalize (Z i).r = r at *
      generalize (Z i).p = p at *
      generalize (Z i).s = s at *
      clear hc
      by_cases c1 : p < 0
      · go_wp2_with fail
        refine (credited_any _).mono ?_
        rintro e w5 ⟨rfl, hw5⟩
        have hb5 : Below w.heap.size w w5 := Below.call (show Below w.heap.size w _ by go_grown) (by simp <;> omega) hw5
        go_wp2
        go_ret
        exact ⟨rfl, hb5⟩
      by_cases c2 : 1000000 < p
      · go_wp2_with fail
        refine (credited_any _).mono ?_
        rintro e w5 ⟨rfl, hw5⟩
        have hb5 : Below w.heap.size w w5 := Below.call (show Below w.heap.size w _ by go_grown) (by simp <;> omega) hw5
        go_wp2
        go_ret
        exact ⟨rfl, hb5⟩
      have dp1 : decide (p < 0) = false := decide_eq_false (by omega)
      have dp2 : decide (1000000 < p) = false := decide_eq_false (by omega)
      have n1 : w1.heap.size ≠ w2.heap.size := by omega
      have n2 : w1.heap.size ≠ w3.heap.size := by omega
      have n3 : w2.heap.size ≠ w3.heap.size := by have := hg (by omega); omega
      have l1 := C1.lt (by omega)
      have l2 := C2.lt (by omega)
      have FX := fun w => fill_any b A H r (A + p) (by omega) (by omega) w
      obtain ⟨x0, x1, x2, x3, x4⟩ := id X
      have hb01 : 1 ≤ b ∧ b ≤ 1048576 := ⟨b0, b1⟩
      by_cases z1 : flE b A H r (A + p) = 0
      · obtain ⟨k1, ⟨k2, k3⟩, k4, k5, k6, k7, k8, k9⟩ := fill_le z1
        obtain ⟨⟨kb0, kb1⟩, _⟩ := isv_iff.1 k1
        rw [k6, z1] at FX
        rw [show A + p - A = p by omega] at k9
        obtain ⟨x, hx⟩ : ∃ x, r * p = x := ⟨_, rfl⟩
        have y0 : 0 ≤ x := by rw [← hx]; exact Int.mul_nonneg (by omega) (by omega)
        have y1 : x ≤ 1000000000000000 := by rw [← hx]; have := Int.mul_le_mul k3 (show p ≤ 1000000 by omega) (by omega) (by omega); omega
        rw [hx] at k9
        generalize flH b A H r (A + p) = F at *
        clear z1 k6 k1
        go_wp2_with fail
        refine (FX _).mono ?_
        rintro e w5 ⟨rfl, hw5⟩
        have S := At3.after_fresh' hw5
        replace X := (X.alloc _).below hw5 (by simp <;> omega)
        replace C1 := (C1.alloc _).below hw5 (fun _ => by simp <;> omega)
        replace C2 := (C2.alloc _).below hw5 (fun _ => by simp <;> omega)
        replace hB : Below w.heap.size w w5 := Below.call (show Below w.heap.size w _ by go_grown) (by simp <;> omega) hw5
        have hs5 := hw5.size
        simp only [World.size_alloc] at hs5
        clear hw5 x0 x1 x2 x3 x4 q0 q1 q2
        obtain ⟨x0, x1, x2, x3, x4⟩ := id X
        obtain ⟨s0, s1, s2, s3⟩ := id S
        have e1 := C1.cell i hin
        have e2 := C1.froz i hin
        have lX5 := X.lt
        have l15 := C1.lt (by omega)
        have l25 := C2.lt (by omega)
        have hB5 := hB.size
        go_upto_region 16 with fail
        refine wp_forget (fun W => At2 W w1.heap.size (.int .i64 (A + p)) (.int .i64 F) ∧ Cells W w2.heap.size n (fun j => if j = i then x else g j) ∧ Cells W w3.heap.size n tk ∧ At3 W wr.heap.size (.int .i64 r) (.int .i64 p) (.int .i64 s) ∧ Below w.heap.size w W) ⟨((X.put (.int .i64 (A + p)) (.int .i64 F)).other (a := ⟨w2.heap.size, i, none⟩) (Ne.symm n1) _).alloc (.cells #[.int .i64 (A + p), .int .i64 F] 23), ((C1.others n1 (.int .i64 (A + p)) (.int .i64 F)).put hin x).alloc (.cells #[.int .i64 (A + p), .int .i64 F] 23), ((C2.others n2 (.int .i64 (A + p)) (.int .i64 F)).other (a := ⟨w2.heap.size, i, none⟩) n3 _).alloc (.cells #[.int .i64 (A + p), .int .i64 F] 23), ((S.others (show w1.heap.size ≠ wr.heap.size by omega) (.int .i64 (A + p)) (.int .i64 F)).other (a := ⟨w2.heap.size, i, none⟩) (by show w2.heap.size ≠ wr.heap.size; omega) _).alloc (.cells #[.int .i64 (A + p), .int .i64 F] 23), by go_grown⟩ ?_
        clear X C1 C2 S hB x0 x1 x2 x3 x4 s0 s1 s2 s3 e1 e2 FX lX5 l15 l25 hB5
        rintro w6 ⟨X, C1, C2, S, hB⟩
        obtain ⟨x0, x1, x2, x3, x4⟩ := id X
        obtain ⟨s0, s1, s2, s3⟩ := id S
        have hB6 := hB.size
        have l16 := C1.lt (by omega)
        have l26 := C2.lt (by omega)
        have TX := fun w => take_any b (A + p) F s (by omega) (by omega) w
        by_cases z2 : tkE b (A + p) F s = 0
        · obtain ⟨⟨j1, j2⟩, j3, j4, j5⟩ := take_le z2
          rw [j4, j5, z2] at TX
          clear z2 j4 j5
          go_wp2_with fail
          refine (TX _).mono ?_
          rintro e w7 ⟨rfl, hw7⟩
          replace X := X.below hw7 x4
          replace C1 := C1.below hw7 (fun _ => l16)
          replace C2 := C2.below hw7 (fun _ => l26)
          replace S := S.below hw7 s3
          replace hB : Below w.heap.size w w7 := Below.call hB hB6 hw7
          have hs7 := hw7.size
          clear hw7 x0 x1 x2 x3 x4 s0 s1 s2 s3
          obtain ⟨x0, x1, x2, x3, x4⟩ := id X
          obtain ⟨s0, s1, s2, s3⟩ := id S
          have e1 := C2.cell i hin
          have e2 := C2.froz i hin
          have l17 := C1.lt (by omega)
          have l27 := C2.lt (by omega)
          have hB7 := hB.size
          go_upto_region 20 with fail
          refine wp_forget (fun W => At2 W w1.heap.size (.int .i64 (A + p)) (.int .i64 (F - s * 1000000)) ∧ Cells W w2.heap.size n (fun j => if j = i then x else g j) ∧ Cells W w3.heap.size n (fun j => if j = i then s * 1000000 else tk j) ∧ Below w.heap.size w W) ⟨((X.put (.int .i64 (A + p)) (.int .i64 (F - s * 1000000))).other (a := ⟨w3.heap.size, i, none⟩) (Ne.symm n2) _).alloc (.cells #[.int .i64 (A + p), .int .i64 (F - s * 1000000)] 23), ((C1.others n1 (.int .i64 (A + p)) (.int .i64 (F - s * 1000000))).other (a := ⟨w3.heap.size, i, none⟩) (Ne.symm n3) _).alloc (.cells #[.int .i64 (A + p), .int .i64 (F - s * 1000000)] 23), ((C2.others n2 (.int .i64 (A + p)) (.int .i64 (F - s * 1000000))).put hin (s * 1000000)).alloc (.cells #[.int .i64 (A + p), .int .i64 (F - s * 1000000)] 23), by go_grown⟩ ?_
          clear X C1 C2 S hB x0 x1 x2 x3 x4 s0 s1 s2 s3 e1 e2 TX l17 l27 hB7
          rintro w8 ⟨X, C1, C2, hB⟩
          obtain ⟨x0, x1, x2, x3, x4⟩ := id X
          have hB8 := hB.size
          go_wp2_with fail
          refine (is_any b (A + p) (F - s * 1000000) (by omega) (by omega) true (isv_iff.2 (by omega)) _).mono ?_
          rintro e w9 ⟨rfl, hw9⟩
          have X9 := X.below hw9 x4
          have C19 := C1.of hw9
          have C29 := C2.of hw9
          replace hB := Below.call hB hB8 hw9
          clear hw9 X C1 C2 x0 x1 x2 x3 x4
          go_wp2_with fail
          exact ⟨⟨i + 1, (A + p), (F - s * 1000000), _, _, _, by omega, by simp, X9, C19, C29, hB, HI.next (F := F) (x := x) (y := s * 1000000) hI.out (by omega) (by omega) (fun j hj => by simp [hj]) (by simp) (fun j hj => by simp [hj]) (by simp) y0 y1 (by omega) (by omega) (by omega) (by omega) (by omega) (by omega)⟩, by simp only [intOf]; omega⟩
        · generalize tkA b (A + p) F s = A'' at *
          generalize tkH b (A + p) F s = H'' at *
          generalize tkE b (A + p) F s = E'' at *
          have zb2 : (E'' == 0) = false := by simp [z2]
          clear z2
          go_wp2_with fail
          refine (TX _).mono ?_
          rintro e w7 ⟨rfl, hw7⟩
          replace X := X.below hw7 x4
          replace C1 := C1.below hw7 (fun _ => l16)
          replace C2 := C2.below hw7 (fun _ => l26)
          replace S := S.below hw7 s3
          replace hB : Below w.heap.size w w7 := Below.call hB hB6 hw7
          have hs7 := hw7.size
          clear hw7 x0 x1 x2 x3 x4 s0 s1 s2 s3
          obtain ⟨x0, x1, x2, x3, x4⟩ := id X
          obtain ⟨s0, s1, s2, s3⟩ := id S
          have e1 := C2.cell i hin
          have e2 := C2.froz i hin
          have l17 := C1.lt (by omega)
          have l27 := C2.lt (by omega)
          have hB7 := hB.size
          go_upto_region 20 with fail
          refine wp_forget (fun W => At2 W w1.heap.size (.int .i64 (A + p)) (.int .i64 F) ∧ Cells W w2.heap.size n (fun j => if j = i then x else g j) ∧ Cells W w3.heap.size n tk ∧ Below w.heap.size w W) ⟨X.alloc (.cells #[.int .i64 A'', .int .i64 H''] 23), C1.alloc (.cells #[.int .i64 A'', .int .i64 H''] 23), C2.alloc (.cells #[.int .i64 A'', .int .i64 H''] 23), by go_grown⟩ ?_
          clear X C1 C2 S hB x0 x1 x2 x3 x4 s0 s1 s2 s3 e1 e2 TX l17 l27 hB7
          rintro w8 ⟨X, C1, C2, hB⟩
          obtain ⟨x0, x1, x2, x3, x4⟩ := id X
          have hB8 := hB.size
          go_wp2_with fail
          refine (is_any b (A + p) F (by omega) (by omega) true (isv_iff.2 (by omega)) _).mono ?_
          rintro e w9 ⟨rfl, hw9⟩
          have X9 := X.below hw9 x4
          have C19 := C1.of hw9
          have C29 := C2.of hw9
          replace hB := Below.call hB hB8 hw9
          clear hw9 X C1 C2 x0 x1 x2 x3 x4
          go_wp2_with fail
          exact ⟨⟨i + 1, (A + p), F, _, _, _, by omega, by simp, X9, C19, C29, hB, HI.next (F := F) (x := x) (y := 0) hI.out (by omega) (by omega) (fun j hj => by simp [hj]) (by simp) (fun j hj => rfl) (hI.out.tz i (Nat.le_refl _)) y0 y1 (by omega) (by omega) (by omega) (by omega) (by omega) (by omega)⟩, by simp only [intOf]; omega⟩
      · generalize flA b A H r (A + p) = A' at *
        generalize flH b A H r (A + p) = H' at *
        generalize flE b A H r (A + p) = E' at *
        have zb : (E' == 0) = false := by simp [z1]
        clear z1
        go_wp2_with fail
        refine (FX _).mono ?_
        rintro e w5 ⟨rfl, hw5⟩
        have S := At3.after_fresh' hw5
        replace X := (X.alloc _).below hw5 (by simp <;> omega)
        replace C1 := (C1.alloc _).below hw5 (fun _ => by simp <;> omega)
        replace C2 := (C2.alloc _).below hw5 (fun _ => by simp <;> omega)
        replace hB : Below w.heap.size w w5 := Below.call (show Below w.heap.size w _ by go_grown) (by simp <;> omega) hw5
        have hs5 := hw5.size
        simp only [World.size_alloc] at hs5
        clear hw5 x0 x1 x2 x3 x4 q0 q1 q2
        obtain ⟨x0, x1, x2, x3, x4⟩ := id X
        obtain ⟨s0, s1, s2, s3⟩ := id S
        have e1 := C1.cell i hin
        have e2 := C1.froz i hin
        have lX5 := X.lt
        have l15 := C1.lt (by omega)
        have l25 := C2.lt (by omega)
        have hB5 := hB.size
        go_upto_region 16 with fail
        refine wp_forget (fun W => At2 W w1.heap.size (.int .i64 A) (.int .i64 H) ∧ Cells W w2.heap.size n g ∧ Cells W w3.heap.size n tk ∧ At3 W wr.heap.size (.int .i64 r) (.int .i64 p) (.int .i64 s) ∧ Below w.heap.size w W) ⟨X.alloc (.cells #[.int .i64 A', .int .i64 H'] 23), C1.alloc (.cells #[.int .i64 A', .int .i64 H'] 23), C2.alloc (.cells #[.int .i64 A', .int .i64 H'] 23), S.alloc (.cells #[.int .i64 A', .int .i64 H'] 23), by go_grown⟩ ?_
        clear X C1 C2 S hB x0 x1 x2 x3 x4 s0 s1 s2 s3 e1 e2 FX lX5 l15 l25 hB5
        rintro w6 ⟨X, C1, C2, S, hB⟩
        obtain ⟨x0, x1, x2, x3, x4⟩ := id X
        obtain ⟨s0, s1, s2, s3⟩ := id S
        have hB6 := hB.size
        have l16 := C1.lt (by omega)
        have l26 := C2.lt (by omega)
        have TX := fun w => take_any b A H s (by omega) (by omega) w
        by_cases z2 : tkE b A H s = 0
        · obtain ⟨⟨j1, j2⟩, j3, j4, j5⟩ := take_le z2
          rw [j4, j5, z2] at TX
          clear z2 j4 j5
          go_wp2_with fail
          refine (TX _).mono ?_
          rintro e w7 ⟨rfl, hw7⟩
          replace X := X.below hw7 x4
          replace C1 := C1.below hw7 (fun _ => l16)
          replace C2 := C2.below hw7 (fun _ => l26)
          replace S := S.below hw7 s3
          replace hB : Below w.heap.size w w7 := Below.call hB hB6 hw7
          have hs7 := hw7.size
          clear hw7 x0 x1 x2 x3 x4 s0 s1 s2 s3
          obtain ⟨x0, x1, x2, x3, x4⟩ := id X
          obtain ⟨s0, s1, s2, s3⟩ := id S
          have e1 := C2.cell i hin
          have e2 := C2.froz i hin
          have l17 := C1.lt (by omega)
          have l27 := C2.lt (by omega)
          have hB7 := hB.size
          go_upto_region 20 with fail
          refine wp_forget (fun W => At2 W w1.heap.size (.int .i64 A) (.int .i64 (H - s * 1000000)) ∧ Cells W w2.heap.size n g ∧ Cells W w3.heap.size n (fun j => if j = i then s * 1000000 else tk j) ∧ Below w.heap.size w W) ⟨((X.put (.int .i64 A) (.int .i64 (H - s * 1000000))).other (a := ⟨w3.heap.size, i, none⟩) (Ne.symm n2) _).alloc (.cells #[.int .i64 A, .int .i64 (H - s * 1000000)] 23), ((C1.others n1 (.int .i64 A) (.int .i64 (H - s * 1000000))).other (a := ⟨w3.heap.size, i, none⟩) (Ne.symm n3) _).alloc (.cells #[.int .i64 A, .int .i64 (H - s * 1000000)] 23), ((C2.others n2 (.int .i64 A) (.int .i64 (H - s * 1000000))).put hin (s * 1000000)).alloc (.cells #[.int .i64 A, .int .i64 (H - s * 1000000)] 23), by go_grown⟩ ?_
          clear X C1 C2 S hB x0 x1 x2 x3 x4 s0 s1 s2 s3 e1 e2 TX l17 l27 hB7
          rintro w8 ⟨X, C1, C2, hB⟩
          obtain ⟨x0, x1, x2, x3, x4⟩ := id X
          have hB8 := hB.size
          go_wp2_with fail
          refine (is_any b A (H - s * 1000000) (by omega) (by omega) true (isv_iff.2 (by omega)) _).mono ?_
          rintro e w9 ⟨rfl, hw9⟩
          have X9 := X.below hw9 x4
          have C19 := C1.of hw9
          have C29 := C2.of hw9
          replace hB := Below.call hB hB8 hw9
          clear hw9 X C1 C2 x0 x1 x2 x3 x4
          go_wp2_with fail
          exact ⟨⟨i + 1, A, (H - s * 1000000), _, _, _, by omega, by simp, X9, C19, C29, hB, HI.next (F := H) (x := 0) (y := s * 1000000) hI.out (by omega) (by omega) (fun j hj => rfl) (hI.out.gz i (Nat.le_refl _)) (fun j hj => by simp [hj]) (by simp) (by omega) (by omega) (by omega) (by omega) (by omega) (by omega) (by omega) (by omega)⟩, by simp only [intOf]; omega⟩
        · generalize tkA b A H s = A'' at *
          generalize tkH b A H s = H'' at *
          generalize tkE b A H s = E'' at *
          have zb2 : (E'' == 0) = false := by simp [z2]
          clear z2
          go_wp2_with fail
          refine (TX _).mono ?_
          rintro e w7 ⟨rfl, hw7⟩
          replace X := X.below hw7 x4
          replace C1 := C1.below hw7 (fun _ => l16)
          replace C2 := C2.below hw7 (fun _ => l26)
          replace S := S.below hw7 s3
          replace hB : Below w.heap.size w w7 := Below.call hB hB6 hw7
          have hs7 := hw7.size
          clear hw7 x0 x1 x2 x3 x4 s0 s1 s2 s3
          obtain ⟨x0, x1, x2, x3, x4⟩ := id X
          obtain ⟨s0, s1, s2, s3⟩ := id S
          have e1 := C2.cell i hin
          have e2 := C2.froz i hin
          have l17 := C1.lt (by omega)
          have l27 := C2.lt (by omega)
          have hB7 := hB.size
          go_upto_region 20 with fail
          refine wp_forget (fun W => At2 W w1.heap.size (.int .i64 A) (.int .i64 H) ∧ Cells W w2.heap.size n g ∧ Cells W w3.heap.size n tk ∧ Below w.heap.size w W) ⟨X.alloc (.cells #[.int .i64 A'', .int .i64 H''] 23), C1.alloc (.cells #[.int .i64 A'', .int .i64 H''] 23), C2.alloc (.cells #[.int .i64 A'', .int .i64 H''] 23), by go_grown⟩ ?_
          clear X C1 C2 S hB x0 x1 x2 x3 x4 s0 s1 s2 s3 e1 e2 TX l17 l27 hB7
          rintro w8 ⟨X, C1, C2, hB⟩
          obtain ⟨x0, x1, x2, x3, x4⟩ := id X
          have hB8 := hB.size
          go_wp2_with fail
          refine (is_any b A H (by omega) (by omega) true (isv_iff.2 (by omega)) _).mono ?_
          rintro e w9 ⟨rfl, hw9⟩
          have X9 := X.below hw9 x4
          have C19 := C1.of hw9
          have C29 := C2.of hw9
          replace hB := Below.call hB hB8 hw9
          clear hw9 X C1 C2 x0 x1 x2 x3 x4
          go_wp2_with fail
          exact ⟨⟨i + 1, A, H, _, _, _, by omega, by simp, X9, C19, C29, hB, HI.next (F := H) (x := 0) (y := 0) hI.out (by omega) (by omega) (fun j hj => rfl) (hI.out.gz i (Nat.le_refl _)) (fun j hj => rfl) (hI.out.tz i (Nat.le_refl _)) (by omega) (by omega) (by omega) (by omega) (by omega) (by omega) (by omega) (by omega)⟩, by simp only [intOf]; omega⟩
    · have hie : i = n := by omega
      subst hie
      clear X lX
      obtain ⟨wz, rfl⟩ : ∃ wz, wz = wr := ⟨_, rfl⟩
      go_wp2_with fail
      go_loopw [17] (fun v17 wq => ∃ k : Nat, k ≤ i ∧ v17 = .int .i64 k ∧ Below wz.heap.size wz wq) (fun v17 _ => i - (intOf v17).toNat)
      case atStart => exact ⟨0, Nat.zero_le _, rfl, Below.refl _ _⟩
      case round =>
        obtain ⟨m, hm, rfl, hq⟩ := hrel
        by_cases hmi : m < i
        · obtain ⟨wy, rfl⟩ : ∃ wy, wy = wr := ⟨_, rfl⟩
          go_wp2_with fail
          go_loopw [18, 19, 20] (fun v18 v19 v20 wq => ∃ (k : Nat) (I O : Int), m ≤ k ∧ k ≤ i ∧ v18 = .int .i64 I ∧ v19 = .int .i64 O ∧ v20 = .int .i64 k ∧ Below wz.heap.size wz wq ∧ Hid (HS b m k v I O)) (fun v18 v19 v20 _ => i - (intOf v20).toNat)
          case atStart => exact ⟨m, 0, 0, Nat.le_refl _, hm, rfl, rfl, rfl, hq, HS.start b m v⟩
          case round =>
            obtain ⟨k, I, O, hmk, hki, rfl, rfl, rfl, hq2, hS⟩ := hrel
            clear hq
            have i0 := hS.out.i0; have i1 := hS.out.i1; have o0 := hS.out.o0; have o1 := hS.out.o1
            by_cases hkn : k < i
            · have g1 := (C1.of hq2).cell k hkn
              have g2 := (C2.of hq2).cell k hkn
              have gb := hI.out.gb k
              have tb := hI.out.tb k
              by_cases hkm : m = k
              · subst hkm
                obtain ⟨z1, z2⟩ := HS.first hI.out hkn hS.out
                have Z1 : Hid (HS b m (m + 1) v I (O + tk m)) := z1
                clear z1
                generalize tk m = y at *
                have dz : decide (I + b * 1000000 < O + y) = false := decide_eq_false (by omega)
                go_wp2_with fail
                exact ⟨⟨m + 1, I, O + y, by omega, by omega, rfl, rfl, by simp, hq2, Z1⟩, by simp only [intOf]; omega⟩
              · obtain ⟨z1, z2⟩ := HS.more hI.out hkn (show m < k by omega) hS.out
                have Z1 : Hid (HS b m (k + 1) v (I + g k) (O + tk k)) := z1
                clear z1
                generalize tk k = y at *
                generalize g k = x at *
                have dz : decide (I + x + b * 1000000 < O + y) = false := decide_eq_false (by omega)
                have hmk2 : (m : Int) < k := by omega
                go_wp2_with fail
                exact ⟨⟨k + 1, I + x, O + y, by omega, by omega, rfl, rfl, by simp, hq2, Z1⟩, by simp only [intOf]; omega⟩
            · have hkk : k = i := by omega
              subst hkk
              go_wp2_with fail
              exact ⟨⟨m + 1, by omega, by simp, hq2⟩, by simp only [intOf]; omega⟩
        · have hmm : m = i := by omega
          subst hmm
          go_wp2_with fail
          refine (credited_any _).mono ?_
          rintro e w5 ⟨rfl, hw5⟩
          have hb5 : Below w.heap.size w w5 := Below.call (hB.trans (hq.mono hB.size)) (by have := hq.size; omega) hw5
          go_wp2
          go_ret
          exact ⟨rfl, hb5⟩
end Go.Proofs.Ytahlphbgnhklaaa
