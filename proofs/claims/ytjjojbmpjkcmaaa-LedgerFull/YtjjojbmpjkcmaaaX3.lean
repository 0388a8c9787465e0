/-
  LedgerFull's walk. No conditions.
-/
import Derived.Test.YtjjojbmpjkcmaaaX2
namespace Go.Proofs.Ytjjojbmpjkcmaaa
open Go.RowKit Go.Maps
set_option linter.unusedVariables false
theorem take_full {R : Nat} {first : Int} (k0 : 1 ≤ R) (k1 : R ≤ 300) (f0 : 0 ≤ first) (f1 : first ≤ 1000000) (lb mb : Nat) (w : World) (H : Led w lb mb (fl R first R)) (x a : Int) (a0 : 0 ≤ a) (a1 : a < R) (hx : x = first + a) :
    Calls Try.prog 11 #[.pointer (some ⟨lb, 0, none⟩), .int .u64 x] w fun e w' =>
      e = .returned (.tuple #[.agg #[.int .u64 x, .int .i64 a, .int .i64 (1 + a), .int .i64 a], .int .i64 0]) ∧
      (∃ L : List Pt, L.length + 1 = R ∧ Led w' lb mb { fl R first R with oldest := first, L := L } ∧ ({ fl R first R with oldest := first, L := L } : Lg).ok) ∧ Far [lb, mb] w w' := by
  obtain ⟨n, rfl⟩ : ∃ n : Nat, a = n := ⟨a.toNat, by omega⟩
  have hok := fl_ok (R := R) (first := first) k0 k1 f0 f1 R (Nat.le_refl _)
  obtain ⟨e1, e2, e3, e4⟩ := fl_take (a := n) (by omega) hok
  have ht := taken_ok hok (first + n)
  subst hx
  refine (take_any lb mb _ hok (first + n) (by omega) (by omega) w H).mono ?_
  rintro e w' ⟨rfl, H', F⟩
  rw [e3] at H' ht
  exact ⟨by rw [e1, e2]; rfl, ⟨_, e4, H', ht⟩, F⟩
set_option maxRecDepth 8000 in
set_option maxHeartbeats 2000000 in
theorem full_walk (room first which : Int) (ex : Bool) (r0 : -9223372036854775808 ≤ room) (r1 : room ≤ 9223372036854775807) (f0 : 0 ≤ first) (f1 : first ≤ 18446744073709551615) (h0 : -9223372036854775808 ≤ which) (h1 : which ≤ 9223372036854775807) (w : World) :
    Calls Try.prog 5 #[.int .i64 room, .int .u64 first, .int .i64 which, .bool ex] w fun e w' => e = .returned (.bool true) ∧ Below w.heap.size w w' := by
  go_enter Try.func5, Try.ntmps5
  by_cases hr : room < 1 ∨ 4096 < room
  · go_wp2_with fail
    refine (new_no room first hr _).mono ?_
    rintro e w1 ⟨rfl, B1⟩
    go_wp2_with fail
    refine (entered_any _).mono ?_
    rintro e w2 ⟨rfl, B2⟩
    have B3 := B1.trans (B2.mono B1.size)
    go_wp2_with fail
    go_ret
    exact ⟨rfl, B3⟩
  · obtain ⟨R, rfl⟩ : ∃ R : Nat, room = (R : Int) := ⟨room.toNat, by omega⟩
    go_wp2_with fail
    refine (new_yes R first (by omega) (by omega) f0 f1 _).mono ?_
    rintro e w1 ⟨lb, mb, rfl, H1, hl, hm, B1⟩
    have hS : ∀ b ∈ [lb, mb], w.heap.size ≤ b := by simp; omega
    by_cases hn : 300 < (R : Int)
    · go_wp2_with fail
      refine (entered_any _).mono ?_
      rintro e w2 ⟨rfl, B2⟩
      have B3 := B1.trans (B2.mono B1.size)
      go_wp2_with fail
      go_ret
      exact ⟨rfl, B3⟩
    by_cases hb1 : 1000000 < first
    · have hn1 : ¬ (R : Int) < 1 := by omega
      go_wp2_with fail
      refine (entered_any _).mono ?_
      rintro e w2 ⟨rfl, B2⟩
      have B3 := B1.trans (B2.mono B1.size)
      go_wp2_with fail
      go_ret
      exact ⟨rfl, B3⟩
    have hn1 : ¬ (R : Int) < 1 := by omega
    have k0 : 1 ≤ R := by omega
    have k1 : R ≤ 300 := by omega
    have f2 : first ≤ 1000000 := by omega
    rw [fl_new] at H1
    go_wp2_with fail
    go_loopw [11] (fun vi wr => ∃ i : Nat, i ≤ R ∧ vi = .int .i64 i ∧ Led wr lb mb (fl R first i) ∧ Below w.heap.size w wr) (fun vi _ => R - (intOf vi).toNat)
    case atStart => exact ⟨0, Nat.zero_le _, rfl, H1, B1⟩
    case round =>
      obtain ⟨i, hi, rfl, HL, hB⟩ := hrel
      have hok := fl_ok (R := R) (first := first) k0 k1 f0 f2 i hi
      by_cases hin : (i : Int) < (R : Int)
      · obtain ⟨e1, e2, e3⟩ := fl_send (R := R) (first := first) (i := i) (by omega) k1 f2
        have c1 := send_any lb mb _ hok i (1 + i) i wr HL
        rw [e1, e2, e3] at c1
        clear e1 e2 e3
        go_wp2_with fail
        refine c1.mono ?_
        rintro e w2 ⟨rfl, H2, F⟩
        have B2 := Far.call hB hB.size F hS
        clear F HL hB c1
        have s1 : 0 ≤ first + (i : Int) := by omega
        go_wp2_with fail
        exact ⟨⟨i + 1, by omega, by simp, H2, B2⟩, by simp only [intOf]; omega⟩
      · obtain rfl : i = R := by omega
        go_wp2_with fail
        refine (open_any lb mb _ hok _ HL).mono ?_
        rintro e w2 ⟨va, rfl, owna, B2⟩
        rw [show (fl i first i).L.length = i from fL_len first i] at owna
        have HL2 := HL.below B2
        have B2' := hB.trans (B2.mono hB.size)
        have hlb := HL.ob.lt
        have hmb := HL.map.lt
        obtain ⟨aa, ca, rfl, PA⟩ := Pks.own owna
        clear B2 HL hB
        have hge := B2'.size
        obtain ⟨e1, e2, e3⟩ := fl_full (R := i) (first := first) k0 k1
        have c1 := send_any lb mb _ hok 0 1 i w2 HL2
        rw [e1, e2, e3] at c1
        clear e1 e2 e3
        go_wp2_with fail
        refine c1.mono ?_
        rintro e w3 ⟨rfl, H3, F⟩
        have hlm : ∀ b ∈ [lb, mb], b < wr.heap.size := by
          have := hlb; have := hmb
          simp; omega
        replace owna := own_far owna F hlm
        have B3 := Far.call B2' B2'.size F hS
        clear F HL2 B2' c1 PA
        go_wp2_with fail
        have fr : Calls Try.prog 18 #[.pointer (some ⟨lb, 0, none⟩)] w3 fun e w' => e = .returned (.int .i64 0) ∧ ∃ q, w' = w3.drewN q := by
          have := free_any lb mb _ hok w3 H3
          rw [show (fl i first i).room - ((fl i first i).L.length : Int) = 0 by show (i : Int) - ((fL first i).length : Int) = 0; rw [fL_len]; omega] at this
          exact this
        refine fr.mono ?_
        rintro e w4 ⟨rfl, q, rfl⟩
        have F4 : Far [] w3 (w3.drewN q) := (Far.refl _ _).drewN q
        have H4 := H3.drewN q
        replace owna := own_far owna F4 (by simp)
        have B4 := Far.call B3 B3.size F4 (by simp)
        clear fr H3 B3 F4
        generalize w3.drewN q = w4 at *
        go_wp2_with fail
        have nx : Calls Try.prog 17 #[.pointer (some ⟨lb, 0, none⟩)] w4 fun e w' => e = .returned (.int .u64 (first + i)) ∧ Below w4.heap.size w4 w' := next_any lb mb _ w4 H4
        refine nx.mono ?_
        rintro e w5 ⟨rfl, B⟩
        have H5 := H4.below B
        replace owna := own_far owna (Far.of_below B) (by simp)
        have B5 := B4.trans (B.mono B4.size)
        clear nx H4 B4 B
        go_wp2_with fail
        refine (open_any lb mb _ hok _ H5).mono ?_
        rintro e w6 ⟨vb, rfl, ownb, B⟩
        rw [show (fl i first i).L.length = i from fL_len first i] at ownb
        have H6 := H5.below B
        replace owna := own_far owna (Far.of_below B) (by simp)
        have B6 := B5.trans (B.mono B5.size)
        obtain ⟨_, _, ea, PA⟩ := Pks.own owna
        cases ea
        obtain ⟨ab, cb, rfl, PB⟩ := Pks.own ownb
        clear H5 B5 B owna ownb
        go_wp2_with fail
        have sm := same_any _ _ _ _ _ _ _ _ _ PA PB
        rw [show decide ((fl i first i).L = (fl i first i).L) = true from decide_eq_true rfl] at sm
        refine sm.mono ?_
        rintro e w7 ⟨rfl, B⟩
        have H7 := H6.below B
        have B7 := B6.trans (B.mono B6.size)
        have s1 : 0 ≤ first + (i : Int) := by omega
        clear sm PA PB H6 B6 B
        have hlb7 := H7.ob.lt
        have hmb7 := H7.map.lt
        cases ex
        · go_wp2_with fail
          all_goals first
            | (exfalso; omega)
            | refine (take_full k0 k1 f0 f2 lb mb _ H7 _ which (by omega) (by omega) (by omega)).mono ?_
            | refine (take_full k0 k1 f0 f2 lb mb _ H7 _ ((i : Int) - 1) (by omega) (by omega) (by omega)).mono ?_
            | refine (take_full k0 k1 f0 f2 lb mb _ H7 _ 0 (by omega) (by omega) (by omega)).mono ?_
          all_goals
            rintro e w8 ⟨rfl, ⟨L, hL, H8, ok8⟩, F⟩
            have B8 := Far.call B7 B7.size F hS
            clear H7 F B7
            go_wp2_with fail
          all_goals
            have C8 : ∀ o, Below w.heap.size w (w8.alloc o) := fun o => B8.alloc B8.size o
            refine (last_send k0 k1 f0 f2 hL lb mb _ ok8 (H8.far ((Far.refl [] w8).alloc _) (by simp) (by simp))).mono ?_
            rintro e w9 ⟨rfl, ⟨s, oks, H9, hs0⟩, F⟩
            have B9 := Far.call (C8 _) (C8 _).size F hS
            clear F
            go_wp2_with fail
            refine (entered_any _).mono ?_
            rintro e w10 ⟨rfl, B⟩
            have H10 := H9.below B
            have B10 := B9.trans (B.mono B9.size)
            clear H9 B B9
            go_wp2_with fail
            have fr : Calls Try.prog 18 #[.pointer (some ⟨lb, 0, none⟩)] w10 fun e w' => e = .returned (.int .i64 0) ∧ ∃ q, w' = w10.drewN q := by
              have := free_any lb mb _ oks w10 H10
              rw [hs0] at this
              exact this
            refine fr.mono ?_
            rintro e w11 ⟨rfl, q, rfl⟩
            have B11 := Far.call B10 B10.size ((Far.refl [] w10).drewN q) (by simp)
            clear fr H10 B10
            go_wp2_with fail
            go_ret
            exact ⟨by simp, B11⟩
        · go_wp2_with fail
          refine (expire_any lb mb _ hok 0 0 (by omega) (by omega) (by omega) (by omega) _ H7).mono ?_
          rintro e w8 ⟨v, rfl, own, ⟨o, H8, ok8⟩, F⟩
          have B8 := Far.call B7 B7.size F hS
          have hfl := filter_two (isover 0 0) (fL first i)
          rw [fL_over k0, fL_len] at hfl
          rw [show (fl i first i).L.filter (isover 0 0) = [fP first 0] from fL_over k0] at own
          obtain ⟨av, cv, rfl, PV⟩ := Pks.own own
          have H8' : Led w8 lb mb { fl i first i with oldest := o, L := (fL first i).filter fun p => !isover 0 0 p } := H8
          have ok8' : ({ fl i first i with oldest := o, L := (fL first i).filter fun p => !isover 0 0 p } : Lg).ok := ok8
          have hL : ((fL first i).filter fun p => !isover 0 0 p).length + 1 = i := by simp only [List.length_cons, List.length_nil] at hfl; omega
          clear H7 F B7 own PV H8 ok8 hfl
          generalize ((fL first i).filter fun p => !isover 0 0 p) = L at *
          have e1 : ([fP first 0] : List Pt).length = 1 := rfl
          rw [e1]
          clear e1
          go_wp2_with fail
          refine (last_send k0 k1 f0 f2 hL lb mb _ ok8' H8').mono ?_
          rintro e w9 ⟨rfl, ⟨s, oks, H9, hs0⟩, F⟩
          have B9 := Far.call B8 B8.size F hS
          clear F
          go_wp2_with fail
          refine (entered_any _).mono ?_
          rintro e w10 ⟨rfl, B⟩
          have H10 := H9.below B
          have B10 := B9.trans (B.mono B9.size)
          clear H9 B B9
          go_wp2_with fail
          have fr : Calls Try.prog 18 #[.pointer (some ⟨lb, 0, none⟩)] w10 fun e w' => e = .returned (.int .i64 0) ∧ ∃ q, w' = w10.drewN q := by
            have := free_any lb mb _ oks w10 H10
            rw [hs0] at this
            exact this
          refine fr.mono ?_
          rintro e w11 ⟨rfl, q, rfl⟩
          have B11 := Far.call B10 B10.size ((Far.refl [] w10).drewN q) (by simp)
          clear fr H10 B10
          go_wp2_with fail
          go_ret
          exact ⟨by simp, B11⟩
end Go.Proofs.Ytjjojbmpjkcmaaa
