/-
  The program's Row. No conditions but the row's own, and that it is short.
-/
import Derived.Test.YtiikdbadbocjcaaM8
import Derived.Test.YtiikdbadbocjcaaM5
namespace Go.Proofs.Ytiikdbadbocjcaa
open Go.RowKit
set_option linter.unusedVariables false
attribute [local go_sem] Later.cell Later.frozen
theorem own_two {w : World} {base : Nat} {e : TypeId} {size : Nat} {v : Value} {n : Nat} {xs : List Value} (h : w.ownsRow base e size v n xs) {b : Nat} (hb : b < base) (y0 y1 : Value) :
    ((w.setCell ⟨b, 0, none⟩ y0).setCell ⟨b, 1, none⟩ y1).ownsRow base e size v n xs := ownsRow_setCell_below (ownsRow_setCell_below h hb _) hb _
theorem own_lower {w : World} {base b2 : Nat} {e : TypeId} {size : Nat} {v : Value} {n : Nat} {xs : List Value} (h : w.ownsRow base e size v n xs) (hb : b2 ≤ base) : w.ownsRow b2 e size v n xs := by
  refine ⟨h.1, ?_⟩
  rcases h.2 with hn | ⟨g, cap, cur, rfl, hg, r⟩
  · exact .inl hn
  · exact .inr ⟨g, cap, cur, rfl, by omega, r⟩
theorem At1.others {w : World} {b : Nat} {x : Value} (h : At1 w b x) {c : Nat} (hc : c ≠ b) (u v : Value) : At1 ((w.setCell ⟨c, 0, none⟩ u).setCell ⟨c, 1, none⟩ v) b x := (h.other (a := ⟨c, 0, none⟩) hc u).other (a := ⟨c, 1, none⟩) hc v
theorem At1.of' {w w1 : World} {b : Nat} {x : Value} (h : At1 w b x) (hb : Below w.heap.size w w1) : At1 w1 b x := h.below hb h.lt
theorem At2.of' {w w1 : World} {b : Nat} {x y : Value} (h : At2 w b x y) (hb : Below w.heap.size w w1) : At2 w1 b x y := h.below hb h.lt
set_option maxHeartbeats 4000000 in
set_option maxRecDepth 100000 in
/-- Of a room that is none. -/
theorem row_none (m r : Int) (ao : Option Addr) (n c : Nat) (hm : wi m 1 1073741824 = false) (w : World) :
    Calls Try.prog 16 #[.int .i64 m, .int .i64 r, .slice ao n c] w fun e w' => e = .returned (.tuple #[.slice none 0 0, .agg #[.int .i64 0, .int .i64 0]]) ∧ Below w.heap.size w w' := by
  have R : At2 (w.alloc (.cells #[.int .i64 0, .int .i64 0] 23)) w.heap.size (.int .i64 0) (.int .i64 0) := At2.fresh _ _ _ _
  obtain ⟨x0, x1, x2, x3, x4⟩ := id R
  go_enter Try.func16, Try.ntmps16
  go_wp2_with fail
  refine (isRoom_any _ _ hm _).mono ?_
  rintro e w1 ⟨rfl, hw1⟩; subst hw1
  go_wp2_with (exact bodyPost_ret (v := .tuple #[.slice none 0 0, .agg #[.int .i64 0, .int .i64 0]]) (by simp [results, Try.results16, go_sem]) rfl ⟨rfl, by go_grown⟩)
set_option maxHeartbeats 4000000 in
set_option maxRecDepth 100000 in
/-- Of a room that is one. -/
theorem row_some (m r : Int) (ao : Option Addr) (n c : Nat) (Z : Nat → Ld) (hm : wi m 1 1073741824 = true) (hn : n ≤ 80) (w : World) (hz : Lds w ao n c Z) :
    Calls Try.prog 16 #[.int .i64 m, .int .i64 r, .slice ao n c] w fun e w' => (∃ ao' c', e = .returned (.tuple #[.slice ao' n c', .agg #[.int .i64 (qa m r Z n), .int .i64 (qw m r Z n)]]) ∧ w'.ownsRow w.heap.size 41 2 (.slice ao' n c') n (fcs (fts m r Z n))) ∧ Below w.heap.size w w' := by
  have hcap := hz.cap; have hmax := hz.max
  have hmx : maxLen = 9223372036854775807 := rfl
  go_enter Try.func16, Try.ntmps16
  go_wp2_with fail
  refine (isRoom_any _ _ hm _).mono ?_
  rintro e w1 ⟨rfl, hw1⟩; subst hw1
  go_wp2_with fail
  go_loopw [21] (fun v21 wr => ∃ (i : Nat) (ai : Option Addr) (ci : Nat), i ≤ n ∧ v21 = .int .i64 i ∧ At2 wr w.heap.size (.int .i64 0) (.int .i64 0) ∧ At1 wr (w.heap.size + 1) (.slice ai i ci) ∧ At2 wr (w.heap.size + 1 + 1) (.int .i64 (qa m r Z i)) (.int .i64 (qw m r Z i)) ∧ wr.ownsRow (w.heap.size + 1 + 1 + 1) 41 2 (.slice ai i ci) i (fcs (fts m r Z i)) ∧ Below w.heap.size w wr) (fun v21 _ => n - (intOf v21).toNat)
  case atStart => exact ⟨0, none, 0, Nat.zero_le _, rfl, by constructor <;> simp [go_sem], by constructor <;> simp [go_sem], by rw [qa_0, qw_0]; constructor <;> simp [go_sem], World.ownsRow_nil _ _ _ _, by go_grown⟩
  case round =>
    obtain ⟨i, ai, ci, hi, rfl, R, T, Q, own, hB⟩ := hrel
    obtain ⟨x0, x1, x2, x3, x4⟩ := id Q
    have lQ := Q.lt
    by_cases hin : i < n
    · obtain ⟨bo, o, rfl, hl0, hc⟩ := hz.at' (by omega)
      obtain ⟨q0, q1⟩ := hc i hin
      replace q0 := (hB.cell (p := ⟨bo, _, none⟩) hl0).trans q0
      replace q1 := (hB.cell (p := ⟨bo, _, none⟩) hl0).trans q1
      clear hc
      by_cases hE : fe m r Z i = 0
      · obtain ⟨e1, e2⟩ := q_yes hE
        have AR : ∀ w, Calls Try.prog 10 #[.int .i64 m, .agg #[.int .i64 (qa m r Z i), .int .i64 (qw m r Z i)], .int .i64 r, .agg #[.int .i64 (Z i).a, .int .i64 (Z i).s]] w fun e w' => e = .returned (.tuple #[.int .i64 (fl m r Z i), .agg #[.int .i64 (qa m r Z (i + 1)), .int .i64 (qw m r Z (i + 1))], .int .i64 0]) ∧ Below w.heap.size w w' := by
          intro w; have h := arrive_any m (qa m r Z i) (qw m r Z i) r (Z i).a (Z i).s w; rw [← e1, ← e2, show arE m (qa m r Z i) (qw m r Z i) r (Z i).a (Z i).s = 0 from hE] at h; exact h
        have hX : fx m r Z i = false := by unfold fx; rw [hE]; rfl
        generalize hF : fl m r Z i = F at AR
        generalize hA' : qa m r Z (i + 1) = a' at AR
        generalize hK' : qw m r Z (i + 1) = k' at AR
        have HL : Hid (fts m r Z (i + 1) = fts m r Z i ++ [(F, false)]) := by show _ = _; rw [← hX, ← hF]; rfl
        have H1 : Hid (qa m r Z (i + 1) = a') := hA'
        have H2 : Hid (qw m r Z (i + 1) = k') := hK'
        clear hX hF e1 e2 hA' hK' hE
        generalize fts m r Z i = L at *
        generalize qa m r Z i = a at *
        generalize qw m r Z i = k at *
        generalize (Z i).a = t at *
        generalize (Z i).s = s at *
        go_wp2_with fail
        refine (AR _).mono ?_
        rintro e w2 ⟨rfl, hw2⟩
        have R2 := (R.alloc (.cells #[.int .i64 t, .int .i64 s] 25)).of' hw2
        have T2 := (T.alloc (.cells #[.int .i64 t, .int .i64 s] 25)).of' hw2
        have Q2 := (Q.alloc (.cells #[.int .i64 t, .int .i64 s] 25)).of' hw2
        have own2 := own_below (own.alloc (.cells #[.int .i64 t, .int .i64 s] 25)) hw2
        have hB2 : Below w.heap.size w w2 := Below.call (show Below w.heap.size w _ by have := hB.size; go_grown) (by have := hB.size; simp; omega) hw2
        have l2 := Q2.lt
        clear hw2 AR R T Q own hB q0 q1 x0 x1 x2 x3 x4
        go_wp2_with fail
        refine (join_any (w.heap.size + 1) (w.heap.size + 1 + 1 + 1) ai i ci L F false (by omega) (by omega) _ (by simp; omega) (T2.alloc _) (own2.alloc _)).mono ?_
        rintro e w3 ⟨rfl, ao', c', T3, own3, g⟩
        have far : ∀ k', k' < (w.heap.size + 1 + 1 + 1) → some k' ≠ (Value.slice ai i ci).ownBlock := fun k' hk => own_far own2 hk
        have R3 := g.at2 (R2.alloc _) (by omega) (far _ (by omega))
        have Q3 := g.at2 (Q2.alloc _) (by omega) (far _ (by omega))
        have N3 := g.at2 (At2.fresh w2 (.int .i64 a') (.int .i64 k') 23) (by omega) (fun e => by have := (own2.lt _ e.symm).2; omega)
        have hB3 := g.below (show Below w.heap.size w _ by have := hB2.size; go_grown) (by simp; omega) (by omega) (fun k' e => by have := (own2.lt _ e).1; omega)
        clear g far T2 own2 hB2
        obtain ⟨x0, x1, x2, x3, x4⟩ := id Q3
        obtain ⟨y0, y1, y2, y3, y4⟩ := id N3
        go_wp2_with fail
        exact ⟨⟨i + 1, ao', c', by omega, by simp, R3.others (by omega) _ _, T3.others (by omega) _ _, by rw [H1.out, H2.out]; exact Q3.put _ _, by rw [HL.out]; exact own_two own3 (by omega) _ _, by have := hB3.size; go_grown⟩, by simp only [intOf]; omega⟩
      · obtain ⟨e1, e2⟩ := q_no hE
        have AR : ∀ w, Calls Try.prog 10 #[.int .i64 m, .agg #[.int .i64 (qa m r Z i), .int .i64 (qw m r Z i)], .int .i64 r, .agg #[.int .i64 (Z i).a, .int .i64 (Z i).s]] w fun e w' => e = .returned (.tuple #[.int .i64 0, .agg #[.int .i64 0, .int .i64 0], .int .i64 (fe m r Z i)]) ∧ Below w.heap.size w w' := by
          intro w; have h := arrive_any m (qa m r Z i) (qw m r Z i) r (Z i).a (Z i).s w; obtain ⟨f1, f2, f3⟩ := ar_no hE; rw [f1, f2, f3] at h; exact h
        have hX : fx m r Z i = true := by unfold fx; simp [hE]
        have hF := fl_no hE
        have hE1 : (fe m r Z i == 0) = false := by simp [hE]
        have hE2 : (fe m r Z i != 0) = true := by simp [hE]
        generalize fe m r Z i = E at *
        have HL : Hid (fts m r Z (i + 1) = fts m r Z i ++ [(0, true)]) := by show _ = _; rw [← hX, ← hF]; rfl
        have H1 : Hid (qa m r Z (i + 1) = qa m r Z i) := e1
        have H2 : Hid (qw m r Z (i + 1) = qw m r Z i) := e2
        clear hX hF e1 e2 hE
        generalize fts m r Z i = L at *
        generalize qa m r Z i = a at *
        generalize qw m r Z i = k at *
        generalize (Z i).a = t at *
        generalize (Z i).s = s at *
        go_wp2_with fail
        refine (AR _).mono ?_
        rintro e w2 ⟨rfl, hw2⟩
        have R2 := (R.alloc (.cells #[.int .i64 t, .int .i64 s] 25)).of' hw2
        have T2 := (T.alloc (.cells #[.int .i64 t, .int .i64 s] 25)).of' hw2
        have Q2 := (Q.alloc (.cells #[.int .i64 t, .int .i64 s] 25)).of' hw2
        have own2 := own_below (own.alloc (.cells #[.int .i64 t, .int .i64 s] 25)) hw2
        have hB2 : Below w.heap.size w w2 := Below.call (show Below w.heap.size w _ by have := hB.size; go_grown) (by have := hB.size; simp; omega) hw2
        have l2 := Q2.lt
        clear hw2 AR R T Q own hB q0 q1 x0 x1 x2 x3 x4
        go_wp2_with fail
        refine (join_any (w.heap.size + 1) (w.heap.size + 1 + 1 + 1) ai i ci L 0 true (by omega) (by omega) _ (by simp; omega) (T2.alloc _) (own2.alloc _)).mono ?_
        rintro e w3 ⟨rfl, ao', c', T3, own3, g⟩
        have far : ∀ k', k' < (w.heap.size + 1 + 1 + 1) → some k' ≠ (Value.slice ai i ci).ownBlock := fun k' hk => own_far own2 hk
        have R3 := g.at2 (R2.alloc _) (by omega) (far _ (by omega))
        have Q3 := g.at2 (Q2.alloc _) (by omega) (far _ (by omega))
        have N3 := g.at2 (At2.fresh w2 (.int .i64 0) (.int .i64 0) 23) (by omega) (fun e => by have := (own2.lt _ e.symm).2; omega)
        have hB3 := g.below (show Below w.heap.size w _ by have := hB2.size; go_grown) (by simp; omega) (by omega) (fun k' e => by have := (own2.lt _ e).1; omega)
        clear g far T2 own2 hB2
        obtain ⟨x0, x1, x2, x3, x4⟩ := id Q3
        obtain ⟨y0, y1, y2, y3, y4⟩ := id N3
        go_wp2_with fail
        exact ⟨⟨i + 1, ao', c', by omega, by simp, R3, T3, by rw [H1.out, H2.out]; exact Q3, by rw [HL.out]; exact own3, hB3⟩, by simp only [intOf]; omega⟩
    · obtain rfl : i = n := by omega
      obtain ⟨t0, t1, t2⟩ := id T
      obtain ⟨u0, u1⟩ := R.outs (.int .i64 (qa m r Z i)) (.int .i64 (qw m r Z i))
      obtain ⟨r0, r1, r2, r3, r4⟩ := id R
      have own2 := own_two own (b := w.heap.size) (by omega) (.int .i64 (qa m r Z i)) (.int .i64 (qw m r Z i))
      have hb := hB.size
      go_wp2_with fail
      go_region
      all_goals go_wp2_with (exact bodyPost_ret (v := .tuple #[.slice ai i ci, .agg #[.int .i64 (qa m r Z i), .int .i64 (qw m r Z i)]]) (by simp [results, Try.results16, go_sem, u0, u1]) rfl ⟨⟨ai, ci, rfl, own_lower own2 (by omega)⟩, by go_grown⟩)
end Go.Proofs.Ytiikdbadbocjcaa
