/-
  The reference's Row. No conditions but the row's own, and that it is short.
-/
import Derived.Test.YtiikdbadbocjcaaM9
import Derived.Test.YtiikdbadbocjcaaM6
import Derived.Deep.RegionHeld3
import Derived.Deep.CutBlock
namespace Go.Proofs.Ytiikdbadbocjcaa
open Go.RowKit
set_option linter.unusedVariables false
attribute [local go_sem] Later.cell Later.frozen
/-- A fate appended, as a step of a walk. -/
theorem wpF_append {w : World} {ops : Array Oper} {rest : List Oper} {o : Oper} {a : Act} {Q : Exit → Act → World → Prop} (hgd : o.guard = none) (s x : Operand)
    (ho : o.op = .call { callee := .builtin .append, args := #[s, x], argTypes := #[35, 35] })
    {base : Nat} {v : Value} {n : Nat} {L : List (Int × Bool)} {g : Nat} {p : Int} {q : Bool} (hs : a.eval s = v) (hx : a.eval x = .slice (some ⟨g, 0, none⟩) 1 1) (hv : w.ownsRow base 41 2 v n (fcs L)) (hb : base ≤ w.heap.size) (hn : n ≤ 1000)
    (c0 : w.cell? ⟨g, 0, none⟩ = some (.int .i64 p)) (c1 : w.cell? ⟨g, 1, none⟩ = some (.bool q))
    (h : ∀ ao c w', w'.ownsRow base 41 2 (.slice ao (n + 1) c) (n + 1) (fcs (L ++ [(p, q)])) → w.grownBy w' v.ownBlock → wpList Try.prog ops Q rest (a.put o.dst (.slice ao (n + 1) c)) w') : wpList Try.prog ops Q (o :: rest) a w := by
  refine wpList_plain hgd fun K hK => ?_
  obtain ⟨ao, c, w', hrun, h2, h3⟩ := fapp_run o.type hv hb hn c0 c1
  unfold apx at hrun
  unfold Oper.wp execOp
  simp only [ho, resolve, invoke, builtin, Sem.run_bind, Sem.run_pure, Result.andThen_ok, List.map_toArray, List.map_cons, List.map_nil, hs, hx, hrun]
  exact hK _ _ (h ao c w' h2 h3)
theorem At2.grown {w w' : World} {row : Option Nat} {b : Nat} {x y : Value} (h : At2 w b x y) (hg : w.grownBy w' row) (hr : some b ≠ row) : At2 w' b x y := by
  have e := hg.block b h.lt hr
  exact ⟨(World.cell?_of_block e).trans h.c0, (World.cell?_of_block e).trans h.c1, (World.frozen?_of_block e).trans h.f0, (World.frozen?_of_block e).trans h.f1, Nat.lt_of_lt_of_le h.lt hg.size⟩
theorem q_new {W w3 : World} {x y : Value} (h : Below W.heap.size W w3) : Below W.heap.size W (w3.alloc (.cells #[x, y] 23)) := h.alloc h.size _
theorem q_old {W w3 : World} {u v : Value} (h : Below W.heap.size W w3) : Below W.heap.size W ((w3.setCell ⟨W.heap.size, 0, none⟩ u).setCell ⟨W.heap.size, 1, none⟩ v) := by have := h.size; go_grown
set_option maxHeartbeats 4000000 in
set_option maxRecDepth 100000 in
/-- Of a room that is none. -/
theorem refRow_none (m r : Int) (ao : Option Addr) (n c : Nat) (hm : isq m 0 0 = false) (w : World) :
    Calls Try.prog 17 #[.int .i64 m, .int .i64 r, .slice ao n c] w fun e w' => e = .returned (.tuple #[.slice none 0 0, .agg #[.int .i64 0, .int .i64 0]]) ∧ Below w.heap.size w w' := by
  go_enter Try.func17, Try.ntmps17
  go_wp2_with fail
  refine (refIs_any _ _ _ _ hm _).mono ?_
  rintro e w1 ⟨rfl, hw1⟩
  have R : At2 w1 w.heap.size (.int .i64 0) (.int .i64 0) := At2.below (by constructor <;> simp [go_sem]) hw1 (by simp <;> omega)
  have Q : At2 w1 (w.heap.size + 1) (.int .i64 0) (.int .i64 0) := At2.below (by constructor <;> simp [go_sem]) hw1 (by simp <;> omega)
  have hb : Below w.heap.size w w1 := Below.call (by go_grown) (by simp <;> omega) hw1
  have hs := hb.size
  have hsq := Q.lt
  clear hw1
  obtain ⟨x0, x1, x2, x3, x4⟩ := id Q
  obtain ⟨z0, z1, z2, z3, z4⟩ := id R
  obtain ⟨u0, u1⟩ := R.outs (.int .i64 0) (.int .i64 0)
  go_wp2_with fail
  go_region
  all_goals go_wp2_with (exact bodyPost_ret (v := .tuple #[.slice none 0 0, .agg #[.int .i64 0, .int .i64 0]]) (by simp [results, Try.results17, go_sem, u0, u1]) rfl ⟨rfl, by go_grown⟩)
set_option maxHeartbeats 4000000 in
set_option maxRecDepth 100000 in
/-- Of a room that is one. -/
theorem refRow_some (m r : Int) (ao : Option Addr) (n c : Nat) (Z : Nat → Ld) (hm : isq m 0 0 = true) (hn : n ≤ 80) (w : World) (hz : Lds w ao n c Z) :
    Calls Try.prog 17 #[.int .i64 m, .int .i64 r, .slice ao n c] w fun e w' => (∃ ao' c', e = .returned (.tuple #[.slice ao' n c', .agg #[.int .i64 (qa m r Z n), .int .i64 (qw m r Z n)]]) ∧ w'.ownsRow w.heap.size 41 2 (.slice ao' n c') n (fcs (fts m r Z n))) ∧ Below w.heap.size w w' := by
  have hcap := hz.cap; have hmax := hz.max
  have hmx : maxLen = 9223372036854775807 := rfl
  go_enter Try.func17, Try.ntmps17
  go_wp2_with fail
  refine (refIs_any _ _ _ _ hm _).mono ?_
  rintro e w1 ⟨rfl, hw1⟩
  have R : At2 w1 w.heap.size (.int .i64 0) (.int .i64 0) := At2.below (by constructor <;> simp [go_sem]) hw1 (by simp <;> omega)
  have Q : At2 w1 (w.heap.size + 1) (.int .i64 0) (.int .i64 0) := At2.below (by constructor <;> simp [go_sem]) hw1 (by simp <;> omega)
  have hb : Below w.heap.size w w1 := Below.call (by go_grown) (by simp <;> omega) hw1
  clear hw1
  go_wp2_with fail
  go_loopw [9, 10] (fun v9 v10 wr => ∃ (i : Nat) (ai : Option Addr) (ci : Nat), i ≤ n ∧ v9 = .slice ai i ci ∧ v10 = .int .i64 i ∧ At2 wr w.heap.size (.int .i64 0) (.int .i64 0) ∧ At2 wr (w.heap.size + 1) (.int .i64 (qa m r Z i)) (.int .i64 (qw m r Z i)) ∧ wr.ownsRow (w.heap.size + 1 + 1) 41 2 (.slice ai i ci) i (fcs (fts m r Z i)) ∧ Below w.heap.size w wr) (fun _ v10 _ => n - (intOf v10).toNat)
  case atStart => exact ⟨0, none, 0, Nat.zero_le _, rfl, rfl, R, by rw [qa_0, qw_0]; exact Q, World.ownsRow_nil _ _ _ _, hb⟩
  case round =>
    clear R Q hb
    obtain ⟨i, ai, ci, hi, rfl, rfl, R, Q, own, hB⟩ := hrel
    obtain ⟨x0, x1, x2, x3, x4⟩ := id Q
    have lQ := Q.lt
    by_cases hin : i < n
    · obtain ⟨bo, o, rfl, hl0, hc⟩ := hz.at' (by omega)
      obtain ⟨q0, q1⟩ := hc i hin
      replace q0 := (hB.cell (p := ⟨bo, _, none⟩) hl0).trans q0
      replace q1 := (hB.cell (p := ⟨bo, _, none⟩) hl0).trans q1
      have hlt : bo < wr.heap.size := by have := hB.size; omega
      clear hc
      by_cases hE : fe m r Z i = 0
      · obtain ⟨e1, e2⟩ := q_yes hE
        have AR : ∀ w, Calls Try.prog 11 #[.int .i64 m, .agg #[.int .i64 (qa m r Z i), .int .i64 (qw m r Z i)], .int .i64 r, .agg #[.int .i64 (Z i).a, .int .i64 (Z i).s]] w fun e w' => e = .returned (.tuple #[.int .i64 (fl m r Z i), .agg #[.int .i64 (qa m r Z (i + 1)), .int .i64 (qw m r Z (i + 1))], .int .i64 0]) ∧ Below w.heap.size w w' := by
          intro w; have h := refArrive_any m (qa m r Z i) (qw m r Z i) r (Z i).a (Z i).s w; rw [← e1, ← e2, show arE m (qa m r Z i) (qw m r Z i) r (Z i).a (Z i).s = 0 from hE] at h; exact h
        have hX : fx m r Z i = false := by unfold fx; rw [hE]; rfl
        generalize hF : fl m r Z i = F at AR
        generalize hA' : qa m r Z (i + 1) = a' at AR
        generalize hK' : qw m r Z (i + 1) = k' at AR
        have HL : Hid (fts m r Z (i + 1) = fts m r Z i ++ [(F, false)]) := by show _ = _; rw [← hX, ← hF]; rfl
        have H1 : Hid (qa m r Z (i + 1) = a') := hA'
        have H2 : Hid (qw m r Z (i + 1) = k') := hK'
        clear hX hF e1 e2 hA' hK' hE
        generalize fts m r Z i = L at *
        generalize qa m r Z i = a at *
        generalize qw m r Z i = k at *
        generalize (Z i).a = t at *
        generalize (Z i).s = s at *
        go_upto_region 8 with fail
        go_cut [11, 12, 13] (fun v11 v12 v13 wc => ∃ b12 : Nat, v11 = .int .i64 F ∧ v12 = .pointer (some ⟨b12, 0, none⟩) ∧ v13 = .int .i64 0 ∧ At2 wc b12 (.int .i64 a') (.int .i64 k') ∧ wr.heap.size ≤ b12 ∧ Below wr.heap.size wr wc)
        case first =>
          have LD0 : ∀ w', Below wr.heap.size wr w' → w'.cell? ⟨(w.heap.size + 1), 0, none⟩ = some (.int .i64 a) := fun w' hw' => (hw'.cell (p := ⟨(w.heap.size + 1), 0, none⟩) lQ).trans x0
          have LD1 : ∀ w', Below wr.heap.size wr w' → w'.cell? ⟨(w.heap.size + 1), 1, none⟩ = some (.int .i64 k) := fun w' hw' => (hw'.cell (p := ⟨(w.heap.size + 1), 1, none⟩) lQ).trans x1
          have LD2 : ∀ w', Below wr.heap.size wr w' → w'.cell? ⟨bo, o + i * 2, none⟩ = some (.int .i64 t) := fun w' hw' => (hw'.cell (p := ⟨bo, _, none⟩) hlt).trans q0
          have LD3 : ∀ w', Below wr.heap.size wr w' → w'.cell? ⟨bo, o + i * 2 + 1, none⟩ = some (.int .i64 s) := fun w' hw' => (hw'.cell (p := ⟨bo, _, none⟩) hlt).trans q1
          clear R Q own x0 x1 x2 x3 x4 q0 q1
          go_wp2_with fail
          go_region_held3 (fun w' => Below wr.heap.size wr w')
            (first | with_reducible exact q_new (by assumption) | with_reducible exact q_old (by assumption) | with_reducible exact Below.refl _ _ | go_grown)
            (first
              | (go_at_call 11; refine (AR _).mono ?_; rintro e w7 ⟨rfl, hw7⟩; have g2 : Below wr.heap.size wr w7 := Below.call (by go_grown) (by simp) hw7; have l2 := g2.size; try (first | (have P2 := At2.after_fresh hw7; obtain ⟨s0', s1', s2', s3', s4'⟩ := id P2) | (have P2 := At2.after_fresh' hw7; obtain ⟨s0', s1', s2', s3', s4'⟩ := id P2))))
          all_goals
            go_wp2_with fail
            go_meet
            case rel =>
              first
                | exact ⟨w7.heap.size, rfl, rfl, rfl, At2.fresh _ _ _ _, g2.size, by go_grown⟩
                | exact ⟨_, rfl, rfl, rfl, P2.put _ _, Nat.le_refl _, by go_grown⟩
        case rest =>
          obtain ⟨b12, rfl, rfl, rfl, N, hbn, hw2⟩ := hcut
          have R2 := R.of' hw2
          have Q2 := Q.of' hw2
          have own2 := own_below own hw2
          have hB2 : Below w.heap.size w wc := hB.trans (hw2.mono hB.size)
          have lN := N.lt
          have l2 := Q2.lt
          clear hw2 AR R Q own hB q0 q1 x0 x1 x2 x3 x4
          obtain ⟨x0, x1, x2, x3, x4⟩ := id Q2
          obtain ⟨y0, y1, y2, y3, y4⟩ := id N
          have R3 := R2.others (c := (w.heap.size + 1)) (by omega) (.int .i64 a') (.int .i64 k')
          have Q3 := Q2.put (.int .i64 a') (.int .i64 k')
          have own3 := own_two own2 (b := (w.heap.size + 1)) (by omega) (.int .i64 a') (.int .i64 k')
          go_wp2_with (at_builtin; refine wpF_append rfl _ _ rfl (g := wc.heap.size) rfl rfl (own3.alloc _) (by simp; omega) (by omega) (p := F) (q := false) (by simp [go_sem]) (by simp [go_sem]) ?_; intro ao' c' w3 own4 gr)
          have far : ∀ k', k' < (w.heap.size + 1 + 1) → some k' ≠ (Value.slice ai i ci).ownBlock := fun k' hk => own_far own2 hk
          have R4 := (R3.alloc _).grown gr (far _ (by omega))
          have Q4 := (Q3.alloc _).grown gr (far _ (by omega))
          have hB4 := Below.grown (show Below w.heap.size w _ by have := hB2.size; go_grown) gr (by simp; omega) (fun k' e => by have := (own2.lt k' e).1; omega)
          clear far own2 own3 hB2 R2 R3 Q2 Q3 gr x0 x1 x2 x3 x4 y0 y1 y2 y3 y4 N
          go_wp2_with fail
          exact ⟨⟨i + 1, ao', c', by omega, rfl, by simp, R4, by rw [H1.out, H2.out]; exact Q4, by rw [HL.out]; exact own4, hB4⟩, by simp only [intOf]; omega⟩
      · obtain ⟨e1, e2⟩ := q_no hE
        have AR : ∀ w, Calls Try.prog 11 #[.int .i64 m, .agg #[.int .i64 (qa m r Z i), .int .i64 (qw m r Z i)], .int .i64 r, .agg #[.int .i64 (Z i).a, .int .i64 (Z i).s]] w fun e w' => e = .returned (.tuple #[.int .i64 0, .agg #[.int .i64 0, .int .i64 0], .int .i64 (fe m r Z i)]) ∧ Below w.heap.size w w' := by
          intro w; have h := refArrive_any m (qa m r Z i) (qw m r Z i) r (Z i).a (Z i).s w; obtain ⟨f1, f2, f3⟩ := ar_no hE; rw [f1, f2, f3] at h; exact h
        have hX : fx m r Z i = true := by unfold fx; simp [hE]
        have hF := fl_no hE
        have hE1 : (fe m r Z i == 0) = false := by simp [hE]
        have hE2 : (fe m r Z i != 0) = true := by simp [hE]
        generalize fe m r Z i = E at *
        have HL : Hid (fts m r Z (i + 1) = fts m r Z i ++ [(0, true)]) := by show _ = _; rw [← hX, ← hF]; rfl
        have H1 : Hid (qa m r Z (i + 1) = qa m r Z i) := e1
        have H2 : Hid (qw m r Z (i + 1) = qw m r Z i) := e2
        clear hX hF e1 e2 hE
        generalize fts m r Z i = L at *
        generalize qa m r Z i = a at *
        generalize qw m r Z i = k at *
        generalize (Z i).a = t at *
        generalize (Z i).s = s at *
        go_upto_region 8 with fail
        go_cut [11, 12, 13] (fun v11 v12 v13 wc => ∃ b12 : Nat, v11 = .int .i64 0 ∧ v12 = .pointer (some ⟨b12, 0, none⟩) ∧ v13 = .int .i64 E ∧ At2 wc b12 (.int .i64 0) (.int .i64 0) ∧ wr.heap.size ≤ b12 ∧ Below wr.heap.size wr wc)
        case first =>
          have LD0 : ∀ w', Below wr.heap.size wr w' → w'.cell? ⟨(w.heap.size + 1), 0, none⟩ = some (.int .i64 a) := fun w' hw' => (hw'.cell (p := ⟨(w.heap.size + 1), 0, none⟩) lQ).trans x0
          have LD1 : ∀ w', Below wr.heap.size wr w' → w'.cell? ⟨(w.heap.size + 1), 1, none⟩ = some (.int .i64 k) := fun w' hw' => (hw'.cell (p := ⟨(w.heap.size + 1), 1, none⟩) lQ).trans x1
          have LD2 : ∀ w', Below wr.heap.size wr w' → w'.cell? ⟨bo, o + i * 2, none⟩ = some (.int .i64 t) := fun w' hw' => (hw'.cell (p := ⟨bo, _, none⟩) hlt).trans q0
          have LD3 : ∀ w', Below wr.heap.size wr w' → w'.cell? ⟨bo, o + i * 2 + 1, none⟩ = some (.int .i64 s) := fun w' hw' => (hw'.cell (p := ⟨bo, _, none⟩) hlt).trans q1
          clear R Q own x0 x1 x2 x3 x4 q0 q1
          go_wp2_with fail
          go_region_held3 (fun w' => Below wr.heap.size wr w')
            (first | with_reducible exact q_new (by assumption) | with_reducible exact q_old (by assumption) | with_reducible exact Below.refl _ _ | go_grown)
            (first
              | (go_at_call 11; refine (AR _).mono ?_; rintro e w7 ⟨rfl, hw7⟩; have g2 : Below wr.heap.size wr w7 := Below.call (by go_grown) (by simp) hw7; have l2 := g2.size; try (first | (have P2 := At2.after_fresh hw7; obtain ⟨s0', s1', s2', s3', s4'⟩ := id P2) | (have P2 := At2.after_fresh' hw7; obtain ⟨s0', s1', s2', s3', s4'⟩ := id P2))))
          all_goals
            go_wp2_with fail
            go_meet
            case rel =>
              first
                | exact ⟨w7.heap.size, rfl, rfl, rfl, At2.fresh _ _ _ _, g2.size, by go_grown⟩
                | exact ⟨_, rfl, rfl, rfl, P2.put _ _, Nat.le_refl _, by go_grown⟩
        case rest =>
          obtain ⟨b12, rfl, rfl, rfl, N, hbn, hw2⟩ := hcut
          have R2 := R.of' hw2
          have Q2 := Q.of' hw2
          have own2 := own_below own hw2
          have hB2 : Below w.heap.size w wc := hB.trans (hw2.mono hB.size)
          have lN := N.lt
          have l2 := Q2.lt
          clear hw2 AR R Q own hB q0 q1 x0 x1 x2 x3 x4
          obtain ⟨x0, x1, x2, x3, x4⟩ := id Q2
          obtain ⟨y0, y1, y2, y3, y4⟩ := id N
          have R3 := R2
          have Q3 := Q2
          have own3 := own2
          go_wp2_with (at_builtin; refine wpF_append rfl _ _ rfl (g := wc.heap.size) rfl rfl (own3.alloc _) (by simp; omega) (by omega) (p := 0) (q := true) (by simp [go_sem]) (by simp [go_sem]) ?_; intro ao' c' w3 own4 gr)
          have far : ∀ k', k' < (w.heap.size + 1 + 1) → some k' ≠ (Value.slice ai i ci).ownBlock := fun k' hk => own_far own2 hk
          have R4 := (R3.alloc _).grown gr (far _ (by omega))
          have Q4 := (Q3.alloc _).grown gr (far _ (by omega))
          have hB4 := Below.grown (show Below w.heap.size w _ by have := hB2.size; go_grown) gr (by simp; omega) (fun k' e => by have := (own2.lt k' e).1; omega)
          clear far own2 own3 hB2 R2 R3 Q2 Q3 gr x0 x1 x2 x3 x4 y0 y1 y2 y3 y4 N
          go_wp2_with fail
          exact ⟨⟨i + 1, ao', c', by omega, rfl, by simp, R4, by rw [H1.out, H2.out]; exact Q4, by rw [HL.out]; exact own4, hB4⟩, by simp only [intOf]; omega⟩
    · obtain rfl : i = n := by omega
      obtain ⟨u0, u1⟩ := R.outs (.int .i64 (qa m r Z i)) (.int .i64 (qw m r Z i))
      obtain ⟨r0, r1, r2, r3, r4⟩ := id R
      have own2 := own_two own (b := w.heap.size) (by omega) (.int .i64 (qa m r Z i)) (.int .i64 (qw m r Z i))
      have hb := hB.size
      go_wp2_with fail
      go_region
      all_goals go_wp2_with (exact bodyPost_ret (v := .tuple #[.slice ai i ci, .agg #[.int .i64 (qa m r Z i), .int .i64 (qw m r Z i)]]) (by simp [results, Try.results17, go_sem, u0, u1]) rfl ⟨⟨ai, ci, rfl, own_lower own2 (by omega)⟩, by go_grown⟩)
end Go.Proofs.Ytiikdbadbocjcaa
