/-
  The program's books: a packet's way ends. No conditions but the books' own.
-/
import Derived.Test.YtpaalpnoppblaaaZ5
import Derived.Test.YtpaalpnoppblaaaZ6
import Derived.Deep.RegionHeld3
namespace Go.Proofs.Ytpaalpnoppblaaa
open Go.RowKit Go.Maps
set_option linter.unusedVariables false
set_option maxRecDepth 8000
/-- An interval's place in a row, as the program reckons it. -/
theorem Fit.spot {s : Bk} (h : Fit s) {i : Int} (h0 : s.begun - s.L.length ≤ i) (h1 : i < s.begun) : ∃ (j : Nat) (hj : j < s.L.length), IntKind.i64.wrap (i - (s.L[0]'(Nat.zero_lt_of_lt hj)).id) = (j : Int) ∧ ∀ f, s.L.set j (f s.L[j]) = chg s.L i f := by
  obtain ⟨j, hj, e, hid, hu⟩ := h.place h0 h1
  refine ⟨j, hj, ?_, fun f => chg_set hj hu f⟩
  rw [h.ids 0 (Nat.zero_lt_of_lt hj)]
  have hl := h.len
  have : i - (s.begun - s.L.length + ((0 : Nat) : Int)) = j := by omega
  rw [this]
  unfold IntKind.wrap; simp [IntKind.bits, IntKind.signed]; omega
set_option maxHeartbeats 4000000 in
theorem settle_any (k : Bool) (bb lb mb : Nat) (ao : Option Addr) (g o c : Nat) (S : List Nat) (s : Bk) (hf : Fit s) (x a : Int) (x0 : 0 ≤ x) (x1 : x ≤ 18446744073709551615) (a0 : -9223372036854775808 ≤ a) (a1 : a ≤ 9223372036854775807) (w : World) (HB : Bks w bb lb mb ao g o c S s) :
    Calls Try.prog 39 #[.pointer (some ⟨bb, 0, none⟩), .int .u64 x, .agg #[.int .i64 a, hval k]] w fun e w' =>
      e = .returned (.tuple #[.agg #[.int .u64 (stP s x a).seq, .int .i64 (stP s x a).mi, .int .i64 (stP s x a).size, .int .i64 (stP s x a).sent], .int .i64 (stE s x a)]) ∧ Bka w' bb S (stL k s x a) ∧ Far S w w' := by
  go_enter Try.func39, Try.ntmps39
  go_upto_region 1 with fail
  have BW : Below w.heap.size w ((w.alloc (.cells #[.int .i64 a, hval k] 87)).alloc (.cells #[.int .u64 0, .int .i64 0, .int .i64 0, .int .i64 0] 57)) := by go_grown
  have EB := (Ob.fresh w #[.int .i64 a, hval k] 87).far ((Far.refl [] _).alloc (.cells #[.int .u64 0, .int .i64 0, .int .i64 0, .int .i64 0] 57)) (by simp)
  have PB := Ob.fresh (w.alloc (.cells #[.int .i64 a, hval k] 87)) #[.int .u64 0, .int .i64 0, .int .i64 0, .int .i64 0] 57
  rw [World.size_alloc] at PB
  have HB1 := HB.below BW
  have F1 : Far S w ((w.alloc (.cells #[.int .i64 a, hval k] 87)).alloc (.cells #[.int .u64 0, .int .i64 0, .int .i64 0, .int .i64 0] 57)) := (Far.of_below BW).mono (by simp)
  have hlow : ∀ q ∈ S, q < w.heap.size := HB.low
  have hbn : ∀ q, w.heap.size ≤ q → q ∉ S := fun q hq hm => by have := hlow q hm; omega
  generalize ((w.alloc (.cells #[.int .i64 a, hval k] 87)).alloc (.cells #[.int .u64 0, .int .i64 0, .int .i64 0, .int .i64 0] 57)) = W at *
  obtain ⟨eb, heb⟩ : ∃ eb, w.heap.size = eb := ⟨_, rfl⟩
  simp only [heb] at EB PB hlow hbn ⊢
  clear BW HB
  obtain ⟨c0, c1, c2, c3, c4, fz⟩ := HB1.cells
  have e0 : W.cell? ⟨eb, 0, none⟩ = some (.int .i64 a) := EB.cell rfl
  go_cut [16] (fun s16 wx => ∃ b, s16 = .bool b ∧ decide (a < s.now ∨ 1099511627776 < a) = b ∧ Below W.heap.size W wx)
  case first =>
    go_region_with (first | (go_at_call 64; refine (early_any s.now a _).mono ?_; rintro e w3 ⟨rfl, hw3⟩))
    all_goals go_wp2_with fail
    all_goals go_meet
    all_goals exact ⟨_, rfl, by simp, below_drew hw3⟩
  case rest =>
    obtain ⟨b, rfl, hbE, hw1⟩ := hcut
    have HB2 := HB1.below hw1
    have EB2 := EB.far (Far.of_below hw1) (by simp)
    have PB2 : Ob wc (eb + 1) (pc ⟨0, 0, 0, 0⟩) := PB.far (Far.of_below hw1) (by simp)
    have F2 : Far S w wc := F1.below hw1
    clear HB1 EB PB F1 c0 c1 c2 c3 c4 fz e0 hw1
    obtain ⟨c0, c1, c2, c3, c4, fz⟩ := HB2.cells
    cases b
    rotate_left
    · have he : earlyP s a := by unfold earlyP; simpa using hbE
      have E : Hid (stE s x a = 10 ∧ stP s x a = ⟨0, 0, 0, 0⟩ ∧ stL k s x a = s) := ⟨by simp [stE, he], by simp [stP, stE, he], by simp [stL, stE, he]⟩
      have z0 : wc.cell? ⟨eb + 1, 0, none⟩ = some (.int .u64 0) := PB2.cell rfl
      have z1 : wc.cell? ⟨eb + 1, 1, none⟩ = some (.int .i64 0) := PB2.cell rfl
      have z2 : wc.cell? ⟨eb + 1, 2, none⟩ = some (.int .i64 0) := PB2.cell rfl
      have z3 : wc.cell? ⟨eb + 1, 3, none⟩ = some (.int .i64 0) := PB2.cell rfl
      have zf := PB2.f
      have OP := PB2.putP ⟨0, 0, 0, 0⟩
      have FP : Far [eb + 1] wc (wc.putP (eb + 1) ⟨0, 0, 0, 0⟩) := (Far.refl _ _).putP (.inr (by simp)) _
      have HB3 := HB2.far FP (fun q hq => by simp; intro e; subst e; exact hbn _ (by omega) hq)
      have F3 : Far S w (wc.putP (eb + 1) ⟨0, 0, 0, 0⟩) := F2.putP (.inl (by omega)) _
      clear HB2 EB2 PB2 F2
      go_wp2_with fail
      exact bodyPost_ret (results_P2 (q := ⟨0, 0, 0, 0⟩) (v := .int .i64 10) rfl OP rfl rfl) rfl ⟨by rw [E.out.1, E.out.2.1], by rw [E.out.2.2]; exact ⟨_, _, _, _, _, _, HB3⟩, F3⟩
    have he : ¬ earlyP s a := by unfold earlyP; simpa using hbE
    have HE : Hid (¬ earlyP s a) := he
    clear he hbE
    have hok := hf.ok
    have hb2 : lb < eb := hlow _ HB2.m2
    have hb3 : mb < eb := hlow _ HB2.m3
    go_wp2_with fail
    refine (take_any lb mb s.l hok x x0 x1 _ HB2.led).mono ?_
    rintro e w3 ⟨rfl, HL3, F3⟩
    have HB3 := HB2.ledger F3 HL3
    have EB3 := EB2.far F3 (by simp; omega)
    have PB3 := PB2.far F3 (by simp; omega)
    have FW3 : Far S w w3 := F2.trans (F3.mono (by simp; exact ⟨HB2.m2, HB2.m3⟩))
    clear HB2 EB2 PB2 F2 F3 HL3 c0 c1 c2 c3 c4 fz
    by_cases hr : tkv s.l x = 0
    rotate_left
    · have e : stE s x a = tkv s.l x := by unfold stE; rw [if_neg HE.out]
      have E : Hid (stE s x a = tkv s.l x ∧ stP s x a = ⟨0, 0, 0, 0⟩ ∧ stL k s x a = s) := ⟨e, by unfold stP; rw [if_neg (by rw [e]; exact hr)], by unfold stL; rw [if_neg (by rw [e]; exact hr)]⟩
      have ht : takenL s.l x = s.l := (tk_not hr).1
      rw [ht] at HB3
      have HB4 : Bks w3 bb lb mb ao g o c S s := HB3
      clear HB3 ht e
      generalize tkv s.l x = RV at *
      obtain ⟨P, hP⟩ : ∃ P, tkp s.l x = P := ⟨_, rfl⟩
      rw [hP]
      clear hP
      have z0 : w3.cell? ⟨eb + 1, 0, none⟩ = some (.int .u64 0) := PB3.cell rfl
      have z1 : w3.cell? ⟨eb + 1, 1, none⟩ = some (.int .i64 0) := PB3.cell rfl
      have z2 : w3.cell? ⟨eb + 1, 2, none⟩ = some (.int .i64 0) := PB3.cell rfl
      have z3 : w3.cell? ⟨eb + 1, 3, none⟩ = some (.int .i64 0) := PB3.cell rfl
      have zf := PB3.f
      have zl := PB3.lt
      have OP := (PB3.putP ⟨0, 0, 0, 0⟩).far ((Far.refl [] _).alloc (.cells #[.int .u64 P.seq, .int .i64 P.mi, .int .i64 P.size, .int .i64 P.sent] 57)) (by simp)
      have HB5 := (HB4.far (w1 := w3.putP (eb + 1) ⟨0, 0, 0, 0⟩) ((Far.refl [eb + 1] _).putP (.inr (by simp)) _) (fun q hq => by simp; intro e; subst e; exact hbn _ (by omega) hq)).far ((Far.refl [] _).alloc (.cells #[.int .u64 P.seq, .int .i64 P.mi, .int .i64 P.size, .int .i64 P.sent] 57)) (by simp)
      have F5 : Far S w ((w3.putP (eb + 1) ⟨0, 0, 0, 0⟩).alloc (.cells #[.int .u64 P.seq, .int .i64 P.mi, .int .i64 P.size, .int .i64 P.sent] 57)) := (FW3.putP (.inl (by omega)) _).alloc _
      clear HB4 FW3 PB3 EB3
      go_wp2_with fail
      exact bodyPost_ret (results_P2 (q := ⟨0, 0, 0, 0⟩) (v := .int .i64 RV) rfl OP rfl rfl) rfl ⟨by rw [E.out.1, E.out.2.1], by rw [E.out.2.2]; exact ⟨_, _, _, _, _, _, HB5⟩, F5⟩
    · obtain ⟨htm, htx, htp, htl⟩ := tk_is hok hr
      have hpk := hf.pk _ htm
      have htb := hok.tb _ htm
      have hl1 := hok.l1
      obtain ⟨j, hj, hwr, hset⟩ := hf.spot hpk.1 hpk.2
      have e : stE s x a = 0 := by unfold stE; rw [if_neg HE.out]; exact hr
      have E : Hid (stE s x a = 0 ∧ stP s x a = tkp s.l x ∧ stL k s x a = { s with l := takenL s.l x, now := a, L := s.L.set j (howV k s.L[j] (tkp s.l x) a) }) := by
        refine ⟨e, by unfold stP; rw [if_pos e], ?_⟩
        unfold stL; rw [if_pos e, ← hset (fun m => howV k m (tkp s.l x) a)]
      clear e hset htm htx htp htl hpk
      rw [hr]
      obtain ⟨P, hP⟩ : ∃ P, tkp s.l x = P := ⟨_, rfl⟩
      rw [hP] at E hwr htb ⊢
      clear hP
      obtain ⟨q0, hq0⟩ : ∃ q0, (s.L[0]'(Nat.zero_lt_of_lt hj)).id = q0 := ⟨_, rfl⟩
      rw [hq0] at hwr
      have HQ : Hid ((s.L[0]'(Nat.zero_lt_of_lt hj)).id = q0) := hq0
      have HW : Hid (IntKind.i64.wrap (P.mi - q0) = (j : Int)) := hwr
      have e0 : w3.cell? ⟨eb, 0, none⟩ = some (.int .i64 a) := EB3.cell rfl
      have e1 : w3.cell? ⟨eb, 1, none⟩ = some (hval k) := EB3.cell rfl
      have zl := EB3.lt
      clear hq0 hwr
      have FA : Far [] w3 (w3.alloc (.cells #[.int .u64 P.seq, .int .i64 P.mi, .int .i64 P.size, .int .i64 P.sent] 57)) := (Far.refl _ _).alloc _
      have HBA := HB3.far FA (by simp)
      have PA := PB3.far FA (by simp)
      have EA := EB3.far FA (by simp)
      have QA := Ob.fresh w3 #[.int .u64 P.seq, .int .i64 P.mi, .int .i64 P.size, .int .i64 P.sent] 57
      have FWA := FW3.alloc (.cells #[.int .u64 P.seq, .int .i64 P.mi, .int .i64 P.size, .int .i64 P.sent] 57)
      have hqb : eb + 1 < w3.heap.size := PB3.lt
      clear HB3 PB3 EB3 FW3
      go_wp2_with fail
      refine (charge_any k bb lb mb ao g o c S ({ s with l := takenL s.l x } : Bk) P a (by omega) (by omega) j hj q0 HQ.out HW.out _ HBA).mono ?_
      rintro e w4 ⟨rfl, HB4, F4⟩
      have hc0 : 0 < c := by have := HBA.row.cap; simp at this; omega
      have hgl : g < eb := hlow _ (HBA.ng hc0).2.2.2
      have hbl : bb < eb := hlow _ HBA.m1
      have QA4 := QA.far F4 (by simp; omega)
      have PA4 := PA.far F4 (by simp; omega)
      have EA4 := EA.far F4 (by simp; omega)
      have hgS : ∀ q ∈ [g], q ∈ S := fun q hq => by rw [List.mem_singleton] at hq; rw [hq]; exact (HBA.ng hc0).2.2.2
      have FW4 := FWA.trans (F4.mono hgS)
      obtain ⟨QB, hQB⟩ : ∃ q, w3.heap.size = q := ⟨_, rfl⟩
      rw [hQB] at QA4 hqb ⊢
      clear HBA QA PA EA FWA F4 e0 e1 zl FA hQB
      obtain ⟨c0, c1, c2, c3, c4, fz⟩ := HB4.cells
      have e0 : w4.cell? ⟨eb, 0, none⟩ = some (.int .i64 a) := EA4.cell rfl
      have z0 : w4.cell? ⟨eb + 1, 0, none⟩ = some (.int .u64 0) := PA4.cell rfl
      have z1 : w4.cell? ⟨eb + 1, 1, none⟩ = some (.int .i64 0) := PA4.cell rfl
      have z2 : w4.cell? ⟨eb + 1, 2, none⟩ = some (.int .i64 0) := PA4.cell rfl
      have z3 : w4.cell? ⟨eb + 1, 3, none⟩ = some (.int .i64 0) := PA4.cell rfl
      have zf := PA4.f
      have y0 : w4.cell? ⟨QB, 0, none⟩ = some (.int .u64 P.seq) := QA4.cell rfl
      have y1 : w4.cell? ⟨QB, 1, none⟩ = some (.int .i64 P.mi) := QA4.cell rfl
      have y2 : w4.cell? ⟨QB, 2, none⟩ = some (.int .i64 P.size) := QA4.cell rfl
      have y3 : w4.cell? ⟨QB, 3, none⟩ = some (.int .i64 P.sent) := QA4.cell rfl
      have hn1 : ¬ QB = bb := by omega
      have hn2 : ¬ eb + 1 = bb := by omega
      have HB5 := HB4.tick a
      have PA5 := (PA4.setCell_other (b := bb) (o := 1) (v := .int .i64 a) hn2).putP P
      have HB6 := HB5.1.far (w1 := (w4.setCell ⟨bb, 1, none⟩ (.int .i64 a)).putP (eb + 1) P) ((Far.refl [eb + 1] _).putP (.inr (by simp)) _) (fun q hq => by simp; intro e; subst e; exact hbn _ (by omega) hq)
      have F6 : Far S w ((w4.setCell ⟨bb, 1, none⟩ (.int .i64 a)).putP (eb + 1) P) := (FW4.trans (HB5.2.mono (by simp; exact HB4.m1))).putP (.inl (by omega)) _
      clear HB4 HB5 PA4 QA4 EA4 FW4
      go_wp2_with fail
      exact bodyPost_ret (results_P2 (q := P) (v := .int .i64 0) rfl PA5 rfl rfl) rfl ⟨by rw [E.out.1, E.out.2.1], by rw [E.out.2.2]; exact ⟨_, _, _, _, _, _, HB6⟩, F6⟩
end Go.Proofs.Ytpaalpnoppblaaa
