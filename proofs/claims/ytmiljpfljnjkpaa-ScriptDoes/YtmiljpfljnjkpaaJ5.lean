/-
  The program's Encode. No conditions but the row's own, and that it is short.
-/
import Derived.Test.YtmiljpfljnjkpaaJ3
namespace Go.Proofs.Ytmiljpfljnjkpaa
open Go.RowKit
set_option linter.unusedVariables false
/-- What steps are encoded to, of which the first so many may be. -/
def encv (f : Nat → Stp) (n q : Nat) : Value := if q = n then .tuple #[.string (bs f n), .int .i64 0] else .tuple #[.string ⟨#[]⟩, .int .i64 1]
theorem encv_yes (f : Nat → Stp) (n : Nat) : encv f n n = .tuple #[.string (bs f n), .int .i64 0] := if_pos rfl
theorem encv_no {f : Nat → Stp} {n q : Nat} (h : q < n) : encv f n q = .tuple #[.string ⟨#[]⟩, .int .i64 1] := if_neg (by omega)
/-- How many of the first steps may be. -/
theorem first_bad (f : Nat → Stp) (n : Nat) : ∃ q, q ≤ n ∧ (∀ j, j < q → isb 64 (f j) = true) ∧ (q < n → isb 64 (f q) = false) := by
  induction n with
  | zero => exact ⟨0, Nat.le_refl _, fun j h => by omega, fun h => by omega⟩
  | succ n ih =>
    obtain ⟨q, h1, h2, h3⟩ := ih
    by_cases e : q < n
    · exact ⟨q, by omega, h2, fun _ => h3 e⟩
    · obtain rfl : q = n := by omega
      cases h : isb 64 (f q)
      · exact ⟨q, by omega, h2, fun _ => h⟩
      · refine ⟨q + 1, by omega, fun j hj => ?_, fun h => by omega⟩
        by_cases e : j < q
        · exact h2 j e
        · obtain rfl : j = q := by omega
          exact h
section
attribute [local go_sem ↓] append_shut
set_option maxHeartbeats 2000000 in
set_option maxRecDepth 100000 in
theorem encode_any (ao : Option Addr) (n c q : Nat) (f : Nat → Stp) (hn : n ≤ 10000) (hq : q ≤ n) (hok : ∀ j, j < q → isb 64 (f j) = true) (hbad : q < n → isb 64 (f q) = false) (w : World) (E : Ops w ao n c f) :
    Calls Try.prog 7 #[.slice ao n c] w fun e w' => e = .returned (encv f n q) ∧ Below w.heap.size w w' := by
  have hcap := E.cap
  have hmax := E.max
  have hmx : maxLen = 9223372036854775807 := rfl
  go_enter Try.func7, Try.ntmps7
  go_wp2_with fail
  go_loopw [4, 9] (fun v4 v9 wr => ∃ (i : Nat) (ti : Option Addr) (tc : Nat), i ≤ q ∧ v9 = .int .i64 i ∧ v4 = .slice ti (3 * i) tc ∧ wr.ownsRow w.heap.size 5 1 (.slice ti (3 * i) tc) (3 * i) (bcs (bl f i)) ∧ Below w.heap.size w wr) (fun _ v9 _ => n - (intOf v9).toNat)
  case atStart => exact ⟨0, none, 0, Nat.zero_le _, rfl, rfl, World.ownsRow_nil _ _ _ _, Below.refl _ _⟩
  case round =>
    obtain ⟨i, ti, tc, hi, rfl, rfl, own, hB⟩ := hrel
    have hsz := hB.size
    by_cases hin : i < n
    · have hin2 : (i : Int) < n := by omega
      obtain ⟨b, o, rfl, hbl, hc⟩ := (E.below hB).at' (by omega)
      obtain ⟨a0, a1, a2⟩ := hc i hin
      clear hc E
      by_cases hiq : i = q
      · have MB := mayBe_any (f i) false (by rw [hiq]; exact hbad (by omega))
        have EV : Hid (encv f n q = .tuple #[.string ⟨#[]⟩, .int .i64 1]) := encv_no (by omega)
        clear hok hbad hiq hi hq own
        generalize (f i).k = k at *
        generalize (f i).h = h at *
        generalize (f i).v = u at *
        go_wp2_with fail
        refine (MB _).mono ?_
        rintro e w2 ⟨rfl, hw2⟩
        have g2 : Below w.heap.size w w2 := Below.call (show Below w.heap.size w _ by go_grown) (by simp; omega) hw2
        clear hw2 a0 a1 a2
        go_wp2_with fail
        go_ret2
        exact ⟨by rw [EV.out]; rfl, g2⟩
      · have hokn := hok i (by omega)
        have MB := mayBe_any (f i) true hokn
        have hb := isb_iff.1 hokn
        have e64 : mm 64 = 64 := rfl
        have own2 := fun w2 (h : Below wr.heap.size wr w2) => own_below own h
        have AP := fun w2 (h : Below wr.heap.size wr w2) => bapp_run (f := f) 39 ((own_below own h).alloc (.cells #[.int .u8 (f i).k, .int .u8 (f i).h, .int .u8 (f i).v] 5)) (by have := h.size; simp; omega) (by omega) hokn (At3.fresh _ _ _ _ _)
        have hlt := fun b hb => (own.lt b hb).1
        have k1 : IntKind.u8.wrap (f i).k = (f i).k := by rw [IntKind.wrap_u8]; omega
        have k2 : IntKind.u8.wrap (f i).h = (f i).h := by rw [IntKind.wrap_u8]; omega
        have k3 : IntKind.u8.wrap (f i).v = (f i).v := by rw [IntKind.wrap_u8]; omega
        clear hok hbad hb hokn own own2 e64
        generalize (f i).k = k at *
        generalize (f i).h = h at *
        generalize (f i).v = u at *
        go_wp2_with fail
        refine (MB _).mono ?_
        rintro e w2 ⟨rfl, hw2⟩
        have A2 : At3 w2 wr.heap.size (.int .i64 k) (.int .i64 h) (.int .i64 u) := At3.of hw2 (At3.fresh _ _ _ _ _)
        have g2 : Below wr.heap.size wr w2 := below_thru (W := wr) (by go_grown) hw2
        obtain ⟨ta, td, w3, hr, own3, hgr⟩ := AP w2 g2
        have g2' : Below w.heap.size w w2 := hB.trans (g2.mono hsz)
        have z2 := g2.size
        have g3 : Below w.heap.size w w3 := Below.grown (g2'.alloc (by omega) _) hgr (by simp; omega) hlt
        obtain ⟨c0, c1, c2, f0, f1, f2, lt⟩ := A2
        clear hw2 a0 a1 a2 MB AP g2 g2' hgr hlt
        go_wp2_with fail
        go_roundw
        case rel => exact ⟨i + 1, ta, td, by omega, by go_num, rfl, own3, g3⟩
        case measure => simp [intOf]; omega
    · obtain rfl : i = n := by omega
      obtain rfl : i = q := by omega
      have hs := str_run own
      have EV : Hid (encv f i i = .tuple #[.string (bs f i), .int .i64 0]) := encv_yes f i
      generalize bs f i = t at *
      clear own
      go_wp2_with fail
      go_ret2
      exact ⟨by rw [EV.out]; rfl, hB⟩
end
end Go.Proofs.Ytmiljpfljnjkpaa
