/-
  The reference's All. No conditions but the row's own, and that it is short.
-/
import Derived.Test.YtoonffglkadofaaGD
namespace Go.Proofs.Ytoonffglkadofaa
open Go.RowKit
set_option linter.unusedVariables false
theorem Evs.kept {w w1 : World} {ao : Option Addr} {n c : Nat} {f : Nat → Ev} {row : Option Nat} (h : Evs w ao n c f) (k : w.grownBy w1 row) (hne : ∀ b o, ao = some ⟨b, o, none⟩ → some b ≠ row) : Evs w1 ao n c f := by
  refine ⟨h.cap, h.max, fun hn => ?_⟩
  obtain ⟨b, o, e, hl, hc⟩ := h.at' hn
  have eb := k.block b hl (hne b o e)
  refine ⟨b, o, e, Nat.lt_of_lt_of_le hl k.size, fun i hi => ?_⟩
  obtain ⟨c0, c1, c2, c3⟩ := hc i hi
  exact ⟨(World.cell?_of_block (a := ⟨b, _, none⟩) eb).trans c0, (World.cell?_of_block (a := ⟨b, _, none⟩) eb).trans c1, (World.cell?_of_block (a := ⟨b, _, none⟩) eb).trans c2, (World.cell?_of_block (a := ⟨b, _, none⟩) eb).trans c3⟩
section
attribute [local go_sem ↓] append_shut
set_option maxHeartbeats 1000000 in
set_option maxRecDepth 100000 in
theorem rall_any (mb base : Nat) (m : Int) (v : Value) (n : Nat) (l : List Ev) (hn : n ≤ 1000) (w : World) (A : Rg w mb base m v n l) :
    Calls Try.prog 19 #[.pointer (some ⟨mb, 0, none⟩)] w fun e w' => (∃ ao c, e = .returned (.slice ao n c) ∧ w'.ownsRow w.heap.size 32 4 (.slice ao n c) n (ecs (te l n))) ∧ Below w.heap.size w w' := by
  have hl := A.len
  obtain ⟨ao, c, rfl⟩ := own_slice A.own
  have c1 := A.c1
  have E0 : Evs w ao n c (evp (re l 0)) := A.evs
  have N0 : ∀ b o, ao = some ⟨b, o, none⟩ → some b ≠ (Value.slice none 0 0).ownBlock := fun b o _ h => by cases h
  have hre := re_len l
  rw [hl] at hre
  clear A
  go_enter Try.func19, Try.ntmps19
  go_wp2_with fail
  go_loopw [3, 4] (fun v3 v4 wr => ∃ (i q : Nat) (la ti : Option Addr) (lc tc : Nat), i + q = n ∧ v3 = .slice la q lc ∧ v4 = .slice ti i tc ∧ Evs wr la q lc (evp (re l i)) ∧ wr.ownsRow w.heap.size 32 4 (.slice ti i tc) i (ecs (te l i)) ∧ (∀ b o, la = some ⟨b, o, none⟩ → some b ≠ (Value.slice ti i tc).ownBlock) ∧ Below w.heap.size w wr) (fun v3 _ _ => match v3 with | .slice _ q _ => q | _ => 0)
  case atStart => exact ⟨0, n, ao, none, c, 0, Nat.zero_add n, rfl, rfl, E0, World.ownsRow_nil _ _ _ _, N0, Below.refl _ _⟩
  case round =>
    obtain ⟨i, q, la, ti, lc, tc, hi, rfl, rfl, E, own, NE, hB⟩ := hrel
    clear E0 c1 N0
    by_cases hin : 0 < q
    · have hrl : (re l i).length = q := by rw [hre i (by omega)]; omega
      have hrl2 : (re l (i + 1)).length = q - 1 := by rw [hre (i + 1) (by omega)]; omega
      obtain ⟨k1, k2, _⟩ := mi_spec (l := re l i) (by omega)
      rw [hrl] at k1 k2
      have hte : Hid (te l (i + 1) = te l i ++ [evp (re l i) (mi (re l i))]) := rfl
      have hrs : re l (i + 1) = (re l i).eraseIdx (mi (re l i)) := rfl
      have FI := fun w E => first_any la q lc (re l i) (by omega) w E
      rw [k2] at FI
      have WI := fun w E => without_any la q lc (mi (re l i)) (re l i) hrl (by omega) (by omega) w E
      rw [← hrs] at WI
      clear k2 hrs
      obtain ⟨g, o, rfl, hg, hc⟩ := E.at' (by omega)
      obtain ⟨a0, a1, a2, a3⟩ := hc _ k1
      have hcap := E.cap
      have hmax := E.max
      have hmx : maxLen = 9223372036854775807 := rfl
      clear hc hre
      generalize evp (re l i) (mi (re l i)) = x at *
      generalize mi (re l i) = k at *
      generalize te l i = P at *
      have k3 : (k : Int) < q := by omega
      have hq3 : (0 : Int) < q := by omega
      go_wp2_with fail
      refine (FI _ E).mono ?_
      rintro e w1 ⟨rfl, hw1⟩
      replace a0 := (hw1.cell (p := ⟨g, _, none⟩) hg).trans a0
      replace a1 := (hw1.cell (p := ⟨g, _, none⟩) hg).trans a1
      replace a2 := (hw1.cell (p := ⟨g, _, none⟩) hg).trans a2
      replace a3 := (hw1.cell (p := ⟨g, _, none⟩) hg).trans a3
      replace E := E.below hw1
      replace own := own_below own hw1
      replace hB := Below.call hB hB.size hw1
      clear hw1 FI
      have hs1 := hB.size
      obtain ⟨ta, td, w2, hr, own2, hgr, hv3⟩ := eapp_run 40 (own.alloc (.cells #[.int .i64 x.a, .int .i64 x.k, .int .i64 x.o, .int .u64 x.s] 32)) (by simp; omega) (by omega) (At4.fresh w1 (.int .i64 x.a) (.int .i64 x.k) (.int .i64 x.o) (.int .u64 x.s) 32)
      have E2 := (E.below ((Below.refl _ _).alloc (Nat.le_refl _) (.cells #[.int .i64 x.a, .int .i64 x.k, .int .i64 x.o, .int .u64 x.s] 32))).kept hgr NE
      have hB2 : Below w.heap.size w w2 := Below.grown (hB.alloc hs1 _) hgr (by simp; omega) (fun b hb => (own.lt b hb).1)
      clear E own hgr hv3 hB NE
      go_wp2_with fail
      refine (WI _ E2).mono ?_
      rintro e w3 ⟨⟨lb, q', ld, rfl, own3⟩, hw3⟩
      obtain rfl : q' = q - 1 := by rw [← own_elen own3]; exact hrl2
      have NE : ∀ b o, lb = some ⟨b, o, none⟩ → some b ≠ (Value.slice ta (i + 1) td).ownBlock := fun b o h e => by
        have h1 := (own2.lt b e.symm).2
        have h2 := (own3.lt b (by rw [h]; rfl)).1
        omega
      have E3 := Evs.own own3
      replace own2 := own_below own2 hw3
      have hB3 := Below.call hB2 hB2.size hw3
      clear own3 hw3 hB2 E2 WI a0 a1 a2 a3 hr
      go_wp2_with fail
      go_roundw
      case rel => exact ⟨i + 1, q - 1, lb, ta, ld, td, by omega, rfl, rfl, E3, by rw [hte.out]; exact own2, NE, hB3⟩
      case measure => simp; omega
    · obtain rfl : q = 0 := by omega
      obtain rfl : i = n := by omega
      go_wp2_with fail
      go_ret
      exact ⟨⟨ti, tc, rfl, own⟩, hB⟩
end
end Go.Proofs.Ytoonffglkadofaa
