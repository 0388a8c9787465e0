/-
  What a ledger's rows are: up, old or young; how many. No conditions.
-/
import Derived.Test.YtjjojbmpjkcmaaaV22
import Derived.Test.YtjjojbmpjkcmaaaT
namespace Go.Proofs.Ytjjojbmpjkcmaaa
open Go.RowKit Go.Maps
set_option linter.unusedVariables false
theorem filter_two {α : Type} (f : α → Bool) (L : List α) : (L.filter f).length + (L.filter fun p => !f p).length = L.length := by
  induction L with
  | nil => rfl
  | cons p L ih =>
    by_cases h : f p = true
    · simp only [List.filter_cons, h, if_true, Bool.not_true, Bool.false_eq_true, if_false, List.length_cons]; omega
    · have h' : f p = false := by simpa using h
      simp only [List.filter_cons, h', Bool.not_false, if_true, Bool.false_eq_true, if_false, List.length_cons]; omega
theorem up_at {L : List Pt} (h : L.Pairwise (fun p q => p.seq < q.seq)) {i : Nat} (hi : i + 1 < L.length) : (L[i]).seq < (L[i + 1]).seq := List.pairwise_iff_getElem.1 h i (i + 1) (by omega) hi (by omega)
theorem Row.val {w : World} {ao : Option Addr} {n c : Nat} {zs : List Int} (h : Row .i64 w ao n c zs) (i : Nat) : -9223372036854775808 ≤ zs.getD i 0 ∧ zs.getD i 0 ≤ 9223372036854775807 := by
  have key : (Lit.int .i64 (zs.getD i 0)).wf = true := by
    by_cases hi : i < zs.length
    · rw [List.getD_eq_getElem?_getD, List.getElem?_eq_getElem hi]; exact h.wf _ (List.getElem_mem hi)
    · rw [List.getD_eq_getElem?_getD, List.getElem?_eq_none (by omega)]; rfl
  generalize zs.getD i 0 = x at key ⊢
  simp [Lit.wf, IntKind.min, IntKind.max, IntKind.signed, IntKind.bits] at key
  exact ⟨by omega, by omega⟩
set_option maxHeartbeats 2000000 in
set_option maxRecDepth 8000 in
theorem times_walk (room : Int) (ao : Option Addr) (n c : Nat) (zs : List Int) (at' td : Int) (r0 : -9223372036854775808 ≤ room) (r1 : room ≤ 9223372036854775807) (a0 : -9223372036854775808 ≤ at') (a1 : at' ≤ 9223372036854775807) (t0 : -9223372036854775808 ≤ td) (t1 : td ≤ 9223372036854775807) (w : World) (hz : Row .i64 w ao n c zs) :
    Calls Try.prog 6 #[.int .i64 room, .slice ao n c, .int .i64 at', .int .i64 td] w fun e w' => e = .returned (.bool true) ∧ Below w.heap.size w w' := by
  have hcap := hz.cap; have hmax := hz.max
  have hmx : maxLen = 9223372036854775807 := rfl
  go_enter Try.func6, Try.ntmps6
  by_cases hr : room < 1 ∨ 4096 < room
  · go_wp2_with fail
    refine (new_no room 0 hr _).mono ?_
    rintro e w1 ⟨rfl, B1⟩
    go_wp2_with fail
    refine (entered_any _).mono ?_
    rintro e w2 ⟨rfl, B2⟩
    have B3 := B1.trans (B2.mono B1.size)
    go_wp2_with fail
    go_ret
    exact ⟨rfl, B3⟩
  · go_wp2_with fail
    refine (new_yes room 0 (by omega) (by omega) (by omega) (by omega) _).mono ?_
    rintro e w1 ⟨lb, mb, rfl, H1, hl, hm, B1⟩
    have ok1 : (⟨room, 0, 0, 0, 0, []⟩ : Lg).ok := new_ok room 0 (by omega) (by omega) (by omega) (by omega)
    have hS : ∀ b ∈ [lb, mb], w.heap.size ≤ b := by simp; omega
    by_cases hn : 100 < n
    · go_wp2_with fail
      refine (entered_any _).mono ?_
      rintro e w2 ⟨rfl, B2⟩
      have B3 := B1.trans (B2.mono B1.size)
      go_wp2_with fail
      go_ret
      exact ⟨rfl, B3⟩
    by_cases hb1 : at' < 0
    · go_wp2_with fail
      refine (entered_any _).mono ?_
      rintro e w2 ⟨rfl, B2⟩
      have B3 := B1.trans (B2.mono B1.size)
      go_wp2_with fail
      go_ret
      exact ⟨rfl, B3⟩
    by_cases hb2 : 1099511627776 < at'
    · go_wp2_with fail
      refine (entered_any _).mono ?_
      rintro e w2 ⟨rfl, B2⟩
      have B3 := B1.trans (B2.mono B1.size)
      go_wp2_with fail
      go_ret
      exact ⟨rfl, B3⟩
    by_cases hb3 : td < 0
    · go_wp2_with fail
      refine (entered_any _).mono ?_
      rintro e w2 ⟨rfl, B2⟩
      have B3 := B1.trans (B2.mono B1.size)
      go_wp2_with fail
      go_ret
      exact ⟨rfl, B3⟩
    by_cases hb4 : 1099511627776 < td
    · go_wp2_with fail
      refine (entered_any _).mono ?_
      rintro e w2 ⟨rfl, B2⟩
      have B3 := B1.trans (B2.mono B1.size)
      go_wp2_with fail
      go_ret
      exact ⟨rfl, B3⟩
    go_wp2_with fail
    go_loopw [11] (fun vi wr => ∃ (i : Nat) (s : Lg), i ≤ n ∧ vi = .int .i64 i ∧ s.ok ∧ Led wr lb mb s ∧ Below w.heap.size w wr) (fun vi _ => n - (intOf vi).toNat)
    case atStart => exact ⟨0, _, Nat.zero_le _, rfl, ok1, H1, B1⟩
    case round =>
      obtain ⟨i, s, hi, rfl, hs, HL, hB⟩ := hrel
      by_cases hin : i < n
      · have hzr := hz.below hB
        obtain ⟨b, o, rfl, hc⟩ := hzr.at' (by omega)
        have hci := hc i hin
        have hv := hzr.val i
        clear hc hzr
        generalize zs.getD i 0 = x at *
        go_wp2_with fail
        refine (send_any lb mb s hs _ _ _ _ HL).mono ?_
        rintro e w2 ⟨rfl, H2, F⟩
        have B2 := Far.call hB hB.size F hS
        have hs2 := sent_ok hs 0 1 x
        generalize sentL s 0 1 x = s2 at *
        generalize seqv s 0 1 x = sv at *
        generalize refv s 0 1 x = rv at *
        clear F HL hB
        go_wp2_with fail
        exact ⟨⟨i + 1, s2, by omega, by simp, hs2, H2, B2⟩, by simp only [intOf]; omega⟩
      · have hie : i = n := by omega
        go_wp2_with fail
        refine (open_any lb mb s hs _ HL).mono ?_
        rintro e w2 ⟨va, rfl, owna, B2⟩
        have HL2 := HL.below B2
        have B2' := hB.trans (B2.mono hB.size)
        have ba := B2'.size
        clear B2 HL hB
        go_wp2_with fail
        refine (expire_any lb mb s hs at' td a0 a1 t0 t1 _ HL2).mono ?_
        rintro e w3 ⟨vg, rfl, owng, ⟨o, HL3, ok3⟩, F3⟩
        have B3 := Far.call B2' B2'.size F3 hS
        have hlm : ∀ b ∈ [lb, mb], b < w2.heap.size := by
          have := HL2.ob.lt; have := HL2.map.lt
          simp; omega
        clear HL2 B2'
        go_wp2_with fail
        refine (open_any lb mb _ ok3 _ HL3).mono ?_
        rintro e w4 ⟨vl, rfl, ownl, B4⟩
        have B4' := B3.trans (B4.mono B3.size)
        have BW : Below w.heap.size w w4 := B4'
        obtain ⟨ag, cg, rfl, PG⟩ := Pks.own owng
        replace PG := PG.below B4
        obtain ⟨al, cl, rfl, PL⟩ := Pks.own ownl
        obtain ⟨aa, ca, rfl, PA⟩ := Pks.own owna
        clear B4 B3 owng ownl owna HL3 F3 PA
        obtain ⟨G, hG⟩ : ∃ G, s.L.filter (isover at' td) = G := ⟨_, rfl⟩
        obtain ⟨R, hR⟩ : ∃ R, s.L.filter (fun p => !isover at' td p) = R := ⟨_, rfl⟩
        have hlen := filter_two (isover at' td) s.L
        have hg : ∀ p ∈ G, p.sent ≤ at' - td ∧ 0 ≤ p.sent ∧ p.sent ≤ 1099511627776 := fun p hp => by
          rw [← hG] at hp
          obtain ⟨h1, h2⟩ := List.mem_filter.1 hp
          have h3 := hs.tb p h1; have h4 := hs.l1
          exact ⟨by simpa [isover] using h2, h3.1, by omega⟩
        have hr : ∀ p ∈ R, at' - td < p.sent ∧ 0 ≤ p.sent ∧ p.sent ≤ 1099511627776 := fun p hp => by
          rw [← hR] at hp
          obtain ⟨h1, h2⟩ := List.mem_filter.1 hp
          have h3 := hs.tb p h1; have h4 := hs.l1
          exact ⟨by simpa [isover] using h2, h3.1, by omega⟩
        have hug : G.Pairwise (fun p q => p.seq < q.seq) := by rw [← hG]; exact hs.up.filter _
        have hur : R.Pairwise (fun p q => p.seq < q.seq) := by rw [← hR]; exact hs.up.filter _
        simp only [hG, hR] at PG PL hlen ⊢
        clear ok3 hG hR ok1
        have hsl : (s.L.length : Int) ≤ 4096 := by have := hs.len; have := hs.r1; omega
        generalize s.L.length = m at *
        have hgc := PG.cap; have hgm := PG.max; have hrc := PL.cap; have hrm := PL.max
        go_wp2_with fail
        go_loopw [15] (fun vi wr => ∃ i : Nat, i ≤ G.length ∧ vi = .int .i64 i ∧ Below w4.heap.size w4 wr) (fun vi _ => G.length - (intOf vi).toNat)
        case atStart => exact ⟨0, Nat.zero_le _, rfl, Below.refl _ _⟩
        case round =>
          obtain ⟨i, hi, rfl, hb⟩ := hrel
          by_cases hig : i < G.length
          · obtain ⟨b, rfl, hbl, hc⟩ := (PG.below hb).at' (by omega)
            obtain ⟨a0', a1', a2', a3'⟩ := hc i hig
            have hp0 := hg _ (List.getElem_mem hig)
            have hb2 : ∀ q, Below w4.heap.size w4 (wr.drewN q) := fun q => hb.trans ⟨rfl, rfl, rfl, Nat.le_refl _, fun _ _ => rfl⟩
            rcases Nat.eq_zero_or_pos i with h0 | h0
            · subst h0
              generalize G[0] = p at *
              simp only [Nat.zero_mul, Nat.zero_add] at a0' a3'
              have hd1 : decide (at' - p.sent < td) = false := decide_eq_false (by omega)
              clear hc a1' a2'
              go_wp2_with fail
              go_quiet (fail)
              go_wp2_with fail
              exact ⟨⟨1, by omega, by simp, hb2 _⟩, by simp [intOf]; omega⟩
            · obtain ⟨k, hk⟩ : ∃ k, i = k + 1 := ⟨i - 1, by omega⟩
              have hk1 : (i : Int) - 1 = (k : Int) := by omega
              have hd : 0 < (i : Int) := by omega
              obtain ⟨c0', c1', c2', c3'⟩ := hc k (by omega)
              have hup : (G[k]'(by omega)).seq < (G[i]).seq := by subst hk; exact up_at hug hig
              generalize G[i] = p at *
              generalize G[k]'(by omega) = q at *
              have hd1 : decide (at' - p.sent < td) = false := decide_eq_false (by omega)
              have hd2 : decide (p.seq ≤ q.seq) = false := decide_eq_false (by omega)
              clear hc a1' a2' c1' c2' c3'
              have hkk : Hid (i = k + 1) := hk
              have hkl : k < G.length := by omega
              clear hk
              go_wp2_with fail
              go_quiet (fail)
              go_wp2_with fail
              exact ⟨⟨i + 1, by omega, by simp, hb2 _⟩, by simp only [intOf]; omega⟩
          · have hie : i = G.length := by omega
            have PL2 := PL.below hb
            have B5 := BW.trans (hb.mono BW.size)
            clear hb PG PL hg hug BW
            obtain ⟨w5, rfl⟩ : ∃ w5, w5 = wr := ⟨_, rfl⟩
            go_wp2_with fail
            go_loopw [16] (fun vi wr => ∃ i : Nat, i ≤ R.length ∧ vi = .int .i64 i ∧ Below w5.heap.size w5 wr) (fun vi _ => R.length - (intOf vi).toNat)
            case atStart => exact ⟨0, Nat.zero_le _, rfl, Below.refl _ _⟩
            case round =>
              obtain ⟨i, hi, rfl, hb⟩ := hrel
              by_cases hir : i < R.length
              · obtain ⟨b, rfl, hbl, hc⟩ := (PL2.below hb).at' (by omega)
                obtain ⟨a0', a1', a2', a3'⟩ := hc i hir
                have hp0 := hr _ (List.getElem_mem hir)
                have hb2 : ∀ q, Below w5.heap.size w5 (wr.drewN q) := fun q => hb.trans ⟨rfl, rfl, rfl, Nat.le_refl _, fun _ _ => rfl⟩
                rcases Nat.eq_zero_or_pos i with h0 | h0
                · subst h0
                  generalize R[0] = p at *
                  simp only [Nat.zero_mul, Nat.zero_add] at a0' a3'
                  have hd1 : decide (td ≤ at' - p.sent) = false := decide_eq_false (by omega)
                  clear hc a1' a2'
                  go_wp2_with fail
                  go_quiet (fail)
                  go_wp2_with fail
                  exact ⟨⟨1, by omega, by simp, hb2 _⟩, by simp [intOf]; omega⟩
                · obtain ⟨k, hk⟩ : ∃ k, i = k + 1 := ⟨i - 1, by omega⟩
                  have hk1 : (i : Int) - 1 = (k : Int) := by omega
                  have hd : 0 < (i : Int) := by omega
                  obtain ⟨c0', c1', c2', c3'⟩ := hc k (by omega)
                  have hup : (R[k]'(by omega)).seq < (R[i]).seq := by subst hk; exact up_at hur hir
                  generalize R[i] = p at *
                  generalize R[k]'(by omega) = q at *
                  have hd1 : decide (td ≤ at' - p.sent) = false := decide_eq_false (by omega)
                  have hd2 : decide (p.seq ≤ q.seq) = false := decide_eq_false (by omega)
                  clear hc a1' a2' c1' c2' c3'
                  have hkk : Hid (i = k + 1) := hk
                  have hkl : k < R.length := by omega
                  clear hk
                  go_wp2_with fail
                  go_quiet (fail)
                  go_wp2_with fail
                  exact ⟨⟨i + 1, by omega, by simp, hb2 _⟩, by simp only [intOf]; omega⟩
              · have hie2 : i = R.length := by omega
                go_wp2_with fail
                have B6 := B5.trans (hb.mono B5.size)
                refine (entered_any _).mono ?_
                rintro e w7 ⟨rfl, B⟩
                have B7 := B6.trans (B.mono B6.size)
                have hsum : (G.length : Int) + (R.length : Int) = (m : Int) := by omega
                clear B6 B hb
                go_wp2_with fail
                go_ret
                exact ⟨by simp, B7⟩
end Go.Proofs.Ytjjojbmpjkcmaaa
