/-
  Choosing what to part by: one of the row's places, whichever. No conditions but the row's.
-/
import Derived.Test.YtjjojbmpjkcmaaaV1
namespace Go.Proofs.Ytjjojbmpjkcmaaa
open Go.RowKit Go.Sort
set_option linter.unusedVariables false
/-- A counter in a block of one's own; all that W had is as it was. -/
structure Pk (B : Nat) (W w : World) (sb : Nat) (v : Value) : Prop where
  bel : Below B W w
  c : w.cell? ⟨sb, 0, none⟩ = some v
  f : w.frozen? ⟨sb, 0, none⟩ = false
  new : B ≤ sb
theorem Pk.drewN {B : Nat} {W w : World} {sb : Nat} {v : Value} (h : Pk B W w sb v) (q : Nat) : Pk B W (w.drewN q) sb v := ⟨h.bel.trans ⟨rfl, rfl, rfl, Nat.le_refl _, fun _ _ => rfl⟩, h.c, h.f, h.new⟩
theorem Pk.put {B : Nat} {W w : World} {sb : Nat} {v : Value} (h : Pk B W w sb v) (u : Value) : Pk B W (w.setCell ⟨sb, 0, none⟩ u) sb u :=
  ⟨h.bel.setCell h.new _, World.cell?_setCell_same w _ _ h.c, (World.frozen?_setCell _ _ _ _).trans h.f, h.new⟩
theorem Pk.family {B : Nat} {W w : World} {sb : Nat} {v : Value} (h : Pk B W w sb v) {g off n : Nat} {d : Array Int} (hH : Holds (Value.int .u64) W g off d) (hg : g < B) (hn : d.size = n) :
    (∀ t, t < n → w.cell? ⟨g, off + t, none⟩ = some (.int .u64 d[t]!)) ∧ (∀ t, t < n → w.frozen? ⟨g, off + t, none⟩ = false) :=
  ⟨fun t ht => (h.bel.cell (p := ⟨g, off + t, none⟩) hg).trans (hH t (by omega)).1, fun t ht => (h.bel.frozen (p := ⟨g, off + t, none⟩) hg).trans (hH t (by omega)).2⟩
section
variable (W : World) (g off cap n : Nat) (d : Array Int) (hn : d.size = n) (hH : Holds (Value.int .u64) W g off d) (hg : g < W.heap.size) (hsz : n < 2305843009213693952)
include hn hH hg hsz
omit hsz in
set_option maxHeartbeats 1000000 in
theorem order2_any (a b : Nat) (x y : Int) (ex : x = a) (ey : y = b) (ha : a < n) (hb : b < n) (sb : Nat) (s : Int) (h0 : 0 ≤ s) (h1 : s ≤ 1000) (w : World) (K : Pk W.heap.size W w sb (.int .i64 s)) :
    Calls Try.prog 51 #[.slice (some ⟨g, off, none⟩) n cap, .int .i64 x, .int .i64 y, .pointer (some ⟨sb, 0, none⟩)] w fun e w' =>
      ∃ (p q : Nat) (t : Int), e = .returned (.tuple #[.int .i64 p, .int .i64 q]) ∧ (p = a ∧ q = b ∨ p = b ∧ q = a) ∧ 0 ≤ t ∧ t ≤ s + 1 ∧ Pk W.heap.size W w' sb (.int .i64 t) := by
  subst ex ey
  go_enter Try.func51, Try.ntmps51
  obtain ⟨hc, hf⟩ := K.family hH hg hn
  have c0 := K.c
  have f0 := K.f
  go_wp2_with fail
  go_quiet (first | (go_at_call 40; refine Calls.quiet_of_same (less_any _ _ _)))
  go_wp2
  · go_ret2
    exact ⟨b, a, s + 1, rfl, .inr ⟨rfl, rfl⟩, by omega, by omega, (K.drewN _).put _⟩
  · go_ret2
    exact ⟨a, b, s, rfl, .inl ⟨rfl, rfl⟩, by omega, by omega, K.drewN _⟩
omit hsz in
set_option maxHeartbeats 1000000 in
theorem median_any (a b c : Nat) (x y z : Int) (ex : x = a) (ey : y = b) (ez : z = c) (ha : a < n) (hb : b < n) (hc : c < n) (sb : Nat) (s : Int) (h0 : 0 ≤ s) (h1 : s ≤ 900) (w : World) (K : Pk W.heap.size W w sb (.int .i64 s)) :
    Calls Try.prog 49 #[.slice (some ⟨g, off, none⟩) n cap, .int .i64 x, .int .i64 y, .int .i64 z, .pointer (some ⟨sb, 0, none⟩)] w fun e w' =>
      ∃ (p : Nat) (t : Int), e = .returned (.int .i64 p) ∧ (p = a ∨ p = b ∨ p = c) ∧ 0 ≤ t ∧ t ≤ s + 3 ∧ Pk W.heap.size W w' sb (.int .i64 t) := by
  subst ex ey ez
  go_enter Try.func49, Try.ntmps49
  go_wp2_with fail
  refine (order2_any W g off cap n d hn hH hg a b _ _ rfl rfl ha hb sb s h0 (by omega) _ K).mono ?_
  rintro e w1 ⟨p1, q1, t1, rfl, m1, l1, u1, K1⟩
  go_wp2_with fail
  refine (order2_any W g off cap n d hn hH hg q1 c _ _ rfl rfl (by omega) hc sb t1 l1 (by omega) _ K1).mono ?_
  rintro e w2 ⟨p2, q2, t2, rfl, m2, l2, u2, K2⟩
  go_wp2_with fail
  refine (order2_any W g off cap n d hn hH hg p1 p2 _ _ rfl rfl (by omega) (by omega) sb t2 l2 (by omega) _ K2).mono ?_
  rintro e w3 ⟨p3, q3, t3, rfl, m3, l3, u3, K3⟩
  go_wp2_with fail
  go_ret
  exact ⟨q3, t3, rfl, by omega, l3, by omega, K3⟩
set_option maxHeartbeats 1000000 in
theorem adjacent_any (a : Nat) (x : Int) (ex : x = a) (ha : 1 ≤ a) (hb : a + 1 < n) (sb : Nat) (s : Int) (h0 : 0 ≤ s) (h1 : s ≤ 900) (w : World) (K : Pk W.heap.size W w sb (.int .i64 s)) :
    Calls Try.prog 48 #[.slice (some ⟨g, off, none⟩) n cap, .int .i64 x, .pointer (some ⟨sb, 0, none⟩)] w fun e w' =>
      ∃ (p : Nat) (t : Int), e = .returned (.int .i64 p) ∧ a ≤ p + 1 ∧ p ≤ a + 1 ∧ 0 ≤ t ∧ t ≤ s + 3 ∧ Pk W.heap.size W w' sb (.int .i64 t) := by
  subst ex
  go_enter Try.func48, Try.ntmps48
  go_wp2_with fail
  refine (median_any W g off cap n d hn hH hg (a - 1) a (a + 1) _ _ _ (by omega) rfl (by omega) (by omega) (by omega) hb sb s h0 h1 _ K).mono ?_
  rintro e w1 ⟨p1, t1, rfl, m1, l1, u1, K1⟩
  go_wp2_with fail
  go_ret
  exact ⟨p1, t1, rfl, by omega, by omega, l1, u1, K1⟩
set_option maxHeartbeats 4000000 in
theorem pivot_any (a b : Nat) (x y : Int) (ex : x = a) (ey : y = b) (hab : a < b) (hb : b ≤ n) :
    Calls Try.prog 37 #[.slice (some ⟨g, off, none⟩) n cap, .int .i64 x, .int .i64 y] W fun e w' =>
      ∃ (p : Nat) (h : Int), e = .returned (.tuple #[.int .i64 p, .int .i64 h]) ∧ a ≤ p ∧ p < b ∧ 0 ≤ h ∧ h ≤ 2 ∧ Below W.heap.size W w' := by
  subst ex ey
  go_enter Try.func37, Try.ntmps37
  obtain ⟨l, hl⟩ : ∃ l, l = (b - a) / 4 := ⟨_, rfl⟩
  have HL : Hid (l = (b - a) / 4) := hl
  have hl1 : a + l * 4 ≤ b := by omega
  have hl2 : 50 ≤ b - a → 12 ≤ l := by omega
  have hl3 : 8 ≤ b - a → 2 ≤ l := by omega
  clear hl
  have K : Pk W.heap.size W (W.alloc (.cells #[.int .i64 0] 3)) W.heap.size (.int .i64 0) := ⟨(Below.refl _ _).alloc (Nat.le_refl _) _, by simp [go_sem], by simp [go_sem], Nat.le_refl _⟩
  go_upto_if 32 with fail
  go_cut [11] (fun s11 wx => ∃ (p : Nat) (t : Int), s11 = .int .i64 p ∧ a ≤ p ∧ p < b ∧ 0 ≤ t ∧ t ≤ 12 ∧ Pk W.heap.size W wx W.heap.size (.int .i64 t))
  case first =>
    by_cases h8 : 8 ≤ b - a
    · have h8i : 8 ≤ (b : Int) - a := by omega
      by_cases h50 : 50 ≤ b - a
      · have h50i : 50 ≤ (b : Int) - a := by omega
        go_wp2_with fail
        refine (adjacent_any W g off cap n d hn hH hg hsz (a + l) _ (by have := HL.out; omega) (by omega) (by omega) _ 0 (by omega) (by omega) _ K).mono ?_
        rintro e w1 ⟨p1, t1, rfl, m1, n1, l1, u1, K1⟩
        go_wp2_with fail
        refine (adjacent_any W g off cap n d hn hH hg hsz (a + l * 2) _ (by have := HL.out; omega) (by omega) (by omega) _ t1 l1 (by omega) _ K1).mono ?_
        rintro e w2 ⟨p2, t2, rfl, m2, n2, l2, u2, K2⟩
        go_wp2_with fail
        refine (adjacent_any W g off cap n d hn hH hg hsz (a + l * 3) _ (by have := HL.out; omega) (by omega) (by omega) _ t2 l2 (by omega) _ K2).mono ?_
        rintro e w3 ⟨p3, t3, rfl, m3, n3, l3, u3, K3⟩
        go_wp2_with fail
        refine (median_any W g off cap n d hn hH hg p1 p2 p3 _ _ _ rfl rfl rfl (by omega) (by omega) (by omega) _ t3 l3 (by omega) _ K3).mono ?_
        rintro e w4 ⟨p4, t4, rfl, m4, l4, u4, K4⟩
        go_wp2_with fail
        go_meet
        case rel => exact ⟨p4, t4, rfl, by omega, by omega, l4, by omega, K4⟩
      · have h50i : ¬ 50 ≤ (b : Int) - a := by omega
        go_wp2_with fail
        refine (median_any W g off cap n d hn hH hg (a + l) (a + l * 2) (a + l * 3) _ _ _ (by have := HL.out; omega) (by have := HL.out; omega) (by have := HL.out; omega) (by omega) (by omega) (by omega) _ 0 (by omega) (by omega) _ K).mono ?_
        rintro e w4 ⟨p4, t4, rfl, m4, l4, u4, K4⟩
        go_wp2_with fail
        go_meet
        case rel => exact ⟨p4, t4, rfl, by omega, by omega, l4, by omega, K4⟩
    · have h8i : ¬ 8 ≤ (b : Int) - a := by omega
      go_wp2_with fail
      go_meet
      case rel => exact ⟨a + l * 2, 0, by congr 1; have := HL.out; omega, by omega, by omega, by omega, by omega, K⟩
  case rest =>
    obtain ⟨p, t, rfl, ha, hb', h0, h1, K2⟩ := hcut
    have c0 := K2.c
    go_wp2_with fail
    all_goals go_ret2
    all_goals exact ⟨p, _, rfl, ha, hb', by omega, by omega, K2.bel⟩
end
end Go.Proofs.Ytjjojbmpjkcmaaa
