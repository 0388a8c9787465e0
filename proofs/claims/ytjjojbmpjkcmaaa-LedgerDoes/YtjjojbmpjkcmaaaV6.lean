/-
  Breaking a row's patterns: some of its numbers change places, whichever. No conditions but the row's.
-/
import Derived.Test.YtjjojbmpjkcmaaaV5
import Derived.Test.YtjjojbmpjkcmaaaD4
import Derived.Laws.BitsAllLaws
import Derived.RegionTactic
namespace Go.Proofs.Ytjjojbmpjkcmaaa
open Go.RowKit Go.Sort
set_option linter.unusedVariables false
theorem xor_bd {a b : Int} (a0 : 0 ≤ a) (a1 : a ≤ 18446744073709551615) (b0 : 0 ≤ b) (b1 : b ≤ 18446744073709551615) : 0 ≤ bits .xor .u64 a b ∧ bits .xor .u64 a b ≤ 18446744073709551615 := by
  rw [u64_xor a b a0 (by omega) b0 (by omega)]
  have := Nat.xor_lt_two_pow (n := 64) (x := a.toNat) (y := b.toNat) (by omega) (by omega)
  omega
theorem and_bd {a b : Int} (a0 : 0 ≤ a) (a1 : a ≤ 18446744073709551615) (b0 : 0 ≤ b) (b1 : b ≤ 18446744073709551615) : 0 ≤ bits .and .u64 a b ∧ bits .and .u64 a b ≤ b := by
  rw [u64_and a b a0 (by omega) b0 (by omega)]
  have := Nat.and_le_right (n := a.toNat) (m := b.toNat)
  omega
theorem wrap_bd (a : Int) : 0 ≤ IntKind.u64.wrap a ∧ IntKind.u64.wrap a ≤ 18446744073709551615 := by
  rw [IntKind.wrap_u64]; omega
theorem and_lt {Y : Int} {M l : Nat} (y0 : 0 ≤ Y) (y1 : Y ≤ 18446744073709551615) (m0 : M ≤ 2 * l) (m1 : 8 ≤ M) (hl : l < 2305843009213693952) : ∃ o : Nat, bits .and .u64 Y ((M : Int) - 1) = (o : Int) ∧ wrap64 (o : Int) = (o : Int) ∧ o < 2 * l := by
  obtain ⟨b0, b1⟩ := and_bd (b := (M : Int) - 1) y0 y1 (by omega) (by omega)
  refine ⟨_, (Int.toNat_of_nonneg b0).symm, ?_, by omega⟩
  generalize bits .and .u64 Y ((M : Int) - 1) = z at *
  unfold wrap64
  omega
theorem pow_bd {n : Nat} (h0 : 8 ≤ n) (h1 : n < 2305843009213693952) : ∃ M : Nat, IntKind.u64.wrap (2 ^ (lenv (n : Int)).toNat) = (M : Int) ∧ M ≤ 2 * n ∧ 8 ≤ M := by
  obtain ⟨s0, s1, s2⟩ := lenv_spec (a := (n : Int)) (by omega)
  have e : p2 (lenv (n : Int)) = 2 * p2 (lenv (n : Int) - 1) := by
    rw [show lenv (n : Int) = 1 + (lenv (n : Int) - 1) by omega, p2_add (by omega) (by omega), show 1 + (lenv (n : Int) - 1) - 1 = lenv (n : Int) - 1 by omega]
    rfl
  have e2 : (2 : Int) ^ (lenv (n : Int)).toNat = p2 (lenv (n : Int)) := by unfold p2; first | rfl | simp
  refine ⟨2 ^ (lenv (n : Int)).toNat, ?_, ?_, ?_⟩
  · rw [IntKind.wrap_u64, e2]
    have : ((2 ^ (lenv (n : Int)).toNat : Nat) : Int) = p2 (lenv (n : Int)) := by rw [← e2]; simp
    omega
  · have : ((2 ^ (lenv (n : Int)).toNat : Nat) : Int) = p2 (lenv (n : Int)) := by rw [← e2]; simp
    omega
  · have : ((2 ^ (lenv (n : Int)).toNat : Nat) : Int) = p2 (lenv (n : Int)) := by rw [← e2]; simp
    omega
set_option maxHeartbeats 1000000 in
theorem bitlen_any (x : Int) (h0 : 0 ≤ x) (h1 : x ≤ 18446744073709551615) (w : World) : Calls Try.prog 33 #[.int .u64 x] w fun e w' => e = .returned (.int .i64 (lenv x)) ∧ w' = w := by
  go_enter Try.func33, Try.ntmps33
  go_wp2_with (go_at_call 44; refine (len64_any x h0 h1 _).mono ?_; rintro e w' ⟨rfl, rfl⟩)
  go_ret
  exact ⟨rfl, rfl⟩
set_option maxHeartbeats 1000000 in
theorem power_any (n : Nat) (h0 : 8 ≤ n) (h1 : n < 2305843009213693952) (x : Int) (ex : x = n) (w : World) : Calls Try.prog 46 #[.int .i64 x] w fun e w' => ∃ M : Nat, e = .returned (.int .u64 M) ∧ M ≤ 2 * n ∧ 8 ≤ M ∧ w' = w := by
  subst ex
  obtain ⟨l0, l1⟩ := lenv_64 (a := (n : Int)) (by omega) (by omega)
  go_enter Try.func46, Try.ntmps46
  go_wp2_with (go_at_call 33; refine (bitlen_any n (by omega) (by omega) _).mono ?_; rintro e w' ⟨rfl, rfl⟩)
  obtain ⟨M, e, m0, m1⟩ := pow_bd h0 h1
  go_ret
  exact ⟨M, by rw [e]; rfl, m0, m1, rfl⟩
set_option maxHeartbeats 1000000 in
theorem xorshift_any (B : Nat) (W : World) (sb : Nat) (X : Int) (h0 : 0 ≤ X) (h1 : X ≤ 18446744073709551615) (w : World) (K : Pk B W w sb (.int .u64 X)) :
    Calls Try.prog 47 #[.pointer (some ⟨sb, 0, none⟩)] w fun e w' => ∃ Y : Int, e = .returned (.int .u64 Y) ∧ 0 ≤ Y ∧ Y ≤ 18446744073709551615 ∧ Pk B W w' sb (.int .u64 Y) := by
  go_enter Try.func47, Try.ntmps47
  have c0 := K.c
  have f0 := K.f
  go_upto_region 1 with fail
  go_cut [] (fun wx => ∃ Y : Int, 0 ≤ Y ∧ Y ≤ 18446744073709551615 ∧ Pk B W wx sb (.int .u64 Y))
  case first =>
    go_region
    all_goals go_wp2_with fail
    all_goals go_meet
    case rel => exact ⟨_, (xor_bd h0 h1 (wrap_bd _).1 (wrap_bd _).2).1, (xor_bd h0 h1 (wrap_bd _).1 (wrap_bd _).2).2, (K.drewN 1).put _⟩
  case rest =>
    obtain ⟨Y, y0, y1, K1⟩ := hcut
    clear c0 f0 K h0 h1
    have c0 := K1.c
    have f0 := K1.f
    go_upto_region 2 with fail
    go_cut [] (fun wx => ∃ Y : Int, 0 ≤ Y ∧ Y ≤ 18446744073709551615 ∧ Pk B W wx sb (.int .u64 Y))
    case first =>
      go_region
      all_goals go_wp2_with fail
      all_goals go_meet
      case rel => exact ⟨_, (xor_bd y0 y1 (by omega) (by omega)).1, (xor_bd y0 y1 (by omega) (by omega)).2, (K1.drewN 1).put _⟩
    case rest =>
      obtain ⟨Z, z0, z1, K2⟩ := hcut
      clear c0 f0 K1 y0 y1
      have c0 := K2.c
      have f0 := K2.f
      go_upto_region 3 with fail
      go_cut [] (fun wx => ∃ Y : Int, 0 ≤ Y ∧ Y ≤ 18446744073709551615 ∧ Pk B W wx sb (.int .u64 Y))
      case first =>
        go_region
        all_goals go_wp2_with fail
        all_goals go_meet
        case rel => exact ⟨_, (xor_bd z0 z1 (wrap_bd _).1 (wrap_bd _).2).1, (xor_bd z0 z1 (wrap_bd _).1 (wrap_bd _).2).2, (K2.drewN 1).put _⟩
      case rest =>
        obtain ⟨V, v0, v1, K3⟩ := hcut
        clear c0 f0 K2 z0 z1
        have c0 := K3.c
        have f0 := K3.f
        go_wp2_with fail
        go_ret
        exact ⟨V, rfl, v0, v1, K3⟩
/-- What is far from a row leaves it. -/
theorem Rw.aside {α : Type} [Inhabited α] {enc : α → Value} {w wr w1 : World} {g off : Nat} {d : Array α} (h : Rw enc w g off d wr) (hg : g < w.heap.size) {B : Nat} (hB : w.heap.size ≤ B) (hb : Below B wr w1) : Rw enc w g off d w1 := by
  refine ⟨fun j hj => ?_, ⟨hb.os.trans h.kept.os, hb.tape.trans h.kept.tape, hb.output.trans h.kept.output, Nat.le_trans h.kept.size hb.size, fun i hi hne => (hb.block i (by omega)).trans (h.kept.block i hi hne)⟩, fun c e fr hc => ?_⟩
  · exact ⟨(hb.cell (p := ⟨g, off + j, none⟩) (by show g < B; omega)).trans (h.holds j hj).1, (hb.frozen (p := ⟨g, off + j, none⟩) (by show g < B; omega)).trans (h.holds j hj).2⟩
  · obtain ⟨c1, h1, z1, o1⟩ := h.same c e fr hc
    exact ⟨c1, (hb.block g (by omega)).trans h1, z1, o1⟩
set_option maxHeartbeats 4000000 in
theorem break_any (g off cap n a b : Nat) (d : Array Int) (w : World) (hn : d.size = n) (hH : Holds (Value.int .u64) w g off d) (hg : g < w.heap.size) (hab : a ≤ b) (hb : b ≤ n) (hsz : n < 2305843009213693952) :
    Calls Try.prog 36 #[.slice (some ⟨g, off, none⟩) n cap, .int .i64 a, .int .i64 b] w fun e w' =>
      e = .returned (.tuple #[]) ∧ ∃ d', PermIn a b d d' ∧ Rw (Value.int .u64) w g off d' w' := by
  go_enter Try.func36, Try.ntmps36
  by_cases h8 : b - a < 8
  · go_wp2
    first | go_end0 | ((try simp only [Exit.inBlock, Exit.then]); refine bodyPost_ret (results_none rfl _ _ _) rfl ?_)
    exact ⟨rfl, d, permIn_refl _ _ _, Rw.refl hH⟩
  · obtain ⟨l, hl⟩ : ∃ l, b = a + l := ⟨b - a, by omega⟩
    have HL : Hid (b = a + l) := hl
    have l8 : 8 ≤ l := by omega
    have ln : l ≤ n := by omega
    clear hl
    have h8i : 8 ≤ (b : Int) - a := by omega
    obtain ⟨q, hq0, hq⟩ : ∃ q : Nat, q = l / 4 ∧ ((b : Int) - a) / 4 = (q : Int) := ⟨l / 4, rfl, by have := HL.out; omega⟩
    have q0 : 2 ≤ q := by omega
    have q1 : q * 4 ≤ l := by omega
    have hbn : a + l ≤ n := by have := HL.out; omega
    clear hq0
    go_wp2_with fail
    refine (power_any l l8 (by omega) _ (by have := HL.out; omega) _).mono ?_
    rintro e w1 ⟨M, rfl, m0, m1, rfl⟩
    have K0 : Pk w.heap.size w (w.alloc (Obj.cells #[Value.int IntKind.u64 ((b : Int) - a)] 83)) w.heap.size (.int .u64 ((b : Int) - a)) := ⟨(Below.refl _ _).alloc (Nat.le_refl _) _, by simp [go_sem], by simp [go_sem], Nat.le_refl _⟩
    have R0 := (Rw.refl hH).aside hg (Nat.le_refl _) K0.bel
    have X0 : (0 : Int) ≤ (b : Int) - a ∧ (b : Int) - a ≤ 18446744073709551615 := by omega
    go_wp2_with fail
    simp only [hq]
    go_loopg [9] 3 (fun k s9 wr => ∃ (i : Nat) (X : Int) (dk : Array Int), s9 = .int .i64 i ∧ i + k = a + q * 2 + 2 ∧ k ≤ 3 ∧ 0 ≤ X ∧ X ≤ 18446744073709551615 ∧ wr.cell? ⟨w.heap.size, 0, none⟩ = some (.int .u64 X) ∧ wr.frozen? ⟨w.heap.size, 0, none⟩ = false ∧
      dk.size = n ∧ Rw (Value.int .u64) w g off dk wr ∧ PermIn a b d dk)
    case atStart => exact ⟨a + q * 2 - 1, _, d, by congr 1; omega, by omega, Nat.le_refl _, X0.1, X0.2, K0.c, K0.f, hn, R0, permIn_refl _ _ _⟩
    case round =>
      obtain ⟨i, X, dk, rfl, hik, hk3, hx0, hx1, c0, f0, hsk, hR, hP⟩ := hrel
      clear K0 R0 X0
      by_cases hk : i = a + q * 2 + 2
      · have hi : ¬ (i : Int) ≤ (a : Int) + (q : Int) * 2 + 1 := by omega
        go_wp2_with fail
        go_end0
        exact ⟨rfl, dk, hP, hR⟩
      · have hi : (i : Int) ≤ (a : Int) + (q : Int) * 2 + 1 := by omega
        go_upto_if 43 with (go_at_call 47; refine (xorshift_any w.heap.size _ w.heap.size X hx0 hx1 _ ⟨Below.refl _ _, c0, f0, Nat.le_refl _⟩).mono ?_; rintro e w2 ⟨Y, rfl, y0, y1, K1⟩)
        obtain ⟨o, ho, how, ho2⟩ := and_lt y0 y1 m0 m1 (show l < 2305843009213693952 by omega)
        simp only [ho, how]
        clear ho how
        go_cut [10] (fun s10 wx => ∃ p : Nat, s10 = .int .i64 p ∧ p < l ∧ wx = w2)
        case first =>
          by_cases hol : l ≤ o
          · have hol' : (b : Int) - a ≤ o := by have := HL.out; omega
            go_wp2_with fail
            go_meet
            case rel => exact ⟨o - l, by congr 1; have := HL.out; omega, by omega, rfl⟩
          · have hol' : ¬ ((b : Int) - a ≤ o) := by have := HL.out; omega
            go_wp2_with fail
            go_meet
            case rel => exact ⟨o, rfl, by omega, rfl⟩
        case rest =>
          obtain ⟨p, rfl, hp, rfl⟩ := hcut
          have hR2 := hR.aside hg (Nat.le_refl _) K1.bel
          obtain ⟨hc, hf⟩ := hR2.family hsk
          obtain ⟨G, HG⟩ : ∃ G : Nat → Int, Hid (∀ t, G t = dk[t]!) := ⟨fun t => dk[t]!, fun _ => rfl⟩
          simp only [← HG.out] at hc
          have hs := fun q => (hR2.drewN hg q).swap (j := i) (k := a + p) (by omega) (by omega)
          simp only [← HG.out] at hs
          have HS : Hid _ := hs
          clear hs
          have c1 := K1.c
          have f1 := K1.f
          have hin : i < n := by omega
          have hpn : a + p < n := by omega
          obtain ⟨vy, hy⟩ := cell?_setCell_some (w := wc) (p := ⟨g, off + i, none⟩) (x := .int .u64 (G (a + p))) (hc (a + p) (by omega))
          go_wp2
          go_region
          all_goals go_wp2
          obtain ⟨z0, z1⟩ : wc.cell? ⟨w.heap.size, 0, none⟩ = some (.int .u64 Y) ∧ wc.frozen? ⟨w.heap.size, 0, none⟩ = false := ⟨c1, f1⟩
          go_roundg (a + q * 2 + 2 - (i + 1))
          case rel =>
            refine ⟨i + 1, Y, swp dk i (a + p), by go_num, by omega, by omega, y0, y1, ?_, ?_, by rw [size_swp]; exact hsk, HS.out 1, permIn_trans _ _ _ _ _ hP (swp_permIn _ _ _ _ _ (by omega) (by have := HL.out; omega) (by omega) (by have := HL.out; omega) (by omega))⟩
            · show ((wc.setCell _ _).setCell _ _).cell? _ = _
              rw [World.cell?_setCell_other _ _ _ _ (by simp <;> omega), World.cell?_setCell_other _ _ _ _ (by simp <;> omega)]; exact z0
            · show ((wc.setCell _ _).setCell _ _).frozen? _ = _
              rw [World.frozen?_setCell, World.frozen?_setCell]; exact z1
          case measure => omega
end Go.Proofs.Ytjjojbmpjkcmaaa
