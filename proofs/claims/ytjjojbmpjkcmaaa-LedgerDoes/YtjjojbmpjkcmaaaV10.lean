/-
  Sorting a row of numbers: it comes out sorted, of the same numbers. No conditions but the row's.
-/
import Derived.Test.YtjjojbmpjkcmaaaV2
import Derived.Test.YtjjojbmpjkcmaaaV4
import Derived.Test.YtjjojbmpjkcmaaaV6
import Derived.Test.YtjjojbmpjkcmaaaV8
import Derived.Test.YtjjojbmpjkcmaaaV9
namespace Go.Proofs.Ytjjojbmpjkcmaaa
open Go.RowKit Go.Sort
set_option linter.unusedVariables false
/-- Sorted from a on, below b, and otherwise as it was. -/
def Fin2 (a b : Nat) (d e : Array Int) : Prop := PermIn a b d e ∧ SortedIn ltInt a b e
set_option maxHeartbeats 2000000 in
set_option maxRecDepth 100000 in
theorem pdq_any : ∀ (N g off cap n a b limit : Nat) (d : Array Int) (w : World), b - a < N → d.size = n → Holds (Value.int .u64) w g off d → g < w.heap.size → a ≤ b → b ≤ n → n < 2305843009213693952 → limit < 2305843009213693952 → Go.Sort.Below ltInt a b d →
    ∀ (x y z : Int), x = a → y = b → z = limit → Calls Try.prog 32 #[.slice (some ⟨g, off, none⟩) n cap, .int .i64 x, .int .i64 y, .int .i64 z] w fun e w' =>
      e = .returned (.tuple #[]) ∧ ∃ d', Fin2 a b d d' ∧ Rw (Value.int .u64) w g off d' w' := by
  intro N
  induction N with
  | zero => intro _ _ _ _ _ _ _ _ _ h; exact absurd h (Nat.not_lt_zero _)
  | succ N ih =>
    intro g off cap n a b limit d w hN hn hH hg hab hb hsz hlimit hBel x y z ex ey ez
    subst ex ey ez
    go_enter Try.func32, Try.ntmps32
    go_wp2
    go_loopg [1, 2, 3, 8, 9] (b - a) (fun k s1 s2 s3 s8 s9 wr => ∃ (a' b' lim : Nat) (wb wp : Bool) (dk : Array Int), s1 = .int .i64 a' ∧ s2 = .int .i64 b' ∧ s3 = .int .i64 lim ∧ s8 = .bool wb ∧ s9 = .bool wp ∧
      a' ≤ b' ∧ b' ≤ n ∧ b' - a' ≤ k ∧ k ≤ b - a ∧ lim ≤ limit ∧ dk.size = n ∧ Go.Sort.Below ltInt a' b' dk ∧ Rw (Value.int .u64) w g off dk wr ∧ Hid (∀ R, Fin2 a' b' dk R → Fin2 a b d R))
    case atStart => exact ⟨a, b, limit, true, true, d, rfl, rfl, rfl, rfl, rfl, hab, hb, Nat.le_refl _, Nat.le_refl _, Nat.le_refl _, hn, hBel, Rw.refl hH, fun R h => h⟩
    case round =>
      obtain ⟨a', b', lim, wb, wp, dk, rfl, rfl, rfl, rfl, rfl, hab', hb', hk, hkN, hlim, hs, hBk, hR, HC⟩ := hrel
      have hbs : b' ≤ dk.size := by omega
      by_cases h12 : b' - a' ≤ 12
      · have h12z : (b' : Int) - (a' : Int) ≤ 12 := by omega
        have hc := insertion_any g off cap n a' b' dk _ hs hR.holds (hR.lt hg) hab' hb' (by omega)
        have F := insertionSort_holds (lt := ltInt) swo_ltInt dk a' b' hab' hbs
        go_wp2_with (go_at_call 34; refine hc.mono ?_; rintro e w1 ⟨rfl, hR1⟩)
        (try simp only [Exit.inBlock, Exit.then]); refine bodyPost_ret (results_none rfl _ _ _) rfl ?_
        exact ⟨rfl, _, HC.out _ F, hR.trans F.1.1 hR1⟩
      · have h12z : ¬ ((b' : Int) - (a' : Int) ≤ 12) := by omega
        by_cases hl0 : lim = 0
        · subst hl0
          have hc := heap_any g off cap n a' b' dk _ hs hR.holds (hR.lt hg) (by omega) hb' hsz
          have F := heapSort_holds (lt := ltInt) swo_ltInt dk a' b' hab' hbs
          go_wp2_with (go_at_call 35; refine hc.mono ?_; rintro e w1 ⟨rfl, hR1⟩)
          (try simp only [Exit.inBlock, Exit.then]); refine bodyPost_ret (results_none rfl _ _ _) rfl ?_
          exact ⟨rfl, _, HC.out _ F, hR.trans F.1.1 hR1⟩
        · have hl0z : ¬ ((lim : Int) = 0) := by omega
          go_upto_if 35 with fail
          go_cut [3] (fun s3 wx => ∃ (l1 : Nat) (d1 : Array Int), s3 = .int .i64 l1 ∧ l1 ≤ limit ∧ PermIn a' b' dk d1 ∧ Rw (Value.int .u64) w g off d1 wx)
          case first =>
            cases wb
            · have hc := break_any g off cap n a' b' dk _ hs hR.holds (hR.lt hg) hab' hb' hsz
              go_wp2_with (go_at_call 36; refine hc.mono ?_; rintro e w1 ⟨rfl, d1, P1, hR1⟩)
              go_meet
              case rel => exact ⟨lim - 1, d1, by congr 1; omega, by omega, P1, hR.trans P1.1 hR1⟩
            · go_wp2_with fail
              go_meet
              case rel => exact ⟨lim, dk, rfl, hlim, permIn_refl _ _ _, hR⟩
          case rest =>
            obtain ⟨l1, d1, rfl, hl1, P1, hR1⟩ := hcut
            have s1 : d1.size = n := P1.1.trans hs
            clear hR
            have hc17 := pivot_any _ g off cap n d1 s1 hR1.holds (hR1.lt hg) hsz a' b' _ _ rfl rfl (by omega) hb'
            go_upto_if 50 with (go_at_call 37; refine hc17.mono ?_; rintro e w2 ⟨p, h, rfl, hp1, hp2, h0, h2, hb2⟩)
            have hR2 := hR1.below hg hb2
            clear hR1 hc17
            go_cut [11, 12] (fun s11 s12 wx => ∃ (q : Nat) (t : Int) (d2 : Array Int), s11 = .int .i64 q ∧ s12 = .int .i64 t ∧ a' ≤ q ∧ q < b' ∧ PermIn a' b' dk d2 ∧ Rw (Value.int .u64) w g off d2 wx)
            case first =>
              by_cases hh : h = 2
              · subst hh
                have hc18 := reverse_any g off cap n a' b' d1 _ s1 hR2.holds (hR2.lt hg) (by omega) hb' (by omega)
                have F := reverseRange_holds (α := Int) d1 a' b' hab' (by omega)
                go_wp2_with (go_at_call 38; refine hc18.mono ?_; rintro e w3 ⟨rfl, hR3, hs3⟩)
                go_meet
                case rel => exact ⟨b' - 1 - (p - a'), 1, _, by congr 1; omega, rfl, by omega, by omega, permIn_trans _ _ _ _ _ P1 F, hR2.trans F.1 hR3⟩
              · go_wp2_with fail
                go_meet
                case rel => exact ⟨p, h, d1, rfl, rfl, hp1, hp2, P1, hR2⟩
            case rest =>
              obtain ⟨q, t, d2, rfl, rfl, hq1, hq2, P2, hR3⟩ := hcut
              have s2 : d2.size = n := P2.1.trans hs
              have hB2 : Go.Sort.Below ltInt a' b' d2 := Go.Sort.Below.perm hBk hbs P2
              clear hR2 P1 s1 hb2 hp1 hp2 h0 h2
              go_upto_region 15 with fail
              go_cut [68] (fun s68 wx => ∃ u : Bool, s68 = .bool u ∧ wx = wc)
              case first =>
                cases wb <;> cases wp <;> by_cases ht : t = 1 <;>
                  (go_wp2_with fail
                   go_meet
                   exact ⟨_, rfl, rfl⟩)
              case rest =>
                obtain ⟨u, rfl, rfl⟩ := hcut
                go_upto_if 68 with fail
                go_cut [] (fun wx => ∃ d3 : Array Int, PermIn a' b' dk d3 ∧ Rw (Value.int .u64) w g off d3 wx)
                case first =>
                  cases u
                  · go_wp2_with fail
                    go_meet
                    case rel => exact ⟨d2, P2, hR3⟩
                  · have hc19 := partial_any g off cap n a' b' d2 _ s2 hR3.holds (hR3.lt hg) (by omega) hb' hsz
                    have F := partialInsertionSort_holds (lt := ltInt) swo_ltInt d2 a' b' (by omega) (by omega) hB2
                    cases hpi : (partialInsertionSort ltInt d2 a' b').2
                    · rw [hpi] at hc19
                      go_wp2_with (go_at_call 39; refine hc19.mono ?_; rintro e w4 ⟨rfl, hR4⟩)
                      go_meet
                      case rel => exact ⟨_, permIn_trans _ _ _ _ _ P2 F.1, hR3.trans F.1.1 hR4⟩
                    · rw [hpi] at hc19
                      go_wp2_with (go_at_call 39; refine hc19.mono ?_; rintro e w4 ⟨rfl, hR4⟩)
                      (try simp only [Exit.inBlock, Exit.then]); refine bodyPost_ret (results_none rfl _ _ _) rfl ?_
                      exact ⟨rfl, _, HC.out _ ⟨permIn_trans _ _ _ _ _ P2 F.1, F.2 hpi⟩, hR3.trans F.1.1 hR4⟩
                case rest =>
                  obtain ⟨d3, P3, hR5⟩ := hcut
                  have s3 : d3.size = n := P3.1.trans hs
                  have hB3 : Go.Sort.Below ltInt a' b' d3 := Go.Sort.Below.perm hBk hbs P3
                  have HC3 : Hid (∀ R, Fin2 a' b' d3 R → Fin2 a b d R) := fun R h => HC.out R ⟨permIn_trans _ _ _ _ _ P3 h.1, h.2⟩
                  clear hR3 P2 s2 hB2 HC P3
                  obtain ⟨hc, hf⟩ := hR5.family s3
                  obtain ⟨G, HG⟩ : ∃ G : Nat → Int, Hid (∀ t, G t = d3[t]!) := ⟨fun t => d3[t]!, fun _ => rfl⟩
                  simp only [← HG.out] at hc
                  go_upto_region 17 with fail
                  go_cut [87] (fun s87 wx => s87 = .bool (decide (0 < a') && !ltInt (G (a' - 1)) (G q)) ∧ Rw (Value.int .u64) w g off d3 wx)
                  case first =>
                    rcases Nat.eq_zero_or_pos a' with ha0 | ha0
                    · have ha0z : decide (0 < (a' : Int)) = false := decide_eq_false (by omega)
                      go_big_quiet (first | (go_at_call 40; refine Calls.quiet_of_same (less_any _ _ _)))
                      go_wp2_with fail
                      go_meet
                      case rel => exact ⟨by simp [ha0], hR5.drewN hg _⟩
                    · have ha0z : 0 < (a' : Int) := by omega
                      have hqn : q < n := by omega
                      have han : a' < n := by omega
                      go_big_quiet (first | (go_at_call 40; refine Calls.quiet_of_same (less_any _ _ _)))
                      go_wp2_with fail
                      go_meet
                      case rel => exact ⟨by simp [ha0], hR5.drewN hg _⟩
                  case rest =>
                    obtain ⟨rfl, hR6⟩ := hcut
                    clear hc hf hR5
                    cases h87 : (decide (0 < a') && !ltInt (G (a' - 1)) (G q))
                    · obtain ⟨mid, ap, d4, hx⟩ : ∃ mid ap d4, partition ltInt d3 a' b' q = (mid, ap, d4) := ⟨_, _, _, rfl⟩
                      obtain ⟨m1, m2, s4, B4, B5, C1, C2⟩ := round_part swo_ltInt (partition_holds ltInt) hq1 hq2 (by omega) hB3 hx
                      have hc20 := partition_any g off cap n a' b' q d3 _ s3 hR6.holds (hR6.lt hg) hq1 hq2 hb' hsz
                      rw [hx] at hc20
                      have s4n : d4.size = n := s4.trans s3
                      clear h87
                      have HX : Hid (partition ltInt d3 a' b' q = (mid, ap, d4)) := hx
                      clear hx
                      go_upto_if 113 with (go_at_call 42; refine hc20.mono ?_; rintro e w7 ⟨rfl, hR7'⟩)
                      have hR7 := hR6.trans (d' := d4) s4 hR7'
                      clear hR7' hR6 hc20
                      by_cases hlr : mid - a' < b' - mid
                      · have hlri : (mid : Int) - a' < (b' : Int) - mid := by omega
                        have hI := ih g off cap n a' mid l1 d4 _ (by omega) s4n hR7.holds (hR7.lt hg) m1 (by omega) hsz (by omega) B4 _ _ _ rfl rfl rfl
                        go_wp2_with (go_at_call 32; refine hI.mono ?_; rintro e w8 ⟨rfl, d5, F5, hR8⟩)
                        have hR9 := hR7.trans F5.1.1 hR8
                        obtain ⟨Bx, Cx⟩ := C1 d5 F5.1 F5.2
                        go_roundg (b' - (mid + 1))
                        case rel => exact ⟨mid + 1, b', l1, _, ap, d5, by go_num, rfl, rfl, rfl, rfl, by omega, hb', Nat.le_refl _, by omega, hl1, F5.1.1.trans s4n, Bx, hR9, fun R h => HC3.out R (Cx R h.1 h.2)⟩
                        case measure => omega
                      · have hlri : ¬ (mid : Int) - a' < (b' : Int) - mid := by omega
                        have hI := ih g off cap n (mid + 1) b' l1 d4 _ (by omega) s4n hR7.holds (hR7.lt hg) (by omega) hb' hsz (by omega) B5 ((mid : Int) + 1) _ _ (by omega) rfl rfl
                        go_wp2_with (go_at_call 32; refine hI.mono ?_; rintro e w8 ⟨rfl, d5, F5, hR8⟩)
                        have hR9 := hR7.trans F5.1.1 hR8
                        obtain ⟨Bx, Cx⟩ := C2 d5 F5.1 F5.2
                        go_roundg (mid - a')
                        case rel => exact ⟨a', mid, l1, _, ap, d5, rfl, rfl, rfl, rfl, rfl, by omega, by omega, Nat.le_refl _, by omega, hl1, F5.1.1.trans s4n, Bx, hR9, fun R h => HC3.out R (Cx R h.1 h.2)⟩
                        case measure => omega
                    · have hd : 0 < a' ∧ ltInt (G (a' - 1)) (G q) = false := by simpa using h87
                      obtain ⟨mid, d4, hx⟩ : ∃ mid d4, partitionEqual ltInt d3 a' b' q = (mid, d4) := ⟨_, _, rfl⟩
                      obtain ⟨m1, m2, s4, B4, C1⟩ := round_eq swo_ltInt (partitionEqual_holds ltInt) hd.1 hq1 hq2 (by omega) hB3 (by rw [← HG.out, ← HG.out]; exact hd.2) hx
                      have hc21 := partEq_any g off cap n a' b' q d3 _ s3 hR6.holds (hR6.lt hg) hq1 hq2 hb' hsz
                      rw [hx] at hc21
                      have s4n : d4.size = n := s4.trans s3
                      have HX : Hid (partitionEqual ltInt d3 a' b' q = (mid, d4)) := hx
                      clear hx h87 hd
                      go_wp2_with (go_at_call 41; refine hc21.mono ?_; rintro e w7 ⟨rfl, hR7'⟩)
                      have hR7 := hR6.trans (d' := d4) s4 hR7'
                      go_roundg (b' - mid)
                      case rel => exact ⟨mid, b', l1, _, _, d4, rfl, rfl, rfl, rfl, rfl, m2, hb', Nat.le_refl _, by omega, hl1, s4n, B4, hR7, fun R h => HC3.out R (C1 R h.1 h.2)⟩
                      case measure => omega
end Go.Proofs.Ytjjojbmpjkcmaaa
