/-
  Parting a row of numbers in two. No conditions but the row's.
-/
import Derived.Test.YtjjojbmpjkcmaaaV7
namespace Go.Proofs.Ytjjojbmpjkcmaaa
open Go.RowKit Go.Sort
set_option linter.unusedVariables false
set_option maxHeartbeats 8000000 in
set_option maxRecDepth 10000 in
theorem partition_any (g off cap n a b v : Nat) (d : Array Int) (w : World) (hn : d.size = n) (hH : Holds (Value.int .u64) w g off d) (hg : g < w.heap.size) (hav : a ≤ v) (hvb : v < b) (hb : b ≤ n) (hsz : n < 2305843009213693952) :
    Calls Try.prog 42 #[.slice (some ⟨g, off, none⟩) n cap, .int .i64 a, .int .i64 b, .int .i64 v] w fun e w' =>
      e = .returned (.tuple #[.int .i64 (partition ltInt d a b v).1, .bool (partition ltInt d a b v).2.1]) ∧ Rw (Value.int .u64) w g off (partition ltInt d a b v).2.2 w' := by
  go_enter Try.func42, Try.ntmps42
  have hR0 := Rw.refl hH
  obtain ⟨hc, hf⟩ := hR0.family hn
  obtain ⟨G, HG⟩ : ∃ G : Nat → Int, Hid (∀ t, G t = d[t]!) := ⟨fun t => d[t]!, fun _ => rfl⟩
  simp only [← HG.out] at hc
  have hs2 := fun q => (hR0.drewN hg q).swap (j := a) (k := v) (by omega) (by omega)
  simp only [← HG.out] at hs2
  have HS : Hid _ := hs2
  clear hs2
  have han : a < n := by omega
  have hvn : v < n := by omega
  obtain ⟨vy, hy⟩ := cell?_setCell_some (w := w) (p := ⟨g, off + a, none⟩) (x := .int .u64 (G v)) (hc v (by omega))
  go_upto_region 1 with fail
  go_cut [] (fun wx => Rw (Value.int .u64) w g off (swp d a v) wx)
  case first =>
    go_region
    all_goals go_wp2_with fail
    all_goals go_meet
    case rel => exact HS.out 1
  case rest =>
    have hR1 := hcut
    clear hcut HS hc hf hy HG hR0 G
    have hs : (swp d a v).size = n := by rw [size_swp]; exact hn
    obtain ⟨G, HG⟩ : ∃ G : Nat → Int, Hid (∀ t, G t = (swp d a v)[t]!) := ⟨fun t => (swp d a v)[t]!, fun _ => rfl⟩
    go_wp2_with fail
    go_loopg [10] ((b - 1) + 1 - (a + 1)) (fun k sx wr => ∃ x0 : Nat, sx = .int .i64 x0 ∧ (a + 1) ≤ x0 ∧ x0 ≤ (b - 1) + 1 ∧ (b - 1) + 1 - x0 ≤ k ∧ Rw (Value.int .u64) w g off (swp d a v) wr ∧ Hid (scanUp (fun z => ltInt z (swp d a v)[a]!) (swp d a v) (b - 1) x0 = scanUp (fun z => ltInt z (swp d a v)[a]!) (swp d a v) (b - 1) (a + 1)))
    case atStart => exact ⟨(a + 1), by first | rfl | go_num | (congr 1; omega), Nat.le_refl _, by omega, Nat.le_refl _, hR1, rfl⟩
    case round =>
      obtain ⟨x0, rfl, hx10, hx20, hxk0, hRx, HU⟩ := hrel
      obtain ⟨hc, hf⟩ := hRx.family hs
      simp only [← HG.out] at hc
      go_upto_region 3 with fail
      go_cut [43] (fun sT wx => sT = .bool (decide (x0 ≤ (b - 1)) && ltInt (G x0) (G a)) ∧ Rw (Value.int .u64) w g off (swp d a v) wx)
      case first =>
        by_cases hle : x0 ≤ (b - 1)
        · have hlei : (x0 : Int) ≤ (b - 1) := by omega
          go_big_quiet (first | (go_at_call 40; refine Calls.quiet_of_same (less_any _ _ _)))
          go_wp2_with fail
          go_meet
          case rel => exact ⟨by simp [hle], hRx.drewN hg _⟩
        · have hlei : decide ((x0 : Int) ≤ (b - 1)) = false := decide_eq_false (by omega)
          go_big_quiet (first | (go_at_call 40; refine Calls.quiet_of_same (less_any _ _ _)))
          go_wp2_with fail
          go_meet
          case rel => exact ⟨by simp [hle], hRx.drewN hg _⟩
      case rest =>
        obtain ⟨rfl, hRc⟩ := hcut
        cases hT : (decide (x0 ≤ (b - 1)) && ltInt (G x0) (G a))
        · have hxe0 := hT
          have HX0 : Hid (scanUp (fun z => ltInt z (swp d a v)[a]!) (swp d a v) (b - 1) (a + 1) = x0) := by
            show _ = _
            rw [← HU.out]; exact scanU_end (by rw [← HG.out, ← HG.out]; exact hT)
          have hRu0 := hRc
          clear hT HU hRx hRc hc hf
          go_wp2_with fail
          go_loopg [11] (b - 1) (fun k sy wr => ∃ y0 : Nat, sy = .int .i64 y0 ∧ y0 ≤ (b - 1) ∧ x0 ≤ y0 + 1 ∧ y0 ≤ k ∧ Rw (Value.int .u64) w g off (swp d a v) wr ∧ Hid (scanDown (fun z => !ltInt z (swp d a v)[a]!) (swp d a v) x0 y0 = scanDown (fun z => !ltInt z (swp d a v)[a]!) (swp d a v) x0 (b - 1)))
          case atStart => exact ⟨(b - 1), by first | rfl | go_num | (congr 1; omega), Nat.le_refl _, hx20, Nat.le_refl _, hRu0, rfl⟩
          case round =>
            obtain ⟨y0, rfl, hy10, hy20, hyk0, hRy, HD⟩ := hrel
            obtain ⟨hc, hf⟩ := hRy.family hs
            simp only [← HG.out] at hc
            go_upto_region 5 with fail
            go_cut [60] (fun sT wx => sT = .bool (decide (x0 ≤ y0) && !ltInt (G y0) (G a)) ∧ Rw (Value.int .u64) w g off (swp d a v) wx)
            case first =>
              by_cases hle : x0 ≤ y0
              · have hlei : (x0 : Int) ≤ y0 := by omega
                go_big_quiet (first | (go_at_call 40; refine Calls.quiet_of_same (less_any _ _ _)))
                go_wp2_with fail
                go_meet
                case rel => exact ⟨by simp [hle], hRy.drewN hg _⟩
              · have hlei : decide ((x0 : Int) ≤ y0) = false := decide_eq_false (by omega)
                go_big_quiet (first | (go_at_call 40; refine Calls.quiet_of_same (less_any _ _ _)))
                go_wp2_with fail
                go_meet
                case rel => exact ⟨by simp [hle], hRy.drewN hg _⟩
            case rest =>
              obtain ⟨rfl, hRc⟩ := hcut
              cases hT : (decide (x0 ≤ y0) && !ltInt (G y0) (G a))
              · have hye0 := hT
                have HY0 : Hid (scanDown (fun z => !ltInt z (swp d a v)[a]!) (swp d a v) x0 (b - 1) = y0) := by
                  show _ = _
                  rw [← HD.out]; exact scanD_end (by omega) (by rw [← HG.out, ← HG.out]; exact hT)
                have hRd0 := hRc
                clear hT HD hRy hRc hc hf
                by_cases hxy0 : y0 < x0
                · have e := part_first HX0.out HY0.out hxy0
                  obtain ⟨hc, hf⟩ := hRd0.family hs
                  simp only [← HG.out] at hc
                  have hs2 := fun q => (hRd0.drewN hg q).swap (j := y0) (k := a) (by omega) (by omega)
                  simp only [← HG.out] at hs2
                  have HS : Hid _ := hs2
                  clear hs2
                  have hyn : y0 < n := by omega
                  have han : a < n := by omega
                  obtain ⟨vy, hy⟩ := cell?_setCell_some (w := wc) (p := ⟨g, off + y0, none⟩) (x := .int .u64 (G a)) (hc a (by omega))
                  go_wp2_with fail
                  go_region
                  all_goals go_wp2_with fail
                  all_goals go_ret2
                  all_goals rw [e]
                  all_goals exact ⟨rfl, HS.out 1⟩
                · have hxyi : (x0 : Int) ≤ y0 := by omega
                  have hne0 : x0 < y0 := by
                    rcases Nat.lt_or_ge x0 y0 with h | h
                    · exact h
                    · exfalso
                      have e : x0 = y0 := by omega
                      subst e
                      rw [decide_eq_true (by omega : x0 ≤ b - 1)] at hxe0
                      rw [decide_eq_true (by omega : x0 ≤ x0)] at hye0
                      simp at hxe0 hye0
                      first | (rw [hxe0] at hye0; cases hye0) | simp_all
                  obtain ⟨hc, hf⟩ := hRd0.family hs
                  simp only [← HG.out] at hc
                  have hs2 := fun q => (hRd0.drewN hg q).swap (j := x0) (k := y0) (by omega) (by omega)
                  simp only [← HG.out] at hs2
                  have HS : Hid _ := hs2
                  clear hs2
                  go_upto_region 10 with fail
                  go_cut [] (fun wx => Rw (Value.int .u64) w g off (swp (swp d a v) x0 y0) wx)
                  case first =>
                    go_region
                    all_goals go_wp2_with fail
                    all_goals go_meet
                    case rel => exact HS.out 1
                  case rest =>
                   have hR2 := hcut
                   clear hcut HS hc hf HG
                   have hs0 := hs
                   clear hs
                   go_wp2_with fail
                   go_loopg [10, 11] (b - a) (fun k s10 s11 wr => ∃ (i j : Nat) (dk : Array Int), s10 = .int .i64 i ∧ s11 = .int .i64 j ∧ a < i ∧ i ≤ j + 1 ∧ j < b ∧ j + 1 - i ≤ k ∧ dk.size = n ∧ Rw (Value.int .u64) w g off dk wr ∧ Hid (partLoop ltInt a i j dk = partLoop ltInt a (x0 + 1) (y0 - 1) (swp (swp d a v) x0 y0)))
                   case atStart => exact ⟨x0 + 1, y0 - 1, swp (swp d a v) x0 y0, by go_num, by go_num, by omega, by omega, by omega, by omega, by rw [size_swp]; exact hs0, hR2, rfl⟩
                   case round =>
                     obtain ⟨i, j, dk, rfl, rfl, hai, hij, hjb, hk, hs, hR, HO⟩ := hrel
                     clear hR2
                     obtain ⟨G, HG⟩ : ∃ G : Nat → Int, Hid (∀ t, G t = dk[t]!) := ⟨fun t => dk[t]!, fun _ => rfl⟩
                     go_wp2_with fail
                     go_loopg [10] (j + 1 - i) (fun k sx wr => ∃ x : Nat, sx = .int .i64 x ∧ i ≤ x ∧ x ≤ j + 1 ∧ j + 1 - x ≤ k ∧ Rw (Value.int .u64) w g off dk wr ∧ Hid (scanUp (fun z => ltInt z dk[a]!) dk j x = scanUp (fun z => ltInt z dk[a]!) dk j i))
                     case atStart => exact ⟨i, by first | rfl | go_num | (congr 1; omega), Nat.le_refl _, by omega, Nat.le_refl _, hR, rfl⟩
                     case round =>
                       obtain ⟨x, rfl, hx1, hx2, hxk, hRx, HU⟩ := hrel
                       obtain ⟨hc, hf⟩ := hRx.family hs
                       simp only [← HG.out] at hc
                       go_upto_region 13 with fail
                       go_cut [112] (fun sT wx => sT = .bool (decide (x ≤ j) && ltInt (G x) (G a)) ∧ Rw (Value.int .u64) w g off dk wx)
                       case first =>
                         by_cases hle : x ≤ j
                         · have hlei : (x : Int) ≤ j := by omega
                           go_big_quiet (first | (go_at_call 40; refine Calls.quiet_of_same (less_any _ _ _)))
                           go_wp2_with fail
                           go_meet
                           case rel => exact ⟨by simp [hle], hRx.drewN hg _⟩
                         · have hlei : decide ((x : Int) ≤ j) = false := decide_eq_false (by omega)
                           go_big_quiet (first | (go_at_call 40; refine Calls.quiet_of_same (less_any _ _ _)))
                           go_wp2_with fail
                           go_meet
                           case rel => exact ⟨by simp [hle], hRx.drewN hg _⟩
                       case rest =>
                         obtain ⟨rfl, hRc⟩ := hcut
                         cases hT : (decide (x ≤ j) && ltInt (G x) (G a))
                         · have hxe := hT
                           have HX : Hid (scanUp (fun z => ltInt z dk[a]!) dk j i = x) := by
                             show _ = _
                             rw [← HU.out]; exact scanU_end (by rw [← HG.out, ← HG.out]; exact hT)
                           have hRu := hRc
                           clear hT HU hRx hRc hc hf
                           go_wp2_with fail
                           go_loopg [11] j (fun k sy wr => ∃ y : Nat, sy = .int .i64 y ∧ y ≤ j ∧ x ≤ y + 1 ∧ y ≤ k ∧ Rw (Value.int .u64) w g off dk wr ∧ Hid (scanDown (fun z => !ltInt z dk[a]!) dk x y = scanDown (fun z => !ltInt z dk[a]!) dk x j))
                           case atStart => exact ⟨j, by first | rfl | go_num | (congr 1; omega), Nat.le_refl _, hx2, Nat.le_refl _, hRu, rfl⟩
                           case round =>
                             obtain ⟨y, rfl, hy1, hy2, hyk, hRy, HD⟩ := hrel
                             obtain ⟨hc, hf⟩ := hRy.family hs
                             simp only [← HG.out] at hc
                             go_upto_region 15 with fail
                             go_cut [129] (fun sT wx => sT = .bool (decide (x ≤ y) && !ltInt (G y) (G a)) ∧ Rw (Value.int .u64) w g off dk wx)
                             case first =>
                               by_cases hle : x ≤ y
                               · have hlei : (x : Int) ≤ y := by omega
                                 go_big_quiet (first | (go_at_call 40; refine Calls.quiet_of_same (less_any _ _ _)))
                                 go_wp2_with fail
                                 go_meet
                                 case rel => exact ⟨by simp [hle], hRy.drewN hg _⟩
                               · have hlei : decide ((x : Int) ≤ y) = false := decide_eq_false (by omega)
                                 go_big_quiet (first | (go_at_call 40; refine Calls.quiet_of_same (less_any _ _ _)))
                                 go_wp2_with fail
                                 go_meet
                                 case rel => exact ⟨by simp [hle], hRy.drewN hg _⟩
                             case rest =>
                               obtain ⟨rfl, hRc⟩ := hcut
                               cases hT : (decide (x ≤ y) && !ltInt (G y) (G a))
                               · have hye := hT
                                 have HY : Hid (scanDown (fun z => !ltInt z dk[a]!) dk x j = y) := by
                                   show _ = _
                                   rw [← HD.out]; exact scanD_end (by omega) (by rw [← HG.out, ← HG.out]; exact hT)
                                 have hRd := hRc
                                 clear hT HD hRy hRc hc hf
                                 by_cases hxy : y < x
                                 · have e := part_then HX0.out HY0.out (by omega) ((part_break HX.out HY.out hxy).symm.trans HO.out).symm
                                   obtain ⟨hc, hf⟩ := hRd.family hs
                                   simp only [← HG.out] at hc
                                   have hs2 := fun q => (hRd.drewN hg q).swap (j := y) (k := a) (by omega) (by omega)
                                   simp only [← HG.out] at hs2
                                   have HS : Hid _ := hs2
                                   clear hs2
                                   have hyn : y < n := by omega
                                   have han : a < n := by omega
                                   obtain ⟨vy, hy⟩ := cell?_setCell_some (w := wc) (p := ⟨g, off + y, none⟩) (x := .int .u64 (G a)) (hc a (by omega))
                                   go_wp2_with fail
                                   go_region
                                   all_goals go_wp2_with fail
                                   all_goals go_ret2
                                   all_goals rw [e]
                                   all_goals exact ⟨rfl, HS.out 1⟩
                                 · have hxyi : (x : Int) ≤ y := by omega
                                   have hne : x < y := by
                                     rcases Nat.lt_or_ge x y with h | h
                                     · exact h
                                     · exfalso
                                       have e : x = y := by omega
                                       subst e
                                       rw [decide_eq_true (by omega : x ≤ j)] at hxe
                                       rw [decide_eq_true (by omega : x ≤ x)] at hye
                                       simp at hxe hye
                                       first | (rw [hxe] at hye; cases hye) | simp_all
                                   obtain ⟨hc, hf⟩ := hRd.family hs
                                   simp only [← HG.out] at hc
                                   have hs2 := fun q => (hRd.drewN hg q).swap (j := x) (k := y) (by omega) (by omega)
                                   simp only [← HG.out] at hs2
                                   have HS : Hid _ := hs2
                                   clear hs2
                                   have HO2 : Hid (partLoop ltInt a (x + 1) (y - 1) (swp dk x y) = partLoop ltInt a (x0 + 1) (y0 - 1) (swp (swp d a v) x0 y0)) := (part_go HX.out HY.out (by omega) hx1 hy1 (by omega)).symm.trans HO.out
                                   go_wp2_with fail
                                   go_region
                                   all_goals go_wp2
                                   go_roundg (y - 1 + 1 - (x + 1))
                                   case rel => exact ⟨x + 1, y - 1, swp dk x y, by go_num, by go_num, by omega, by omega, by omega, Nat.le_refl _, by rw [size_swp]; exact hs, HS.out 1, HO2⟩
                                   case measure => omega
                               · have hyx : x ≤ y := by
                                   have h1 := hT
                                   simp at h1; exact h1.1
                                 have HD2 : Hid (scanDown (fun z => !ltInt z dk[a]!) dk x (y - 1) = scanDown (fun z => !ltInt z dk[a]!) dk x j) := by
                                   show _ = _
                                   rw [← HD.out]; exact (scanD_go (by omega) (by rw [← HG.out, ← HG.out]; exact hT)).symm
                                 clear hT
                                 go_wp2_with fail
                                 go_roundg (y - 1)
                                 case rel => exact ⟨y - 1, by go_num, by omega, by omega, Nat.le_refl _, hRc, HD2⟩
                                 case measure => omega
                         · have hxj : x ≤ j := by
                             have h1 := hT
                             simp at h1; exact h1.1
                           have HU2 : Hid (scanUp (fun z => ltInt z dk[a]!) dk j (x + 1) = scanUp (fun z => ltInt z dk[a]!) dk j i) := by
                             show _ = _
                             rw [← HU.out]; exact (scanU_go (by rw [← HG.out, ← HG.out]; exact hT)).symm
                           clear hT
                           go_wp2_with fail
                           go_roundg (j + 1 - (x + 1))
                           case rel => exact ⟨x + 1, by go_num, by omega, by omega, Nat.le_refl _, hRc, HU2⟩
                           case measure => omega
              · have hyx0 : x0 ≤ y0 := by
                  have h1 := hT
                  simp at h1; exact h1.1
                have HD2 : Hid (scanDown (fun z => !ltInt z (swp d a v)[a]!) (swp d a v) x0 (y0 - 1) = scanDown (fun z => !ltInt z (swp d a v)[a]!) (swp d a v) x0 (b - 1)) := by
                  show _ = _
                  rw [← HD.out]; exact (scanD_go (by omega) (by rw [← HG.out, ← HG.out]; exact hT)).symm
                clear hT
                go_wp2_with fail
                go_roundg (y0 - 1)
                case rel => exact ⟨y0 - 1, by go_num, by omega, by omega, Nat.le_refl _, hRc, HD2⟩
                case measure => omega
        · have hxj0 : x0 ≤ (b - 1) := by
            have h1 := hT
            simp at h1; exact h1.1
          have HU2 : Hid (scanUp (fun z => ltInt z (swp d a v)[a]!) (swp d a v) (b - 1) (x0 + 1) = scanUp (fun z => ltInt z (swp d a v)[a]!) (swp d a v) (b - 1) (a + 1)) := by
            show _ = _
            rw [← HU.out]; exact (scanU_go (by rw [← HG.out, ← HG.out]; exact hT)).symm
          clear hT
          go_wp2_with fail
          go_roundg ((b - 1) + 1 - (x0 + 1))
          case rel => exact ⟨x0 + 1, by go_num, by omega, by omega, Nat.le_refl _, hRc, HU2⟩
          case measure => omega
end Go.Proofs.Ytjjojbmpjkcmaaa
