/-
  Sorting a row of numbers that is nearly sorted. No conditions but the row's.
-/
import Derived.Test.YtjjojbmpjkcmaaaV1
namespace Go.Proofs.Ytjjojbmpjkcmaaa
open Go.RowKit Go.Sort
set_option linter.unusedVariables false
section
variable {α : Type} [Inhabited α] {lt : α → α → Bool}
theorem scanS_go {d : Array α} {b i : Nat} (h : (decide (i < b) && !lt d[i]! d[i - 1]!) = true) : scanSorted lt d b i = scanSorted lt d b (i + 1) := by
  rw [scanSorted, if_pos (by simpa using h)]
theorem scanS_end {d : Array α} {b i : Nat} (h : (decide (i < b) && !lt d[i]! d[i - 1]!) = false) : scanSorted lt d b i = i := by
  rw [scanSorted, if_neg (by rw [h]; simp)]
theorem shiftD_go {j : Nat} {d : Array α} (h1 : 1 ≤ j) (h : lt d[j]! d[j - 1]! = true) : shiftDown lt j d = shiftDown lt (j - 1) (swp d j (j - 1)) := by
  cases j with
  | zero => omega
  | succ j => rw [shiftDown]; simp only [Nat.add_sub_cancel] at h ⊢; simp [h]
theorem shiftD_stop {j : Nat} {d : Array α} (h : j < 1 ∨ lt d[j]! d[j - 1]! = false) : shiftDown lt j d = d := by
  cases j with
  | zero => rw [shiftDown]
  | succ j =>
    rcases h with h | h
    · omega
    · rw [shiftDown]; simp only [Nat.add_sub_cancel] at h; simp [h]
theorem shiftU_go {b j : Nat} {d : Array α} (h1 : j < b) (h : lt d[j]! d[j - 1]! = true) : shiftUp lt b j d = shiftUp lt b (j + 1) (swp d j (j - 1)) := by
  rw [shiftUp, if_pos h1]; simp [h]
theorem shiftU_stop {b j : Nat} {d : Array α} (h : b ≤ j ∨ lt d[j]! d[j - 1]! = false) : shiftUp lt b j d = d := by
  by_cases h1 : j < b
  · rw [shiftUp, if_pos h1]
    rcases h with h | h
    · omega
    · simp [h]
  · rw [shiftUp, if_neg h1]
theorem pi_true {a b s i x : Nat} {d : Array α} (hx : scanSorted lt d b i = x) (h : x = b) (hs : s < 5) : partialIns lt a b (5 - s) i d = (d, true) := by
  obtain ⟨t, ht⟩ : ∃ t, 5 - s = t + 1 := ⟨5 - s - 1, by omega⟩
  rw [ht, partialIns]; simp only [hx]; rw [if_pos h]
theorem pi_false {a b s i x : Nat} {d : Array α} (hx : scanSorted lt d b i = x) (h : ¬ x = b) (hs : s < 5) (h50 : b - a < 50) : partialIns lt a b (5 - s) i d = (d, false) := by
  obtain ⟨t, ht⟩ : ∃ t, 5 - s = t + 1 := ⟨5 - s - 1, by omega⟩
  rw [ht, partialIns]; simp only [hx]; rw [if_neg h, if_pos h50]
theorem pi_next {a b s i x : Nat} {d : Array α} (hx : scanSorted lt d b i = x) (h : ¬ x = b) (hs : s < 5) (h50 : ¬ b - a < 50) : partialIns lt a b (5 - s) i d =
    partialIns lt a b (5 - (s + 1)) x (if b - x ≥ 2 then shiftUp lt b (x + 1) (if x - a ≥ 2 then shiftDown lt (x - 1) (swp d x (x - 1)) else swp d x (x - 1)) else (if x - a ≥ 2 then shiftDown lt (x - 1) (swp d x (x - 1)) else swp d x (x - 1))) := by
  obtain ⟨t, ht⟩ : ∃ t, 5 - s = t + 1 := ⟨5 - s - 1, by omega⟩
  rw [ht, show 5 - (s + 1) = t by omega, partialIns]; simp only [hx]; rw [if_neg h, if_neg h50]
end
set_option maxHeartbeats 8000000 in
set_option maxRecDepth 10000 in
theorem partial_any (g off cap n a b : Nat) (d : Array Int) (w : World) (hn : d.size = n) (hH : Holds (Value.int .u64) w g off d) (hg : g < w.heap.size) (hab : a < b) (hb : b ≤ n) (hsz : n < 2305843009213693952) :
    Calls Try.prog 39 #[.slice (some ⟨g, off, none⟩) n cap, .int .i64 a, .int .i64 b] w fun e w' =>
      e = .returned (.bool (partialInsertionSort ltInt d a b).2) ∧ Rw (Value.int .u64) w g off (partialInsertionSort ltInt d a b).1 w' := by
  go_enter Try.func39, Try.ntmps39
  go_wp2_with fail
  go_loopg [7, 8] 5 (fun k s7 s8 wr => ∃ (i s : Nat) (dk : Array Int), s7 = .int .i64 i ∧ s8 = .int .i64 s ∧ a < i ∧ i ≤ b ∧ s ≤ 5 ∧ 5 - s ≤ k ∧ dk.size = n ∧ Rw (Value.int .u64) w g off dk wr ∧ Hid (partialIns ltInt a b (5 - s) i dk = partialInsertionSort ltInt d a b))
  case atStart => exact ⟨a + 1, 0, d, by go_num, rfl, by omega, by omega, by omega, by omega, hn, Rw.refl hH, rfl⟩
  case round =>
    obtain ⟨i, s, dk, rfl, rfl, hai, hib, hs5', hk, hs, hR, HO⟩ := hrel
    by_cases hs5 : s < 5
    · have hs5i : (s : Int) < 5 := by omega
      obtain ⟨G, HG⟩ : ∃ G : Nat → Int, Hid (∀ t, G t = dk[t]!) := ⟨fun t => dk[t]!, fun _ => rfl⟩
      go_wp2_with fail
      go_loopg [7] (b - i) (fun k sx wr => ∃ x : Nat, sx = .int .i64 x ∧ i ≤ x ∧ x ≤ b ∧ b - x ≤ k ∧ Rw (Value.int .u64) w g off dk wr ∧ Hid (scanSorted ltInt dk b x = scanSorted ltInt dk b i))
      case atStart => exact ⟨i, rfl, Nat.le_refl _, by omega, Nat.le_refl _, hR, rfl⟩
      case round =>
        obtain ⟨x, rfl, hx1, hx2, hxk, hRx, HU⟩ := hrel
        obtain ⟨hc, hf⟩ := hRx.family hs
        simp only [← HG.out] at hc
        go_upto_region 5 with fail
        go_cut [32] (fun sT wx => sT = .bool (decide (x < b) && !ltInt (G x) (G (x - 1))) ∧ Rw (Value.int .u64) w g off dk wx)
        case first =>
          by_cases hle : x < b
          · have hlei : (x : Int) < b := by omega
            go_big_quiet (first | (go_at_call 40; refine Calls.quiet_of_same (less_any _ _ _)))
            go_wp2_with fail
            go_meet
            case rel => exact ⟨by simp [hle], hRx.drewN hg _⟩
          · have hlei : decide ((x : Int) < b) = false := decide_eq_false (by omega)
            go_big_quiet (first | (go_at_call 40; refine Calls.quiet_of_same (less_any _ _ _)))
            go_wp2_with fail
            go_meet
            case rel => exact ⟨by simp [hle], hRx.drewN hg _⟩
        case rest =>
          obtain ⟨rfl, hRc⟩ := hcut
          cases hT : (decide (x < b) && !ltInt (G x) (G (x - 1)))
          · have HX : Hid (scanSorted ltInt dk b i = x) := by
              show _ = _
              rw [← HU.out]; exact scanS_end (by rw [← HG.out, ← HG.out]; exact hT)
            have hRu := hRc
            clear hT HU hRx hRc hc hf
            by_cases hxb : x = b
            · have hxbi : (x : Int) = b := by omega
              have e := (pi_true HX.out hxb hs5).symm.trans HO.out
              go_wp2_with fail
              go_ret
              rw [← e]
              exact ⟨rfl, hRu⟩
            · have hxbi : ¬ (x : Int) = b := by omega
              by_cases h50 : b - a < 50
              · have h50i : (b : Int) - a < 50 := by omega
                have e := (pi_false HX.out hxb hs5 h50).symm.trans HO.out
                go_wp2_with fail
                go_ret
                rw [← e]
                exact ⟨rfl, hRu⟩
              · have h50i : 50 ≤ (b : Int) - a := by omega
                obtain ⟨hc, hf⟩ := hRu.family hs
                simp only [← HG.out] at hc
                have hxn : x < n := by omega
                have hs2 := fun q => (hRu.drewN hg q).swap (j := x) (k := x - 1) (by omega) (by omega)
                simp only [← HG.out] at hs2
                have HS : Hid _ := hs2
                clear hs2
                go_upto_region 11 with fail
                go_cut [] (fun wx => Rw (Value.int .u64) w g off (swp dk x (x - 1)) wx)
                case first =>
                  go_region
                  all_goals go_wp2_with fail
                  all_goals go_meet
                  case rel => exact HS.out 1
                case rest =>
                  have hRD1 := hcut
                  have hsD1 : (swp dk x (x - 1)).size = n := by rw [size_swp]; exact hs
                  obtain ⟨D1, hD1⟩ : ∃ D1, D1 = swp dk x (x - 1) := ⟨_, rfl⟩
                  rw [← hD1] at hRD1 hsD1
                  have HD1 : Hid (D1 = swp dk x (x - 1)) := hD1
                  clear hcut HS hc hf HG hD1
                  go_upto_if 61 with fail
                  go_cut [9] (fun s9 wx => (if x - a ≥ 2 then shiftDown ltInt (x - 1) D1 else D1).size = n ∧ Rw (Value.int .u64) w g off (if x - a ≥ 2 then shiftDown ltInt (x - 1) D1 else D1) wx)
                  case first =>
                    by_cases h2 : x - a ≥ 2
                    · have h2i : 2 ≤ (x : Int) - a := by omega
                      go_wp2_with fail
                      go_loopg [9] b (fun k sy wr => ∃ (y : Nat) (dj : Array Int), sy = .int .i64 y ∧ (y ≤ x - 1) ∧ y ≤ k ∧ dj.size = n ∧ Rw (Value.int .u64) w g off dj wr ∧ Hid (shiftDown ltInt y dj = shiftDown ltInt (x - 1) D1))
                      case atStart => exact ⟨x - 1, D1, by first | rfl | go_num | (congr 1; omega), by omega, by omega, hsD1, hRD1, rfl⟩
                      case round =>
                        obtain ⟨y, dj, rfl, hy1, hyk, hsj, hRj, HD⟩ := hrel
                        by_cases hyc : 1 ≤ y
                        · have hyci : (1 : Int) ≤ y := by omega
                          have hyn : y < n := by omega
                          obtain ⟨hc, hf⟩ := hRj.family hsj
                          obtain ⟨G, HG⟩ : ∃ G : Nat → Int, Hid (∀ t, G t = dj[t]!) := ⟨fun t => dj[t]!, fun _ => rfl⟩
                          simp only [← HG.out] at hc
                          have hs2 := fun q => (hRj.drewN hg q).swap (j := y) (k := y - 1) (by omega) (by omega)
                          simp only [← HG.out] at hs2
                          have HS : Hid _ := hs2
                          clear hs2
                          go_upto_region 16 with fail
                          go_big_quiet (first | (go_at_call 40; refine Calls.quiet_of_same (less_any _ _ _)))
                          cases hl : ltInt (G y) (G (y - 1))
                          · have e : Hid (dj = shiftDown ltInt (x - 1) D1) := by
                              show _ = _
                              rw [← HD.out]; exact (shiftD_stop (.inr (by rw [← HG.out, ← HG.out]; exact hl))).symm
                            have hRz := hRj.drewN hg nq
                            clear HS hc hf
                            go_wp2_with fail
                            go_meet
                            case rel => exact ⟨by rw [if_pos h2, ← e.out]; exact hsj, by rw [if_pos h2, ← e.out]; exact hRz⟩
                          · have HD2 : Hid (shiftDown ltInt (y - 1) (swp dj y (y - 1)) = shiftDown ltInt (x - 1) D1) := by
                              show _ = _
                              rw [← HD.out]; exact (shiftD_go (by omega) (by rw [← HG.out, ← HG.out]; exact hl)).symm
                            go_wp2_with fail
                            go_region
                            all_goals go_wp2
                            go_roundg (y - 1)
                            case rel => exact ⟨y - 1, swp dj y (y - 1), by go_num, by omega, Nat.le_refl _, by rw [size_swp]; exact hsj, HS.out _, HD2⟩
                            case measure => omega
                        · have hyci : (y : Int) < 1 := by omega
                          have e : Hid (dj = shiftDown ltInt (x - 1) D1) := by
                            show _ = _
                            rw [← HD.out]; exact (shiftD_stop (.inl (by omega))).symm
                          have hRz := hRj
                          go_wp2_with fail
                          go_meet
                          case rel => exact ⟨by rw [if_pos h2, ← e.out]; exact hsj, by rw [if_pos h2, ← e.out]; exact hRz⟩
                    · have h2i : (x : Int) - a < 2 := by omega
                      go_wp2_with fail
                      go_meet
                      case rel => exact ⟨by rw [if_neg h2]; exact hsD1, by rw [if_neg h2]; exact hRD1⟩
                  case rest =>
                    obtain ⟨hsD2, hRD2⟩ := hcut
                    obtain ⟨D2, hD2⟩ : ∃ D2, D2 = (if x - a ≥ 2 then shiftDown ltInt (x - 1) D1 else D1) := ⟨_, rfl⟩
                    rw [← hD2] at hRD2 hsD2
                    have HD2 : Hid (D2 = (if x - a ≥ 2 then shiftDown ltInt (x - 1) D1 else D1)) := hD2
                    clear hD2 hRD1
                    have HO2 : Hid (partialIns ltInt a b (5 - (s + 1)) x (if b - x ≥ 2 then shiftUp ltInt b (x + 1) D2 else D2) = partialInsertionSort ltInt d a b) := by
                      show _ = _
                      rw [HD2.out, HD1.out]
                      exact (pi_next HX.out hxb hs5 h50).symm.trans HO.out
                    by_cases h2 : b - x ≥ 2
                    · have h2i : 2 ≤ (b : Int) - x := by omega
                      go_wp2_with fail
                      go_loopg [10] b (fun k sy wr => ∃ (y : Nat) (dj : Array Int), sy = .int .i64 y ∧ (x + 1 ≤ y ∧ y ≤ b) ∧ b - y ≤ k ∧ dj.size = n ∧ Rw (Value.int .u64) w g off dj wr ∧ Hid (shiftUp ltInt b y dj = shiftUp ltInt b (x + 1) D2))
                      case atStart => exact ⟨x + 1, D2, by first | rfl | go_num | (congr 1; omega), by omega, by omega, hsD2, hRD2, rfl⟩
                      case round =>
                        obtain ⟨y, dj, rfl, hy1, hyk, hsj, hRj, HD⟩ := hrel
                        by_cases hyc : y < b
                        · have hyci : (y : Int) < b := by omega
                          have hyn : y < n := by omega
                          obtain ⟨hc, hf⟩ := hRj.family hsj
                          obtain ⟨G, HG⟩ : ∃ G : Nat → Int, Hid (∀ t, G t = dj[t]!) := ⟨fun t => dj[t]!, fun _ => rfl⟩
                          simp only [← HG.out] at hc
                          have hs2 := fun q => (hRj.drewN hg q).swap (j := y) (k := y - 1) (by omega) (by omega)
                          simp only [← HG.out] at hs2
                          have HS : Hid _ := hs2
                          clear hs2
                          go_upto_region 22 with fail
                          go_big_quiet (first | (go_at_call 40; refine Calls.quiet_of_same (less_any _ _ _)))
                          cases hl : ltInt (G y) (G (y - 1))
                          · have e : Hid (dj = shiftUp ltInt b (x + 1) D2) := by
                              show _ = _
                              rw [← HD.out]; exact (shiftU_stop (.inr (by rw [← HG.out, ← HG.out]; exact hl))).symm
                            have hRz := hRj.drewN hg nq
                            clear HS hc hf
                            have HO3 : Hid (partialIns ltInt a b (5 - (s + 1)) x dj = partialInsertionSort ltInt d a b) := by
                              have := HO2.out
                              rw [if_pos h2, ← e.out] at this
                              exact this
                            go_wp2_with fail
                            go_roundg (5 - (s + 1))
                            case rel => exact ⟨x, s + 1, dj, rfl, by go_num, by omega, by omega, by omega, by omega, hsj, hRz, HO3⟩
                            case measure => omega
                          · have HD2 : Hid (shiftUp ltInt b (y + 1) (swp dj y (y - 1)) = shiftUp ltInt b (x + 1) D2) := by
                              show _ = _
                              rw [← HD.out]; exact (shiftU_go (by omega) (by rw [← HG.out, ← HG.out]; exact hl)).symm
                            go_wp2_with fail
                            go_region
                            all_goals go_wp2
                            go_roundg (b - (y + 1))
                            case rel => exact ⟨y + 1, swp dj y (y - 1), by go_num, by omega, Nat.le_refl _, by rw [size_swp]; exact hsj, HS.out _, HD2⟩
                            case measure => omega
                        · have hyci : (b : Int) ≤ y := by omega
                          have e : Hid (dj = shiftUp ltInt b (x + 1) D2) := by
                            show _ = _
                            rw [← HD.out]; exact (shiftU_stop (.inl (by omega))).symm
                          have hRz := hRj
                          have HO3 : Hid (partialIns ltInt a b (5 - (s + 1)) x dj = partialInsertionSort ltInt d a b) := by
                            have := HO2.out
                            rw [if_pos h2, ← e.out] at this
                            exact this
                          go_wp2_with fail
                          go_roundg (5 - (s + 1))
                          case rel => exact ⟨x, s + 1, dj, rfl, by go_num, by omega, by omega, by omega, by omega, hsj, hRz, HO3⟩
                          case measure => omega
                    · have h2i : (b : Int) - x < 2 := by omega
                      have HO3 : Hid (partialIns ltInt a b (5 - (s + 1)) x D2 = partialInsertionSort ltInt d a b) := by
                        have := HO2.out
                        rw [if_neg h2] at this
                        exact this
                      go_wp2_with fail
                      go_roundg (5 - (s + 1))
                      case rel => exact ⟨x, s + 1, D2, rfl, by go_num, by omega, by omega, by omega, by omega, hsD2, hRD2, HO3⟩
                      case measure => omega
          · have hxb : x < b := by
              have h1 := hT
              simp at h1; exact h1.1
            have HU2 : Hid (scanSorted ltInt dk b (x + 1) = scanSorted ltInt dk b i) := by
              show _ = _
              rw [← HU.out]; exact (scanS_go (by rw [← HG.out, ← HG.out]; exact hT)).symm
            clear hT
            go_wp2_with fail
            go_roundg (b - (x + 1))
            case rel => exact ⟨x + 1, by go_num, by omega, by omega, Nat.le_refl _, hRc, HU2⟩
            case measure => omega
    · have hs5i : ¬ (s : Int) < 5 := by omega
      obtain rfl : s = 5 := by omega
      have e := HO.out
      rw [show 5 - 5 = 0 from rfl, partialIns] at e
      go_wp2_with fail
      go_ret
      rw [← e]
      exact ⟨rfl, hR⟩
end Go.Proofs.Ytjjojbmpjkcmaaa
