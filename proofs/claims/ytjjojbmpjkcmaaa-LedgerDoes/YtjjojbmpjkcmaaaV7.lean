/-
  Parting a row of numbers by one of them. No conditions but the row's.
-/
import Derived.Test.YtjjojbmpjkcmaaaV1
namespace Go.Proofs.Ytjjojbmpjkcmaaa
open Go.RowKit Go.Sort
set_option linter.unusedVariables false
section
variable {α : Type} [Inhabited α] {lt : α → α → Bool}
theorem scanU_go {p : α → Bool} {d : Array α} {j i : Nat} (h : (decide (i ≤ j) && p d[i]!) = true) : scanUp p d j i = scanUp p d j (i + 1) := by
  rw [scanUp, if_pos (by simpa using h)]
theorem scanU_end {p : α → Bool} {d : Array α} {j i : Nat} (h : (decide (i ≤ j) && p d[i]!) = false) : scanUp p d j i = i := by
  rw [scanUp, if_neg (by rw [h]; simp)]
theorem scanD_go {p : α → Bool} {d : Array α} {j i : Nat} (h1 : 1 ≤ i) (h : (decide (i ≤ j) && p d[j]!) = true) : scanDown p d i j = scanDown p d i (j - 1) := by
  cases j with
  | zero => simp at h; omega
  | succ j => rw [scanDown, if_pos (by simpa using h)]; rfl
theorem scanD_end {p : α → Bool} {d : Array α} {j i : Nat} (h1 : 1 ≤ i) (h : (decide (i ≤ j) && p d[j]!) = false) : scanDown p d i j = j := by
  cases j with
  | zero => rw [scanDown]
  | succ j => rw [scanDown, if_neg (by rw [h]; simp)]
theorem partE_break {a i j x y : Nat} {d : Array α} (hx : scanUp (fun z => !lt d[a]! z) d j i = x) (hy : scanDown (fun z => lt d[a]! z) d x j = y) (h : y < x) : partEqLoop lt a i j d = (x, d) := by
  rw [partEqLoop]; simp only [hx, hy]; rw [if_pos h]
theorem partE_go {a i j x y : Nat} {d : Array α} (hx : scanUp (fun z => !lt d[a]! z) d j i = x) (hy : scanDown (fun z => lt d[a]! z) d x j = y) (h : x ≤ y) (hi : i ≤ x) (hj : y ≤ j) (h1 : 1 ≤ x) : partEqLoop lt a i j d = partEqLoop lt a (x + 1) (y - 1) (swp d x y) := by
  rw [partEqLoop]; simp only [hx, hy]; rw [if_neg (by omega), dif_pos (by omega)]
theorem part_break {a i j x y : Nat} {d : Array α} (hx : scanUp (fun z => lt z d[a]!) d j i = x) (hy : scanDown (fun z => !lt z d[a]!) d x j = y) (h : y < x) : partLoop lt a i j d = (y, d) := by
  rw [partLoop]; simp only [hx, hy]; rw [if_pos h]
theorem part_go {a i j x y : Nat} {d : Array α} (hx : scanUp (fun z => lt z d[a]!) d j i = x) (hy : scanDown (fun z => !lt z d[a]!) d x j = y) (h : x ≤ y) (hi : i ≤ x) (hj : y ≤ j) (h1 : 1 ≤ x) : partLoop lt a i j d = partLoop lt a (x + 1) (y - 1) (swp d x y) := by
  rw [partLoop]; simp only [hx, hy]; rw [if_neg (by omega), dif_pos (by omega)]
theorem part_first {a b v x y : Nat} {d : Array α} (hx : scanUp (fun z => lt z (swp d a v)[a]!) (swp d a v) (b - 1) (a + 1) = x) (hy : scanDown (fun z => !lt z (swp d a v)[a]!) (swp d a v) x (b - 1) = y) (h : y < x) : partition lt d a b v = (y, true, swp (swp d a v) y a) := by
  unfold partition; simp only [hx, hy]; rw [if_pos h]
theorem part_then {a b v x y : Nat} {d : Array α} (hx : scanUp (fun z => lt z (swp d a v)[a]!) (swp d a v) (b - 1) (a + 1) = x) (hy : scanDown (fun z => !lt z (swp d a v)[a]!) (swp d a v) x (b - 1) = y) (h : x ≤ y) {m : Nat} {D : Array α} (hr : partLoop lt a (x + 1) (y - 1) (swp (swp d a v) x y) = (m, D)) : partition lt d a b v = (m, false, swp D m a) := by
  unfold partition; simp only [hx, hy]; rw [if_neg (by omega), hr]
end
set_option maxHeartbeats 4000000 in
theorem partEq_any (g off cap n a b v : Nat) (d : Array Int) (w : World) (hn : d.size = n) (hH : Holds (Value.int .u64) w g off d) (hg : g < w.heap.size) (hav : a ≤ v) (hvb : v < b) (hb : b ≤ n) (hsz : n < 2305843009213693952) :
    Calls Try.prog 41 #[.slice (some ⟨g, off, none⟩) n cap, .int .i64 a, .int .i64 b, .int .i64 v] w fun e w' =>
      e = .returned (.int .i64 (partitionEqual ltInt d a b v).1) ∧ Rw (Value.int .u64) w g off (partitionEqual ltInt d a b v).2 w' := by
  go_enter Try.func41, Try.ntmps41
  have hR0 := Rw.refl hH
  obtain ⟨hc, hf⟩ := hR0.family hn
  obtain ⟨G, HG⟩ : ∃ G : Nat → Int, Hid (∀ t, G t = d[t]!) := ⟨fun t => d[t]!, fun _ => rfl⟩
  simp only [← HG.out] at hc
  have hs2 := fun q => (hR0.drewN hg q).swap (j := a) (k := v) (by omega) (by omega)
  simp only [← HG.out] at hs2
  have HS : Hid _ := hs2
  clear hs2
  have han : a < n := by omega
  have hvn : v < n := by omega
  obtain ⟨vy, hy⟩ := cell?_setCell_some (w := w) (p := ⟨g, off + a, none⟩) (x := .int .u64 (G v)) (hc v (by omega))
  go_upto_region 1 with fail
  go_cut [] (fun wx => Rw (Value.int .u64) w g off (swp d a v) wx)
  case first =>
    go_region
    all_goals go_wp2_with fail
    all_goals go_meet
    case rel => exact HS.out 1
  case rest =>
   have hR1 := hcut
   clear hcut HS hc hf hy HG hR0 G
   go_wp2_with fail
   go_loopg [9, 10] (b - a) (fun k s9 s10 wr => ∃ (i j : Nat) (dk : Array Int), s9 = .int .i64 i ∧ s10 = .int .i64 j ∧ a < i ∧ i ≤ j + 1 ∧ j < b ∧ j + 1 - i ≤ k ∧ dk.size = n ∧ Rw (Value.int .u64) w g off dk wr ∧ Hid (partEqLoop ltInt a i j dk = partitionEqual ltInt d a b v))
   case atStart => exact ⟨a + 1, b - 1, swp d a v, by go_num, by go_num, by omega, by omega, by omega, by omega, by rw [size_swp]; exact hn, hR1, rfl⟩
   case round =>
    obtain ⟨i, j, dk, rfl, rfl, hai, hij, hjb, hk, hs, hR, HO⟩ := hrel
    clear hR1
    obtain ⟨G, HG⟩ : ∃ G : Nat → Int, Hid (∀ t, G t = dk[t]!) := ⟨fun t => dk[t]!, fun _ => rfl⟩
    go_wp2_with fail
    go_loopg [9] (j + 1 - i) (fun k sx wr => ∃ x : Nat, sx = .int .i64 x ∧ i ≤ x ∧ x ≤ j + 1 ∧ j + 1 - x ≤ k ∧ Rw (Value.int .u64) w g off dk wr ∧ Hid (scanUp (fun z => !ltInt dk[a]! z) dk j x = scanUp (fun z => !ltInt dk[a]! z) dk j i))
    case atStart => exact ⟨i, by first | rfl | go_num | (congr 1; omega), Nat.le_refl _, by omega, Nat.le_refl _, hR, rfl⟩
    case round =>
      obtain ⟨x, rfl, hx1, hx2, hxk, hRx, HU⟩ := hrel
      obtain ⟨hc, hf⟩ := hRx.family hs
      simp only [← HG.out] at hc
      go_upto_region 3 with fail
      go_cut [43] (fun sT wx => sT = .bool (decide (x ≤ j) && !ltInt (G a) (G x)) ∧ Rw (Value.int .u64) w g off dk wx)
      case first =>
        by_cases hle : x ≤ j
        · have hlei : (x : Int) ≤ j := by omega
          go_big_quiet (first | (go_at_call 40; refine Calls.quiet_of_same (less_any _ _ _)))
          go_wp2_with fail
          go_meet
          case rel => exact ⟨by simp [hle], hRx.drewN hg _⟩
        · have hlei : decide ((x : Int) ≤ j) = false := decide_eq_false (by omega)
          go_big_quiet (first | (go_at_call 40; refine Calls.quiet_of_same (less_any _ _ _)))
          go_wp2_with fail
          go_meet
          case rel => exact ⟨by simp [hle], hRx.drewN hg _⟩
      case rest =>
        obtain ⟨rfl, hRc⟩ := hcut
        cases hT : (decide (x ≤ j) && !ltInt (G a) (G x))
        · have hxe := hT
          have HX : Hid (scanUp (fun z => !ltInt dk[a]! z) dk j i = x) := by
            show _ = _
            rw [← HU.out]; exact scanU_end (by rw [← HG.out, ← HG.out]; exact hT)
          have hRu := hRc
          clear hT HU hRx hRc hc hf
          go_wp2_with fail
          go_loopg [10] j (fun k sy wr => ∃ y : Nat, sy = .int .i64 y ∧ y ≤ j ∧ x ≤ y + 1 ∧ y ≤ k ∧ Rw (Value.int .u64) w g off dk wr ∧ Hid (scanDown (fun z => ltInt dk[a]! z) dk x y = scanDown (fun z => ltInt dk[a]! z) dk x j))
          case atStart => exact ⟨j, by first | rfl | go_num | (congr 1; omega), Nat.le_refl _, hx2, Nat.le_refl _, hRu, rfl⟩
          case round =>
            obtain ⟨y, rfl, hy1, hy2, hyk, hRy, HD⟩ := hrel
            obtain ⟨hc, hf⟩ := hRy.family hs
            simp only [← HG.out] at hc
            go_upto_region 5 with fail
            go_cut [59] (fun sT wx => sT = .bool (decide (x ≤ y) && ltInt (G a) (G y)) ∧ Rw (Value.int .u64) w g off dk wx)
            case first =>
              by_cases hle : x ≤ y
              · have hlei : (x : Int) ≤ y := by omega
                go_big_quiet (first | (go_at_call 40; refine Calls.quiet_of_same (less_any _ _ _)))
                go_wp2_with fail
                go_meet
                case rel => exact ⟨by simp [hle], hRy.drewN hg _⟩
              · have hlei : decide ((x : Int) ≤ y) = false := decide_eq_false (by omega)
                go_big_quiet (first | (go_at_call 40; refine Calls.quiet_of_same (less_any _ _ _)))
                go_wp2_with fail
                go_meet
                case rel => exact ⟨by simp [hle], hRy.drewN hg _⟩
            case rest =>
              obtain ⟨rfl, hRc⟩ := hcut
              cases hT : (decide (x ≤ y) && ltInt (G a) (G y))
              · have hye := hT
                have HY : Hid (scanDown (fun z => ltInt dk[a]! z) dk x j = y) := by
                  show _ = _
                  rw [← HD.out]; exact scanD_end (by omega) (by rw [← HG.out, ← HG.out]; exact hT)
                have hRd := hRc
                clear hT HD hRy hRc hc hf
                by_cases hxy : y < x
                · have hxyi : (y : Int) < x := by omega
                  go_wp2_with fail
                  have e := (partE_break HX.out HY.out hxy).symm.trans HO.out
                  go_ret
                  rw [← e]
                  exact ⟨rfl, hRd⟩
                · have hxyi : (x : Int) ≤ y := by omega
                  have hne : x < y := by
                    rcases Nat.lt_or_ge x y with h | h
                    · exact h
                    · exfalso
                      have e : x = y := by omega
                      subst e
                      rw [decide_eq_true (by omega : x ≤ j)] at hxe
                      rw [decide_eq_true (by omega : x ≤ x)] at hye
                      simp at hxe hye
                      rw [hxe] at hye; cases hye
                  obtain ⟨hc, hf⟩ := hRd.family hs
                  simp only [← HG.out] at hc
                  have hs2 := fun q => (hRd.drewN hg q).swap (j := x) (k := y) (by omega) (by omega)
                  simp only [← HG.out] at hs2
                  have HS : Hid _ := hs2
                  clear hs2
                  have HO2 : Hid (partEqLoop ltInt a (x + 1) (y - 1) (swp dk x y) = partitionEqual ltInt d a b v) := (partE_go HX.out HY.out (by omega) hx1 hy1 (by omega)).symm.trans HO.out
                  go_wp2_with fail
                  go_region
                  all_goals go_wp2
                  go_roundg (y - 1 + 1 - (x + 1))
                  case rel => exact ⟨x + 1, y - 1, swp dk x y, by go_num, by go_num, by omega, by omega, by omega, Nat.le_refl _, by rw [size_swp]; exact hs, HS.out 1, HO2⟩
                  case measure => omega
              · have hyx : x ≤ y := by
                  have h1 := hT
                  simp at h1; exact h1.1
                have HD2 : Hid (scanDown (fun z => ltInt dk[a]! z) dk x (y - 1) = scanDown (fun z => ltInt dk[a]! z) dk x j) := by
                  show _ = _
                  rw [← HD.out]; exact (scanD_go (by omega) (by rw [← HG.out, ← HG.out]; exact hT)).symm
                clear hT
                go_wp2_with fail
                go_roundg (y - 1)
                case rel => exact ⟨y - 1, by go_num, by omega, by omega, Nat.le_refl _, hRc, HD2⟩
                case measure => omega
        · have hxj : x ≤ j := by
            have h1 := hT
            simp at h1; exact h1.1
          have HU2 : Hid (scanUp (fun z => !ltInt dk[a]! z) dk j (x + 1) = scanUp (fun z => !ltInt dk[a]! z) dk j i) := by
            show _ = _
            rw [← HU.out]; exact (scanU_go (by rw [← HG.out, ← HG.out]; exact hT)).symm
          clear hT
          go_wp2_with fail
          go_roundg (j + 1 - (x + 1))
          case rel => exact ⟨x + 1, by go_num, by omega, by omega, Nat.le_refl _, hRc, HU2⟩
          case measure => omega
end Go.Proofs.Ytjjojbmpjkcmaaa
