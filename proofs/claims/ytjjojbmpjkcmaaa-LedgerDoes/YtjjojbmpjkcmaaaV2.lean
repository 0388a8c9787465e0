/-
  Sorting a few numbers by insertion. No conditions but the row's.
-/
import Derived.Test.YtjjojbmpjkcmaaaV1
namespace Go.Proofs.Ytjjojbmpjkcmaaa
open Go.RowKit Go.Sort
set_option linter.unusedVariables false
set_option maxHeartbeats 2000000 in
theorem insertion_any (g off cap n a b : Nat) (d : Array Int) (w : World) (hn : d.size = n) (hH : Holds (Value.int .u64) w g off d) (hg : g < w.heap.size) (hab : a ≤ b) (hb : b ≤ n) (hsz : n < 4611686018427387904) :
    Calls Try.prog 34 #[.slice (some ⟨g, off, none⟩) n cap, .int .i64 a, .int .i64 b] w fun e w' =>
      e = .returned (.tuple #[]) ∧ Rw (Value.int .u64) w g off (insertionSort ltInt d a b) w' := by
  go_enter Try.func34, Try.ntmps34
  go_wp2
  go_loopw [6] (fun vi wr => ∃ (i : Nat) (dk : Array Int), vi = .int .i64 i ∧ a < i ∧ i ≤ b + 1 ∧ dk.size = n ∧ Rw (Value.int .u64) w g off dk wr ∧ Hid (insOuter ltInt a b i dk = insertionSort ltInt d a b)) (fun vi _ => b + 1 - (intOf vi).toNat)
  case atStart => exact ⟨a + 1, d, by go_num, by omega, by omega, hn, Rw.refl hH, rfl⟩
  case round =>
    obtain ⟨i, dk, rfl, hai, hib, hsk, hA, HO⟩ := hrel
    by_cases hlt : i < b
    · go_wp2
      go_loopw [7] (fun vj wr2 => ∃ (j : Nat) (dj : Array Int), vj = .int .i64 j ∧ a ≤ j ∧ j ≤ i ∧ dj.size = n ∧ Rw (Value.int .u64) w g off dj wr2 ∧ Hid (insInner ltInt a j dj = insInner ltInt a i dk)) (fun vj _ => (intOf vj).toNat)
      case atStart => exact ⟨i, dk, rfl, by omega, Nat.le_refl _, hsk, hA, rfl⟩
      case round =>
        obtain ⟨j, dj, rfl, haj, hji, hsj, hA2, HI⟩ := hrel
        obtain ⟨hc, hf⟩ := hA2.family hsj
        obtain ⟨G, HG⟩ : ∃ G : Nat → Int, Hid (∀ t, G t = dj[t]!) := ⟨fun t => dj[t]!, fun _ => rfl⟩
        simp only [← HG.out] at hc
        have out : (j ≤ a ∨ ltInt dj[j]! dj[j - 1]! = false) → insOuter ltInt a b (i + 1) dj = insertionSort ltInt d a b := fun hs => by
          rw [← HO.out, outer_go hlt, ← HI.out, ins_stop hs]
        have OUT : Hid _ := out
        clear out hA
        by_cases hja : a < j
        · go_wp2_with fail
          go_quiet (first | (go_at_call 40; refine Calls.quiet_of_same (less_any _ _ _)))
          go_wp2
          · have hl : ltInt (G j) (G (j - 1)) = true := by assumption
            have hs := fun q => (hA2.drewN hg q).swap (j := j) (k := j - 1) (by omega) (by omega)
            simp only [← HG.out] at hs
            have HS : Hid _ := hs
            clear hs
            go_region
            all_goals go_wp2
            go_roundw
            case rel => exact ⟨j - 1, swp dj j (j - 1), by congr 1; omega, by omega, by omega, by rw [size_swp]; exact hsj, HS.out _, by
              show _ = _
              rw [← HI.out, ins_go hja (by rw [← HG.out, ← HG.out]; exact hl)]⟩
            case measure => simp [intOf]; omega
          · have hl : ltInt (G j) (G (j - 1)) = false := by assumption
            go_roundw
            case rel => exact ⟨i + 1, dj, by go_num, by omega, by omega, hsj, hA2.drewN hg _, OUT.out (Or.inr (by rw [← HG.out, ← HG.out]; exact hl))⟩
            case measure => simp [intOf]; omega
        · go_wp2_with fail
          go_quiet (first | (go_at_call 40; refine Calls.quiet_of_same (less_any _ _ _)))
          go_wp2
          go_roundw
          case rel => exact ⟨i + 1, dj, by go_num, by omega, by omega, hsj, hA2.drewN hg _, OUT.out (Or.inl (by omega))⟩
          case measure => simp [intOf]; omega
    · go_wp2
      go_end0
      exact ⟨rfl, by rw [← HO.out, outer_stop hlt]; exact hA⟩
end Go.Proofs.Ytjjojbmpjkcmaaa
