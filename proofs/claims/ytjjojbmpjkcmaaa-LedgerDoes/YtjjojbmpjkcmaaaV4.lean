/-
  Sorting by a heap. No conditions but the row's.
-/
import Derived.Test.YtjjojbmpjkcmaaaV3
namespace Go.Proofs.Ytjjojbmpjkcmaaa
open Go.RowKit Go.Sort
set_option linter.unusedVariables false
theorem sift_at (g off cap n lo hi F : Nat) (d : Array Int) (w : World) (l h f : Int) (el : l = lo) (eh : h = hi) (ef : f = F) (hn : d.size = n) (hH : Holds (Value.int .u64) w g off d) (hg : g < w.heap.size) (hlo : lo ≤ hi) (hb : F + hi ≤ n) (hsz : n < 2305843009213693952) :
    Calls Try.prog 45 #[.slice (some ⟨g, off, none⟩) n cap, .int .i64 l, .int .i64 h, .int .i64 f] w fun e w' =>
      e = .returned (.tuple #[]) ∧ Rw (Value.int .u64) w g off (siftDown ltInt hi F lo d) w' ∧ (siftDown ltInt hi F lo d).size = n := by
  subst el eh ef
  exact sift_any g off cap n lo hi F d w hn hH hg hlo hb hsz
theorem half_of {a b i : Nat} (h : a < b) (hi : b = a + i) : ((b - a - 1 : Nat) : Int) / 2 = (((i - 1) / 2 + 1 : Nat) : Int) - 1 := by
  subst hi
  omega
set_option maxHeartbeats 1000000 in
theorem heap_any (g off cap n a b : Nat) (d : Array Int) (w : World) (hn : d.size = n) (hH : Holds (Value.int .u64) w g off d) (hg : g < w.heap.size) (hab : a < b) (hb : b ≤ n) (hsz : n < 2305843009213693952) :
    Calls Try.prog 35 #[.slice (some ⟨g, off, none⟩) n cap, .int .i64 a, .int .i64 b] w fun e w' =>
      e = .returned (.tuple #[]) ∧ Rw (Value.int .u64) w g off (heapSort ltInt d a b) w' := by
  go_enter Try.func35, Try.ntmps35
  obtain ⟨hi, hhi⟩ : ∃ hi, b = a + hi := ⟨b - a, by omega⟩
  have HB : Hid (b = a + hi) := hhi
  have hh := half_of hab hhi
  have HH : Hid (((b - a - 1 : Nat) : Int) / 2 = (((hi - 1) / 2 + 1 : Nat) : Int) - 1) := hh
  have hin : hi ≤ n := by omega
  clear hh hhi
  go_wp2
  go_loopw [9] (fun vi wr => ∃ (i : Int) (k : Nat) (dk : Array Int), vi = .int .i64 i ∧ i + 1 = k ∧ k ≤ hi ∧ dk.size = n ∧ Rw (Value.int .u64) w g off dk wr ∧ Hid (heapBuild ltInt hi a k dk = heapBuild ltInt hi a ((hi - 1) / 2 + 1) d)) (fun vi _ => (intOf vi + 1).toNat)
  case atStart => exact ⟨_, (hi - 1) / 2 + 1, d, rfl, by have := HB.out; have := HH.out; omega, by have := HB.out; omega, hn, Rw.refl hH, rfl⟩
  case round =>
    obtain ⟨i, k, dk, rfl, hik, hk, hsk, hA, HO⟩ := hrel
    have hHk := hA.holds
    have hgk := hA.lt hg
    cases k with
    | zero =>
      go_wp2
      go_loopw [10] (fun vi wr => ∃ (i : Int) (k : Nat) (dk : Array Int), vi = .int .i64 i ∧ i + 1 = k ∧ k ≤ hi ∧ dk.size = n ∧ Rw (Value.int .u64) w g off dk wr ∧ Hid (heapPop ltInt a k dk = heapSort ltInt d a b)) (fun vi _ => (intOf vi + 1).toNat)
      case atStart => exact ⟨_, hi, dk, rfl, by have := HB.out; omega, Nat.le_refl _, hsk, hA, by
        show _ = _
        unfold heapSort
        rw [show b - a = hi by have := HB.out; omega, ← HO.out, heapBuild]⟩
      case round =>
        clear hHk hgk hA HO hsk hk hik
        obtain ⟨j, k, dk, rfl, hik, hk, hsk, hA, HO⟩ := hrel
        cases k with
        | zero =>
          go_wp2
          go_end0
          exact ⟨rfl, by rw [← HO.out, heapPop]; exact hA⟩
        | succ k =>
          obtain rfl : j = (k : Int) := by omega
          obtain ⟨hc, hf⟩ := hA.family hsk
          obtain ⟨G, HG⟩ : ∃ G : Nat → Int, Hid (∀ t, G t = dk[t]!) := ⟨fun t => dk[t]!, fun _ => rfl⟩
          simp only [← HG.out] at hc
          have hs := fun q => (hA.drewN hg q).swap (j := a) (k := a + k) (by have := HB.out; omega) (by have := HB.out; omega)
          simp only [← HG.out] at hs
          have HS : Hid _ := hs
          clear hs
          obtain ⟨vy, hy⟩ := cell?_setCell_some (w := wr) (p := ⟨g, off + a, none⟩) (x := .int .u64 (G (a + k))) (hc (a + k) (by have := HB.out; omega))
          have hak : (a : Int) + k < n := by have := HB.out; omega
          have hak' : a + k < n := by omega
          go_wp2
          go_region
          all_goals
            have hA2 := HS.out 1
            have hH2 := hA2.holds
            have hg2 := hA2.lt hg
            clear hc hf hy
            go_wp2_with (go_at_call 45; refine (sift_at g off cap n 0 k a (swp dk a (a + k)) _ _ _ _ rfl rfl rfl (by rw [size_swp]; exact hsk) hH2 hg2 (by omega) (by omega) hsz).mono ?_; rintro e w1 ⟨rfl, hA1, hs1⟩)
            go_roundw
            case rel => exact ⟨_, k, _, rfl, by omega, by omega, hs1, hA2.trans (by rw [hs1, size_swp, hsk]) hA1, by show _ = _; rw [← HO.out, heapPop]⟩
            case measure => first | (simp [intOf]; done) | (simp [intOf]; omega)
    | succ k =>
      go_wp2_with (go_at_call 45; refine (sift_at g off cap n k hi a dk _ _ _ _ (by omega) (by have := HB.out; omega) rfl hsk hHk hgk (by omega) (by have := HB.out; omega) hsz).mono ?_; rintro e w1 ⟨rfl, hA1, hs1⟩)
      go_roundw
      case rel =>
       exact ⟨_, k, siftDown ltInt hi a k dk, rfl, by omega, by omega, hs1, hA.trans (by rw [hs1, hsk]) hA1, by show _ = _; rw [← HO.out, heapBuild]⟩
      case measure => simp [intOf]; omega
end Go.Proofs.Ytjjojbmpjkcmaaa
