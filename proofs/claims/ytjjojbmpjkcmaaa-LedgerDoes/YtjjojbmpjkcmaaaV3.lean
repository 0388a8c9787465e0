/-
  A heap: one number goes down to its place; a row turned round; sorting by a heap. No conditions but the row's.
-/
import Derived.Test.YtjjojbmpjkcmaaaV1
namespace Go.Proofs.Ytjjojbmpjkcmaaa
open Go.RowKit Go.Sort
set_option linter.unusedVariables false
section
variable {α : Type} [Inhabited α] {lt : α → α → Bool}
/-- The greater one of the two below r. -/
def kid (lt : α → α → Bool) (hi F r : Nat) (d : Array α) : Nat := if (decide (2 * r + 2 < hi) && lt d[F + (2 * r + 1)]! d[F + (2 * r + 2)]!) = true then 2 * r + 2 else 2 * r + 1
theorem sift_end {hi F r : Nat} {d : Array α} (h : hi ≤ 2 * r + 1) : siftDown lt hi F r d = d := by rw [siftDown, dif_pos h]
theorem kid_le {hi F r : Nat} {d : Array α} (h : 2 * r + 1 < hi) : 2 * r + 1 ≤ kid lt hi F r d ∧ kid lt hi F r d < hi := by
  unfold kid
  split
  · rename_i h1; simp at h1; omega
  · omega
theorem sift_stop {hi F r : Nat} {d : Array α} (h : 2 * r + 1 < hi) (h3 : lt d[F + r]! d[F + kid lt hi F r d]! = false) : siftDown lt hi F r d = d := by
  unfold kid at h3
  rw [siftDown, dif_neg (by omega), show F + (2 * r + 1) + 1 = F + (2 * r + 2) by omega]
  simp only [show 2 * r + 1 + 1 = 2 * r + 2 from rfl]
  split <;> rename_i h1 <;> simp only [h1, if_true, if_false, Bool.false_eq_true] at h3 <;> simp [h3]
theorem sift_go {hi F r : Nat} {d : Array α} (h : 2 * r + 1 < hi) (h3 : lt d[F + r]! d[F + kid lt hi F r d]! = true) : siftDown lt hi F r d = siftDown lt hi F (kid lt hi F r d) (swp d (F + r) (F + kid lt hi F r d)) := by
  unfold kid at h3 ⊢
  rw [siftDown, dif_neg (by omega), show F + (2 * r + 1) + 1 = F + (2 * r + 2) by omega]
  simp only [show 2 * r + 1 + 1 = 2 * r + 2 from rfl]
  split <;> rename_i h1 <;> simp only [h1, if_true, if_false, Bool.false_eq_true] at h3 ⊢ <;> simp [h3]
  simp at h1; omega
theorem rev_go {i j : Nat} {d : Array α} (h : i < j) : reverseLoop i j d = reverseLoop (i + 1) (j - 1) (swp d i j) := by rw [reverseLoop, if_pos h]
theorem rev_end {i j : Nat} {d : Array α} (h : ¬ i < j) : reverseLoop i j d = d := by rw [reverseLoop, if_neg h]
end
set_option maxHeartbeats 2000000 in
theorem reverse_any (g off cap n a b : Nat) (d : Array Int) (w : World) (hn : d.size = n) (hH : Holds (Value.int .u64) w g off d) (hg : g < w.heap.size) (hab : a < b) (hb : b ≤ n) (hsz : n < 4611686018427387904) :
    Calls Try.prog 38 #[.slice (some ⟨g, off, none⟩) n cap, .int .i64 a, .int .i64 b] w fun e w' =>
      e = .returned (.tuple #[]) ∧ Rw (Value.int .u64) w g off (reverseRange d a b) w' ∧ (reverseRange d a b).size = n := by
  go_enter Try.func38, Try.ntmps38
  go_wp2
  go_loopw [6, 7] (fun vi vj wr => ∃ (i j : Nat) (dk : Array Int), vi = .int .i64 i ∧ vj = .int .i64 j ∧ j < n ∧ i ≤ j + 1 ∧ dk.size = n ∧ Rw (Value.int .u64) w g off dk wr ∧ Hid (reverseLoop i j dk = reverseRange d a b)) (fun vi vj _ => (intOf vj).toNat + 1 - (intOf vi).toNat)
  case atStart => exact ⟨a, b - 1, d, rfl, by congr 1; omega, by omega, by omega, hn, Rw.refl hH, rfl⟩
  case round =>
    obtain ⟨i, j, dk, rfl, rfl, hj, hij, hsk, hA, HO⟩ := hrel
    obtain ⟨hc, hf⟩ := hA.family hsk
    obtain ⟨G, HG⟩ : ∃ G : Nat → Int, Hid (∀ t, G t = dk[t]!) := ⟨fun t => dk[t]!, fun _ => rfl⟩
    simp only [← HG.out] at hc
    by_cases hlt : i < j
    · have hs := fun q => (hA.drewN hg q).swap (j := i) (k := j) (by omega) (by omega)
      simp only [← HG.out] at hs
      have HS : Hid _ := hs
      clear hs
      go_wp2
      go_region
      all_goals go_wp2
      go_roundw
      case rel => exact ⟨i + 1, j - 1, swp dk i j, by go_num, by go_num, by omega, by omega, by rw [size_swp]; exact hsk, HS.out _, by show _ = _; rw [← HO.out, rev_go hlt]⟩
      case measure => simp [intOf]; omega
    · go_wp2
      go_end0
      exact ⟨rfl, by rw [← HO.out, rev_end hlt]; exact ⟨hA, hsk⟩⟩
set_option maxHeartbeats 4000000 in
theorem sift_any (g off cap n lo hi F : Nat) (d : Array Int) (w : World) (hn : d.size = n) (hH : Holds (Value.int .u64) w g off d) (hg : g < w.heap.size) (hlo : lo ≤ hi) (hb : F + hi ≤ n) (hsz : n < 2305843009213693952) :
    Calls Try.prog 45 #[.slice (some ⟨g, off, none⟩) n cap, .int .i64 lo, .int .i64 hi, .int .i64 F] w fun e w' =>
      e = .returned (.tuple #[]) ∧ Rw (Value.int .u64) w g off (siftDown ltInt hi F lo d) w' ∧ (siftDown ltInt hi F lo d).size = n := by
  go_enter Try.func45, Try.ntmps45
  go_wp2
  go_loopg [8] hi (fun k vr wr => ∃ (r : Nat) (dk : Array Int), vr = .int .i64 r ∧ r ≤ hi ∧ hi - r ≤ k ∧ dk.size = n ∧ Rw (Value.int .u64) w g off dk wr ∧ Hid (siftDown ltInt hi F r dk = siftDown ltInt hi F lo d))
  case atStart => exact ⟨lo, d, rfl, hlo, by omega, hn, Rw.refl hH, rfl⟩
  case round =>
    obtain ⟨r, dk, rfl, hr, hk, hsk, hA, HO⟩ := hrel
    obtain ⟨hc, hf⟩ := hA.family hsk
    obtain ⟨G, HG⟩ : ∃ G : Nat → Int, Hid (∀ t, G t = dk[t]!) := ⟨fun t => dk[t]!, fun _ => rfl⟩
    simp only [← HG.out] at hc
    by_cases h0 : hi ≤ 2 * r + 1
    · go_wp2
      go_end0
      exact ⟨rfl, by rw [← HO.out, sift_end h0]; exact ⟨hA, hsk⟩⟩
    · have hkid := kid_le (lt := ltInt) (F := F) (d := dk) (show 2 * r + 1 < hi by omega)
      obtain ⟨c, HC⟩ : ∃ c, Hid (kid ltInt hi F r dk = c) := ⟨_, rfl⟩
      rw [HC.out] at hkid
      go_upto_region 3 with fail
      go_cut [36] (fun s36 wx => s36 = .bool (decide (2 * r + 2 < hi) && ltInt (G (F + (2 * r + 1))) (G (F + (2 * r + 2)))) ∧ Rw (Value.int .u64) w g off dk wx)
      case first =>
        by_cases h2 : 2 * r + 2 < hi
        · have h2i : 2 * (r : Int) + 1 + 1 < (hi : Int) := by omega
          go_big_quiet (first | (go_at_call 40; refine Calls.quiet_of_same (less_any _ _ _)))
          go_wp2_with fail
          go_meet
          case rel => exact ⟨by simp [h2, Nat.add_assoc], hA.drewN hg _⟩
        · have h2i : decide (2 * (r : Int) + 1 + 1 < (hi : Int)) = false := decide_eq_false (by omega)
          go_big_quiet (first | (go_at_call 40; refine Calls.quiet_of_same (less_any _ _ _)))
          go_wp2_with fail
          go_meet
          case rel => exact ⟨by simp [h2], hA.drewN hg _⟩
      case rest =>
        obtain ⟨rfl, hA1⟩ := hcut
        clear hA hc hf
        go_upto_if 36 with fail
        go_cut [9] (fun s9 wx => s9 = .int .i64 c ∧ wx = wc)
        case first =>
          cases h36 : (decide (2 * r + 2 < hi) && ltInt (G (F + (2 * r + 1))) (G (F + (2 * r + 2))))
          · go_wp2_with fail
            go_meet
            case rel => exact ⟨by rw [← HC.out]; unfold kid; rw [← HG.out, ← HG.out, h36]; simp, rfl⟩
          · go_wp2_with fail
            go_meet
            case rel => exact ⟨by rw [← HC.out]; unfold kid; rw [← HG.out, ← HG.out, h36]; simp; omega, rfl⟩
        case rest =>
          obtain ⟨rfl, rfl⟩ := hcut
          obtain ⟨hc, hf⟩ := hA1.family hsk
          simp only [← HG.out] at hc
          go_wp2_with fail
          go_big_quiet (first | (go_at_call 40; refine Calls.quiet_of_same (less_any _ _ _)))
          cases hl : ltInt (G (F + r)) (G (F + c))
          · go_wp2_with fail
            first | go_end0 | ((try simp only [Exit.inBlock, Exit.then]); refine bodyPost_ret (results_none rfl _ _ _) rfl ?_)
            exact ⟨rfl, by rw [← HO.out, sift_stop (by omega) (by rw [HC.out, ← HG.out, ← HG.out]; exact hl)]; exact ⟨hA1.drewN hg _, hsk⟩⟩
          · have HGO : Hid (siftDown ltInt hi F r dk = siftDown ltInt hi F c (swp dk (F + r) (F + c))) := by
              have := sift_go (lt := ltInt) (F := F) (d := dk) (show 2 * r + 1 < hi by omega) (by rw [HC.out, ← HG.out, ← HG.out]; exact hl)
              rw [HC.out] at this; exact this
            have hs := fun q => (hA1.drewN hg q).swap (j := F + r) (k := F + c) (by omega) (by omega)
            simp only [← HG.out] at hs
            have HS : Hid _ := hs
            clear hs
            go_wp2_with fail
            go_region
            all_goals go_wp2
            go_roundg (hi - c)
            case rel => exact ⟨c, swp dk (F + r) (F + c), rfl, by omega, by omega, by rw [size_swp]; exact hsk, HS.out _, HGO.out.symm.trans HO.out⟩
            case measure => omega
end Go.Proofs.Ytjjojbmpjkcmaaa
