/-
  The numbers of a map of packets, sorted, in a slice of the call's own. No conditions but the map's.
-/
import Derived.Test.YtjjojbmpjkcmaaaV10
import Derived.Test.YtjjojbmpjkcmaaaV12
namespace Go.Proofs.Ytjjojbmpjkcmaaa
open Go.RowKit Go.Sort Go.Maps
set_option linter.unusedVariables false
set_option maxHeartbeats 1000000 in
theorem insertion_nil (p : Option Addr) (cap : Nat) (w : World) : Calls Try.prog 34 #[.slice p 0 cap, .int .i64 0, .int .i64 0] w fun e w' => e = .returned (.tuple #[]) ∧ w' = w := by
  go_enter Try.func34, Try.ntmps34
  go_wp2
  go_loopw [6] (fun vi wr => vi = .int .i64 1 ∧ wr = w) (fun _ _ => 0)
  case atStart => exact ⟨rfl, rfl⟩
  case round =>
    obtain ⟨rfl, rfl⟩ := hrel
    go_wp2
    go_end0
    exact ⟨rfl, rfl⟩
set_option maxHeartbeats 1000000 in
theorem pdq_nil (p : Option Addr) (cap : Nat) (w : World) : Calls Try.prog 32 #[.slice p 0 cap, .int .i64 0, .int .i64 0, .int .i64 0] w fun e w' => e = .returned (.tuple #[]) ∧ w' = w := by
  go_enter Try.func32, Try.ntmps32
  go_wp2
  go_loopw [1, 2] (fun va vb wr => va = .int .i64 0 ∧ vb = .int .i64 0 ∧ wr = w) (fun _ _ _ => 0)
  case atStart => exact ⟨rfl, rfl, rfl⟩
  case round =>
    obtain ⟨rfl, rfl, rfl⟩ := hrel
    go_wp2_with (go_at_call 34; refine (insertion_nil _ _ _).mono ?_; rintro e w1 ⟨rfl, rfl⟩)
    first | go_end0 | ((try simp only [Exit.inBlock, Exit.then]); refine bodyPost_ret (results_none rfl _ _ _) rfl ?_)
    exact ⟨rfl, rfl⟩
set_option maxHeartbeats 1000000 in
theorem sort_nil (p : Option Addr) (cap : Nat) (w : World) : Calls Try.prog 29 #[.slice p 0 cap] w fun e w' => e = .returned (.tuple #[]) ∧ w' = w := by
  go_enter Try.func29, Try.ntmps29
  go_wp2_with (first | (go_at_call 33; refine (bitlen_any 0 (by omega) (by omega) _).mono ?_; rintro e w1 ⟨rfl, rfl⟩; rw [lenv_0]) | (go_at_call 32; refine (pdq_nil _ _ _).mono ?_; rintro e w1 ⟨rfl, rfl⟩))
  go_end0
  exact ⟨rfl, rfl⟩
set_option maxHeartbeats 1000000 in
theorem sort_any (g off cap n : Nat) (d : Array Int) (w : World) (hn : d.size = n) (hH : Holds (Value.int .u64) w g off d) (hg : g < w.heap.size) (hsz : n < 2305843009213693952) :
    Calls Try.prog 29 #[.slice (some ⟨g, off, none⟩) n cap] w fun e w' => e = .returned (.tuple #[]) ∧ ∃ d', Fin2 0 n d d' ∧ Rw (Value.int .u64) w g off d' w' := by
  obtain ⟨l0, l1⟩ := lenv_64 (a := (n : Int)) (by omega) (by omega)
  obtain ⟨l, hl⟩ : ∃ l : Nat, lenv (n : Int) = l := ⟨_, (Int.toNat_of_nonneg l0).symm⟩
  have hc := bitlen_any (n : Int) (by omega) (by omega)
  rw [hl] at hc l0 l1
  go_enter Try.func29, Try.ntmps29
  go_wp2_with (first | (go_at_call 33; refine (hc _).mono ?_; rintro e w1 ⟨rfl, rfl⟩) | (go_at_call 32; refine (pdq_any (n + 1) g off cap n 0 n l d _ (by omega) hn hH hg (by omega) (Nat.le_refl _) hsz (by omega) (.inl rfl) _ _ _ rfl rfl rfl).mono ?_; rintro e w1 ⟨rfl, d', F, hR⟩))
  go_end0
  exact ⟨rfl, d', F, hR⟩
/-- Sorted, of the same numbers: rising ones are what they are. -/
theorem rising_of {n : Nat} {d d' : Array Int} (hn : d.size = n) (F : Fin2 0 n d d') {ks : List Int} (hp : d.toList.Perm ks) (hk : ks.Pairwise (· < ·)) : d'.toList = ks := by
  obtain ⟨⟨hs, _, hperm⟩, hsort⟩ := F
  have h1 : d'.toList.Perm ks := by
    have e1 : d'.extract 0 n = d' := by rw [← hn, ← hs]; simp
    have e2 : d.extract 0 n = d := by rw [← hn]; simp
    rw [e1, e2] at hperm
    exact hperm.trans hp
  refine List.Perm.eq_of_pairwise (le := fun a b : Int => a ≤ b) (fun a b _ _ h1 h2 => by omega) ?_ (hk.imp fun h => by omega) h1
  refine List.pairwise_iff_getElem.2 fun i j hi hj hij => ?_
  have hi' : i < d'.size := by simpa using hi
  have hj' : j < d'.size := by simpa using hj
  have h2 := hsort i j (Nat.zero_le _) hij (by omega)
  rw [getElem!_pos d' j hj', getElem!_pos d' i hi'] at h2
  have h3 : ¬ d'[j] < d'[i] := by simpa [ltInt] using h2
  simp only [Array.getElem_toList]
  omega
set_option maxHeartbeats 1000000 in
/-- The numbers of a map, rising. -/
theorem sorted_any (Bm b nn : Nat) (D0 : DataW Pt) (hN : Maps.size D0 ≤ 1048576) (ks : List Int) (hks : ks.Pairwise (· < ·)) (hk : ∀ x, x ∈ ks ↔ has D0 (.int .u64 x) = true) (hkl : ks.length ≤ 1048576) (w : World) (hBm : Bm < w.heap.size) (hm : w.cell? ⟨Bm, 0, none⟩ = some (.map (some b))) (hown : w.ownsMap Try.prog 22 pR b nn D0) :
    Calls Try.prog 26 #[.func (.func 30) #[] #[.pointer (some ⟨Bm, 0, none⟩)]] w fun e w' => ∃ (v : Value), e = .returned v ∧
      w'.ownsRow w.heap.size 22 1 v ks.length (ks.map (Value.int .u64)) ∧ Below w.heap.size w w' := by
  go_enter Try.func26, Try.ntmps26
  go_wp2_with fail
  refine (collect_any Bm b nn D0 hN _ hBm hm hown).mono ?_
  rintro e w1 ⟨v, ss, rfl, hnd, hiff, hown1, hb1⟩
  have hperm : ss.Perm ks := (List.perm_ext_iff_of_nodup hnd (hks.imp fun h => by omega)).2 fun x => by rw [hiff x, hk x]
  have hlen : Hid (ss.length = ks.length) := hperm.length_eq
  by_cases h0 : ss = []
  · subst h0
    obtain rfl : ks = [] := by have := hlen.out; cases ks; rfl; simp at this
    obtain ⟨p, cap, rfl⟩ : ∃ p cap, v = .slice p 0 cap := by
      rcases hown1.2 with ⟨rfl, _⟩ | ⟨g, cap, cur, rfl, _⟩
      · exact ⟨_, _, rfl⟩
      · exact ⟨_, _, rfl⟩
    go_wp2_with (go_at_call 29; refine (sort_nil _ _ _).mono ?_; rintro e w2 ⟨rfl, rfl⟩)
    go_ret
    exact ⟨_, rfl, hown1, hb1⟩
  · rcases hown1.2 with ⟨_, h1⟩ | ⟨g, cap, cur, rfl, hbase, hgb, r1, r2, r3, r4⟩
    · exact absurd (List.eq_nil_of_length_eq_zero h1) h0
    · have hgl : g < w1.heap.size := (Array.getElem?_eq_some_iff.1 hgb).1
      rw [Nat.mul_one] at r4
      have hcur : ∀ j, j < ss.length → cur[j]? = some (.int .u64 (ss.toArray[j]!)) := fun j hj => by
        have e1 : (cur.toList.take ss.length)[j]? = (ss.map (Value.int .u64))[j]? := by rw [r4]
        rw [List.getElem?_take, if_pos hj] at e1
        simp only [Array.getElem?_toList] at e1
        rw [e1, getElem!_pos ss.toArray j (by simpa using hj)]
        simp [hj]
      have hH : Holds (Value.int .u64) w1 g 0 ss.toArray := fun j hj => by
        have hj' : j < ss.length := by simpa using hj
        refine ⟨?_, by simp [World.frozen?, hgb]⟩
        rw [Nat.zero_add]
        simp only [World.cell?, hgb]
        simpa using hcur j hj'
      have hc := sort_any g 0 cap ss.length ss.toArray w1 (by simp) hH hgl (by have := hlen.out; omega)
      go_wp2_with (go_at_call 29; refine hc.mono ?_; rintro e w2 ⟨rfl, d', F, hR⟩)
      have ed := rising_of (by simp) F (by simpa using hperm) hks
      have hR' := hR
      obtain ⟨c2, h2, z2, o2⟩ := hR.same cur _ _ hgb
      have sd : d'.size = ss.length := by have := F.1.1; simpa using this
      have ht : c2.toList.take ss.length = ks.map (Value.int .u64) := by
        apply List.ext_getElem?
        intro j
        rw [List.getElem?_take]
        by_cases hj : j < ss.length
        · have q := (hR'.holds j (by omega)).1
          rw [Nat.zero_add] at q
          simp only [World.cell?, h2] at q
          have q' : c2[j]? = some (.int .u64 d'[j]!) := by simpa using q
          have hjd : j < d'.size := by omega
          rw [if_pos hj]
          simp only [Array.getElem?_toList]
          rw [q', getElem!_pos d' j hjd]
          have : (d'.toList)[j]? = ks[j]? := by rw [ed]
          rw [List.getElem?_map, ← this]
          simp [hjd]
        · rw [if_neg hj, List.getElem?_eq_none (by have := hlen.out; simp; omega)]
      have hb2 : Below w.heap.size w w2 := hb1.grown hR.kept hb1.size (fun k e => by cases e; exact hbase)
      go_ret
      refine ⟨_, rfl, ⟨by simp, .inr ⟨g, cap, c2, ?_, hbase, h2, by have := hlen.out; omega, r2, by rw [z2]; exact r3, by rw [Nat.mul_one, ← hlen.out]; exact ht⟩⟩, hb2⟩
      rw [← hlen.out]; rfl
end Go.Proofs.Ytjjojbmpjkcmaaa
