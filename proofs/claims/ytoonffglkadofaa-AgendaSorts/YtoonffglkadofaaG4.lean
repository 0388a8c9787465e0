/-
  The program's order of two entries; the first of a place and of those under it. No conditions but the heap's own.
-/
import Derived.Test.YtoonffglkadofaaG2
import Derived.Deep.CutRange
import Derived.Deep.DeepCutAuto
namespace Go.Proofs.Ytoonffglkadofaa
open Go.RowKit
set_option linter.unusedVariables false
attribute [local go_sem] Later.cell Later.frozen
theorem so_eq (x y : Ent) : so x y = if (x.e.a == y.e.a) = true then decide (x.t < y.t) else decide (x.e.a < y.e.a) := by
  unfold so
  by_cases h : x.e.a = y.e.a
  · simp [h]
  · simp [h]
set_option maxRecDepth 100000 in
theorem sooner_any (x y : Ent) (w : World) : Calls Try.prog 20 #[.agg #[.int .i64 x.e.a, .int .i64 x.e.k, .int .i64 x.e.o, .int .u64 x.e.s, .int .i64 x.t], .agg #[.int .i64 y.e.a, .int .i64 y.e.k, .int .i64 y.e.o, .int .u64 y.e.s, .int .i64 y.t]] w fun e w' => e = .returned (.bool (so x y)) ∧ Below w.heap.size w w' := by
  rw [so_eq]
  cases h : (x.e.a == y.e.a)
  · rw [if_neg (by simp)]
    go_enter Try.func20, Try.ntmps20
    go_wp2
    go_ret
    exact ⟨rfl, by go_grown⟩
  · rw [if_pos rfl]
    go_enter Try.func20, Try.ntmps20
    go_wp2
    go_ret
    exact ⟨rfl, by go_grown⟩
/-- The first one of a place and of so many under it. -/
def ff (L : List Ent) (i : Nat) : Nat → Nat
  | 0 => i
  | k + 1 => fs L (ff L i k) (2 * i + 1 + k)
theorem ff_two (L : List Ent) (i : Nat) : ff L i 2 = fa L i := rfl
theorem ff_le (L : List Ent) (i : Nat) : ∀ k, ff L i k ≤ 2 * i + k := by
  intro k
  induction k with
  | zero => show i ≤ _; omega
  | succ k ih =>
    show fs L (ff L i k) (2 * i + 1 + k) ≤ _
    rcases fs_or L (ff L i k) (2 * i + 1 + k) with ⟨e, _⟩ | ⟨e, _⟩ <;> omega
theorem ff_end (L : List Ent) (i k : Nat) (h : L.length ≤ 2 * i + 1 + k) (hk : k ≤ 2) : ff L i k = fa L i := by
  have step : ∀ j, L.length ≤ 2 * i + 1 + j → ff L i (j + 1) = ff L i j := fun j hj => by
    show fs L (ff L i j) (2 * i + 1 + j) = _
    unfold fs; rw [if_neg (by omega)]
  rw [← ff_two]
  match k, hk with
  | 0, _ => rw [step 1 (by omega), step 0 h]
  | 1, _ => rw [step 1 h]
  | 2, _ => rfl
set_option maxHeartbeats 4000000 in
set_option maxRecDepth 100000 in
theorem firstAt_any (b o base n c i : Nat) (ao : Option Addr) (L : List Ent) (hi : i ≤ 100000) (hn : n ≤ 100000) (w : World) (p0 : w.cell? ⟨b, o, none⟩ = some (.slice ao n c)) (p1 : w.cell? ⟨b, o + 1, none⟩ = some (.func (.func 20) #[] #[])) (hb : b < w.heap.size)
    (own : w.ownsRow base 60 5 (.slice ao n c) n (ncs L)) :
    Calls Try.prog 28 #[.pointer (some ⟨b, o, none⟩), .int .i64 i] w fun e w' => e = .returned (.int .i64 (fa L i : Nat)) ∧ Below w.heap.size w w' := by
  have hl := own_len own
  go_enter Try.func28, Try.ntmps28
  go_wp2_with fail
  go_loopw [5, 6] (fun v5 v6 wr => ∃ k u : Nat, Hid (u = 2 * i + 1 + k) ∧ k ≤ 2 ∧ v5 = .int .i64 (ff L i k : Nat) ∧ v6 = .int .i64 (u : Nat) ∧ Below w.heap.size w wr) (fun _ v6 _ => 2 * i + 3 - (intOf v6).toNat)
  case atStart => exact ⟨0, 2 * i + 1, rfl, by omega, rfl, by simp [go_sem] <;> omega, by go_grown⟩
  case round =>
    obtain ⟨k, u, hu, hk, rfl, rfl, hB⟩ := hrel
    replace p0 := (hB.cell (p := ⟨b, o, none⟩) hb).trans p0
    replace p1 := (hB.cell (p := ⟨b, o + 1, none⟩) hb).trans p1
    replace own := own_below own hB
    by_cases h1 : k < 2
    · have hu1 : (u : Int) ≤ 2 * (i : Int) + 2 := by have := hu.out; omega
      by_cases h2 : u < n
      · have hle : ff L i k < u := by have := ff_le L i k; have := hu.out; omega
        have hff : Hid (ff L i (k + 1) = fs L (ff L i k) u) := by show _ = _; rw [hu.out]; rfl
        generalize ff L i k = m at *
        obtain ⟨g, rfl, hg0, hg1, hnc, hcm⟩ := own_some own (by omega)
        have hmx : maxLen = 9223372036854775807 := rfl
        obtain ⟨a0, a1, a2, a3, a4⟩ := own_ent own h2
        obtain ⟨b0, b1, b2, b3, b4⟩ := own_ent own (show m < n by omega)
        obtain ⟨v, hv⟩ : ∃ v, so (pl L u) (pl L m) = v := ⟨_, rfl⟩
        have hff2 : Hid (ff L i (k + 1) = if v = true then u else m) := by
          show _ = _
          rw [hff.out]; unfold fs; rw [hl, hv]
          cases v <;> simp [h2]
        have C := fun w => sooner_any (pl L u) (pl L m) w
        rw [hv] at C
        clear hff hv own
        generalize pl L u = x at *
        generalize pl L m = y at *
        have hu2 : (u : Int) < n := by omega
        have hm2 : (m : Int) < n := by omega
        have lb : b < wr.heap.size := Nat.lt_of_lt_of_le hb hB.size
        have hne : Nonempty (Later wr) := Later.ne wr
        go_upto_region 5 with fail
        refine wp_region_later (by kernel_rfl) (by kernel_rfl) ?_
        try dsimp only [List.append]
        repeat (go_big_quiet_step ((go_at_call 20; exact Later.call _ (C _))))
        refine wpQuiet_nil ?_
        rintro w5 ⟨⟨_, hw5⟩, rfl⟩
        replace hB := Below.call hB hB.size hw5
        clear hw5 a0 a1 a2 a3 a4 b0 b1 b2 b3 b4 C p0 p1
        cases v
        · go_wp2
          go_roundw
          case rel => exact ⟨k + 1, u + 1, by have := hu.out; show _ = _; omega, by omega, by rw [hff2.out]; rfl, by go_num, hB⟩
          case measure => simp [intOf]; omega
        · go_wp2
          go_roundw
          case rel => exact ⟨k + 1, u + 1, by have := hu.out; show _ = _; omega, by omega, by rw [hff2.out]; rfl, by go_num, hB⟩
          case measure => simp [intOf]; omega
      · have hu2 : ¬ (u : Int) < n := by omega
        have hf : Hid (ff L i k = fa L i) := ff_end L i k (by have := hu.out; omega) hk
        generalize ff L i k = m at *
        go_wp2
        go_ret
        exact ⟨by rw [hf.out]; rfl, hB⟩
    · have hu1 : ¬ (u : Int) ≤ 2 * (i : Int) + 2 := by have := hu.out; omega
      obtain rfl : k = 2 := by omega
      have hf : Hid (ff L i 2 = fa L i) := ff_two L i
      generalize ff L i 2 = m at *
      go_wp2
      go_ret
      exact ⟨by rw [hf.out]; rfl, hB⟩
end Go.Proofs.Ytoonffglkadofaa
