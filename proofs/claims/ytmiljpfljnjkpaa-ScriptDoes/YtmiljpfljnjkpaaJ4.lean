/-
  The program's first and Decode. No conditions but that the bytes are no more than 100000.
-/
import Derived.Test.YtmiljpfljnjkpaaJ3
import Derived.Deep.RegionHeld3
import Derived.Deep.CutRange
import Derived.Deep.DeepCutAuto
import Derived.Laws.DeepStrings4
namespace Go.Proofs.Ytmiljpfljnjkpaa
open Go.RowKit
set_option linter.unusedVariables false
set_option maxHeartbeats 1000000 in
set_option maxRecDepth 100000 in
theorem first_any (m : Int) (s : ByteArray) (h0 : 1 ≤ m) (h1 : m ≤ 64) (w : World) :
    Calls Try.prog 22 #[.int .i64 m, .string s] w fun e w' => e = .returned (.agg #[.int .i64 (fst3 m s).k, .int .i64 (fst3 m s).h, .int .i64 (fst3 m s).v]) ∧ Below w.heap.size w w' := by
  obtain ⟨w1, hr, A, g1⟩ := copy3_run (w := (w.alloc (.cells #[.int .i64 0, .int .i64 0, .int .i64 0] 24)).alloc (.cells #[.int .u8 0, .int .u8 0, .int .u8 0] 46)) 9 3 s (At3.fresh _ _ _ _ _)
  have R := ((At3.fresh w (.int .i64 0) (.int .i64 0) (.int .i64 0) 24).alloc (.cells #[.int .u8 0, .int .u8 0, .int .u8 0] 46)).kept g1 (by simp)
  simp only [World.size_alloc] at hr A g1
  have hB : Below w.heap.size w w1 := Below.grown (show Below w.heap.size w _ by go_grown) g1 (by simp <;> omega) (fun b hb => by simp at hb; omega)
  have E : Hid (fst3 m s = ⟨byt s 0 % 8, byt s 1 % m, byt s 2⟩) := rfl
  rw [E.out]
  dsimp only
  obtain ⟨x0, x1⟩ := byt_rg s 0
  obtain ⟨y0, y1⟩ := byt_rg s 1
  obtain ⟨z0, z1⟩ := byt_rg s 2
  generalize Nat.min s.size 3 = n at hr
  clear E g1
  generalize byt s 0 = x at *
  generalize byt s 1 = y at *
  generalize byt s 2 = z at *
  have hm : ¬ m = 0 := by omega
  obtain ⟨c0, c1, c2, _, _, _, lt⟩ := id A
  have rlt := R.lt
  obtain ⟨r0, r1, r2⟩ := R.outs (.int .i64 (x % 8)) (.int .i64 (y % m)) (.int .i64 z)
  obtain ⟨d0, d1, d2, f0, f1, f2, _⟩ := id R
  clear A R
  go_enter Try.func22, Try.ntmps22
  go_wp2_with fail
  go_region
  go_wp2_with (exact bodyPost_ret (v := .agg #[.int .i64 (x % 8), .int .i64 (y % m), .int .i64 z]) (by simp [results, Try.results22, go_sem, r0, r1, r2]) rfl ⟨rfl, by go_grown⟩)
section
attribute [local go_sem ↓] append_shut
set_option maxHeartbeats 1000000 in
set_option maxRecDepth 100000 in
theorem decode_any (m : Int) (s : ByteArray) (hs : s.size ≤ 20000) (w : World) :
    Calls Try.prog 10 #[.int .i64 m, .string s] w fun e w' => (∃ ao c, e = .returned (.slice ao (dn s) c) ∧ w'.ownsRow w.heap.size 24 3 (.slice ao (dn s) c) (dn s) (ocs (rw3 (dc m s) (dn s)))) ∧ Below w.heap.size w w' := by
  obtain ⟨n, hn⟩ : ∃ n, dn s = n := ⟨_, rfl⟩
  have hq : ((s.size : Int) + 3 - 1) / 3 = (n : Int) := by rw [← hn]; unfold dn; omega
  have hq2 : s.size + 2 < 3 * n + 3 ∧ 3 * n ≤ s.size + 2 := by rw [← hn]; unfold dn; omega
  have hn1 : n ≤ 10000 := by omega
  rw [hn]
  obtain ⟨f, hf⟩ : ∃ f, Hid (dc m s = f) := ⟨_, rfl⟩
  rw [hf.out]
  obtain ⟨i0, hi0, z0, z1, z2⟩ := info_parts infoO
  obtain ⟨w0, hr0, own0, g0⟩ := run_make_own (P := Try.prog) w w.heap.size 22 24 i0 _ 3 Try.underlying22 hi0 z0 z1 .i64 .i64 n (by rw [z2]; omega) (by unfold maxLen; omega) (Nat.le_refl _)
  have hB0 : Below w.heap.size w w0 := Below.grown (Below.refl _ _) g0 (Nat.le_refl _) (fun b hb => by cases hb)
  have S := senders_any m
  have hm := mm_rg m
  have F1 := fun i (h : 3 * i ≤ s.size) w => first_any (mm m) (s.extract (3 * i) s.size) hm.1 hm.2 w
  have F2 : ∀ i, 3 * i ≤ s.size → Hid (fst3 (mm m) (s.extract (3 * i) s.size) = f i) := fun i h => by rw [← hf.out]; exact dc_fst m s i h
  generalize mm m = r at *
  clear g0 hi0 z0 z1 z2 hn hf
  go_enter Try.func10, Try.ntmps10
  go_wp2_with fail
  clear hq hr0
  go_loopw [6, 16] (fun v6 v16 wr => ∃ (i : Nat) (ti : Option Addr) (tc : Nat), i ≤ n ∧ v16 = .int .i64 i ∧ v6 = .slice ti i tc ∧ wr.ownsRow w.heap.size 24 3 (.slice ti i tc) i (ocs (rw3 f i)) ∧ Below w.heap.size w wr) (fun _ v16 _ => n - (intOf v16).toNat)
  case atStart => exact ⟨0, _, _, Nat.zero_le _, rfl, rfl, own0, hB0⟩
  case round =>
    obtain ⟨i, ti, tc, hi, rfl, rfl, own, hB⟩ := hrel
    clear own0 hB0
    by_cases hin : i < n
    · have hin2 : (i : Int) < n := by omega
      have hin3 : (i : Int) < ((s.size : Int) + 3 - 1) / 3 := by omega
      obtain ⟨k, hk⟩ : ∃ k, 3 * i = k := ⟨_, rfl⟩
      have h3 : 3 * i ≤ s.size := by omega
      have h4 : (k : Int) ≤ s.size := by omega
      have h5 : 0 ≤ (k : Int) := by omega
      have hwr : IntKind.i64.wrap (3 * (i : Int)) = (k : Int) := by rw [IntKind.wrap_i64]; omega
      have C := F1 i h3
      have E := F2 i h3
      rw [E.out, hk] at C
      clear F1 F2 E hk
      go_wp2_with fail
      have hsz := hB.size
      go_region_held3 (fun w' => Below w.heap.size w w') (first | assumption | go_grown) (first
        | (go_at_call 23; refine (S _).mono ?_; rintro e w1 ⟨rfl, rfl⟩)
        | (go_at_call 22; refine (C _).mono ?_; rintro e w2 ⟨rfl, hw2⟩; have g2 : Below wr.heap.size wr w2 := below_thru (W := wr) (by go_grown) hw2; have g2' : Below w.heap.size w w2 := hB.trans (g2.mono hsz); have z2 := g2.size;
           obtain ⟨ta, td, w3, hr, own3, hgr⟩ := oapp_run (x := f i) 22 ((own_below own g2).alloc (.cells #[.int .i64 (f i).k, .int .i64 (f i).h, .int .i64 (f i).v] 24)) (by simp; omega) (by omega) rfl (At3.fresh _ _ _ _ _);
           have g3 : Below w.heap.size w w3 := Below.grown (g2'.alloc (by omega) _) hgr (by simp; omega) (fun b hb => (own.lt b hb).1)))
      go_wp2_with fail
      go_roundw
      case rel => exact ⟨i + 1, ta, td, by omega, by go_num, rfl, own3, g3⟩
      case measure => simp [intOf]; omega
    · obtain rfl : i = n := by omega
      have hin3 : ((s.size : Int) + 3 - 1) / 3 ≤ i := by omega
      go_wp2_with fail
      go_ret
      exact ⟨⟨ti, tc, rfl, own⟩, hB⟩
end
end Go.Proofs.Ytmiljpfljnjkpaa
