/-
  The reference's Decode, Encode, Count. No conditions but the rows' own, and that they are short.
-/
import Derived.Test.YtmiljpfljnjkpaaJ7
import Derived.Test.YtmiljpfljnjkpaaJ5
import Derived.Test.YtmiljpfljnjkpaaJ6
import Derived.Deep.RegionHeld3
import Derived.Deep.CutRange
import Derived.Deep.DeepCutAuto
namespace Go.Proofs.Ytmiljpfljnjkpaa
open Go.RowKit
set_option linter.unusedVariables false
section
attribute [local go_sem ↓] append_shut
set_option maxHeartbeats 4000000 in
set_option maxRecDepth 100000 in
theorem rdecode_any (m : Int) (s : ByteArray) (hs : s.size ≤ 20000) (w : World) :
    Calls Try.prog 11 #[.int .i64 m, .string s] w fun e w' => (∃ ao c, e = .returned (.slice ao (dn s) c) ∧ w'.ownsRow w.heap.size 24 3 (.slice ao (dn s) c) (dn s) (ocs (rw3 (dc m s) (dn s)))) ∧ Below w.heap.size w w' := by
  obtain ⟨n, hn⟩ : ∃ n, dn s = n := ⟨_, rfl⟩
  have hq2 : s.size + 2 < 3 * n + 3 ∧ 3 * n ≤ s.size + 2 := by rw [← hn]; unfold dn; omega
  have hn1 : n ≤ 10000 := by omega
  rw [hn]
  have hm := mm_rg m
  have hmm := mm_minmax m
  have hd : Hid (∀ i, dc m s i = ⟨byt s (3 * i) % 8, byt s (3 * i + 1) % mm m, byt s (3 * i + 2)⟩) := fun _ => rfl
  obtain ⟨f, hf⟩ : ∃ f, Hid (dc m s = f) := ⟨_, rfl⟩
  rw [hf.out] at hd ⊢
  obtain ⟨r, hr⟩ : ∃ r, Hid (mm m = r) := ⟨_, rfl⟩
  rw [hr.out] at hd hm hmm
  have HM : Hid (r = min (max m 1) 64) := hmm
  clear hf hr hn hmm
  go_enter Try.func11, Try.ntmps11
  go_upto_region 1 with fail
  go_cut [0] (fun v0 wc => v0 = .int .i64 r ∧ wc = w)
  case first =>
    by_cases h1 : m < 1
    · have e : r = 1 := by have := HM.out; omega
      subst e
      go_wp2_with fail
      all_goals first | omega | (go_meet; case rel => exact ⟨rfl, rfl⟩)
    · by_cases h2 : 64 < m
      · have e : r = 64 := by have := HM.out; omega
        subst e
        go_wp2_with fail
        all_goals first | omega | (go_meet; case rel => exact ⟨rfl, rfl⟩)
      · have e : m = r := by have := HM.out; omega
        subst e
        go_wp2_with fail
        all_goals first | omega | (go_meet; case rel => exact ⟨rfl, rfl⟩)
  case rest =>
    obtain ⟨rfl, rfl⟩ := hcut
    have hr0 : ¬ r = 0 := by omega
    clear HM
    go_wp2_with fail
    go_loopw [5, 6] (fun v5 v6 wr => ∃ (i : Nat) (ti : Option Addr) (tc : Nat), i ≤ n ∧ v6 = .int .i64 ((3 * i : Nat) : Int) ∧ v5 = .slice ti i tc ∧ wr.ownsRow wc.heap.size 24 3 (.slice ti i tc) i (ocs (rw3 f i)) ∧ Below wc.heap.size wc wr) (fun _ v6 _ => s.size + 3 - (intOf v6).toNat)
    case atStart => exact ⟨0, none, 0, Nat.zero_le _, rfl, rfl, World.ownsRow_nil _ _ _ _, Below.refl _ _⟩
    case round =>
      obtain ⟨i, ti, tc, hi, rfl, rfl, own, hB⟩ := hrel
      by_cases hin : i < n
      · have hfi := hd.out i
        obtain ⟨k, hk⟩ : ∃ k, 3 * i = k := ⟨_, rfl⟩
        rw [hk] at hfi ⊢
        have hin2 : (k : Int) < s.size := by omega
        have B0 := fun w => byteAt_any s k w
        have B1 := fun w => byteAt_any s (k + 1) w
        have B2 := fun w => byteAt_any s (k + 2) w
        obtain ⟨x0, x1⟩ := byt_rg s k
        obtain ⟨y0, y1⟩ := byt_rg s (k + 1)
        obtain ⟨z0, z1⟩ := byt_rg s (k + 2)
        generalize byt s k = x at *
        generalize byt s (k + 1) = y at *
        generalize byt s (k + 2) = z at *
        obtain ⟨p1, hp1⟩ : ∃ p : Int, Hid (((k + 1 : Nat) : Int) = p) := ⟨_, rfl⟩
        obtain ⟨p2, hp2⟩ : ∃ p : Int, Hid (((k + 2 : Nat) : Int) = p) := ⟨_, rfl⟩
        rw [hp1.out] at B1
        rw [hp2.out] at B2
        have k1 : IntKind.i64.wrap ((k : Int) + 1) = p1 := by have := hp1.out; rw [IntKind.wrap_i64]; omega
        have k2 : IntKind.i64.wrap ((k : Int) + 2) = p2 := by have := hp2.out; rw [IntKind.wrap_i64]; omega
        have t1 : x.tmod 8 = x % 8 := Int.tmod_eq_emod_of_nonneg x0
        have t2 : y.tmod r = y % r := Int.tmod_eq_emod_of_nonneg y0
        have hsz := hB.size
        have hx : (⟨x % 8, y % r, z⟩ : Stp) = f i := hfi.symm
        obtain ⟨ta, td, w3, hrun, own3, hgr⟩ := oapp_run (w := (wr.alloc (.cells #[.int .i64 (x % 8), .int .i64 (y % r), .int .i64 z] 24)).drew) (g := wr.heap.size) (x := ⟨x % 8, y % r, z⟩) 22 (own.alloc _).drew (by simp; omega) (by omega) hx (At3.fresh _ _ _ _ _).drew
        have g3 : Below wc.heap.size wc w3 := Below.grown (hB.alloc (by omega) _).drew hgr (by simp; omega) (fun b hb => (own.lt b hb).1)
        clear hfi hx own hgr hd
        go_wp2_with fail
        go_region_held3 (fun w' => Below wc.heap.size wc w') (first | assumption | go_grown) (first
          | (go_at_call_of 24 (Value.int IntKind.i64 (k : Int)); refine (B0 _).mono ?_; rintro e w1 ⟨rfl, rfl⟩)
          | (go_at_call_of 24 (Value.int IntKind.i64 p1); refine (B1 _).mono ?_; rintro e w1 ⟨rfl, rfl⟩)
          | (go_at_call_of 24 (Value.int IntKind.i64 p2); refine (B2 _).mono ?_; rintro e w1 ⟨rfl, rfl⟩))
        go_wp2_with fail
        go_roundw
        case rel => exact ⟨i + 1, ta, td, by omega, by congr 1; omega, rfl, own3, g3⟩
        case measure => simp [intOf]; omega
      · obtain rfl : i = n := by omega
        have hin3 : (s.size : Int) ≤ ((3 * i : Nat) : Int) := by omega
        generalize 3 * i = k at *
        go_wp2_with fail
        go_ret
        exact ⟨⟨ti, tc, rfl, own⟩, hB⟩
set_option maxHeartbeats 4000000 in
set_option maxRecDepth 100000 in
theorem rencode_any (ao : Option Addr) (n c q : Nat) (f : Nat → Stp) (hn : n ≤ 10000) (hq : q ≤ n) (hok : ∀ j, j < q → isb 64 (f j) = true) (hbad : q < n → isb 64 (f q) = false) (w : World) (E : Ops w ao n c f) :
    Calls Try.prog 8 #[.slice ao n c] w fun e w' => e = .returned (encv f n q) ∧ Below w.heap.size w w' := by
  have hcap := E.cap
  have hmax := E.max
  have hmx : maxLen = 9223372036854775807 := rfl
  go_enter Try.func8, Try.ntmps8
  go_wp2_with fail
  go_loopw [4, 5] (fun v4 v5 wr => ∃ (i : Nat) (ti : Option Addr) (tc : Nat), i ≤ q ∧ v5 = .int .i64 i ∧ v4 = .slice ti (3 * i) tc ∧ wr.ownsRow w.heap.size 5 1 (.slice ti (3 * i) tc) (3 * i) (bcs (bl f i)) ∧ Below w.heap.size w wr) (fun _ v5 _ => n - (intOf v5).toNat)
  case atStart => exact ⟨0, none, 0, Nat.zero_le _, rfl, rfl, World.ownsRow_nil _ _ _ _, Below.refl _ _⟩
  case round =>
    obtain ⟨i, ti, tc, hi, rfl, rfl, own, hB⟩ := hrel
    have hsz := hB.size
    by_cases hin : i < n
    · have hin2 : (i : Int) < n := by omega
      obtain ⟨b, o, rfl, hbl, hc⟩ := (E.below hB).at' (by omega)
      obtain ⟨a0, a1, a2⟩ := hc i hin
      clear hc E
      by_cases hiq : i = q
      · have MB := ris_any 64 (f i) false (by rw [hiq]; exact hbad (by omega))
        have EV : Hid (encv f n q = .tuple #[.string ⟨#[]⟩, .int .i64 1]) := encv_no (by omega)
        clear hok hbad hiq hi hq own
        generalize (f i).k = k at *
        generalize (f i).h = h at *
        generalize (f i).v = u at *
        go_wp2_with fail
        refine (MB _).mono ?_
        rintro e w2 ⟨rfl, hw2⟩
        have g2 : Below w.heap.size w w2 := Below.call hB hsz hw2
        clear hw2 a0 a1 a2
        go_wp2_with fail
        go_ret2
        exact ⟨by rw [EV.out]; rfl, g2⟩
      · have hokn := hok i (by omega)
        have MB := ris_any 64 (f i) true hokn
        have hb := isb_iff.1 hokn
        have e64 : mm 64 = 64 := rfl
        have AP := fun w2 (h : Below wr.heap.size wr w2) => bapp_run (w := (w2.alloc (.cells #[.int .u8 (f i).k, .int .u8 (f i).h, .int .u8 (f i).v] 5)).drew) (g := w2.heap.size) (f := f) 39 ((own_below own h).alloc _).drew (by have := h.size; simp; omega) (by omega) hokn (At3.fresh _ _ _ _ _).drew
        have hlt := fun b hb => (own.lt b hb).1
        have k1 : IntKind.u8.wrap (f i).k = (f i).k := by rw [IntKind.wrap_u8]; omega
        have k2 : IntKind.u8.wrap (f i).h = (f i).h := by rw [IntKind.wrap_u8]; omega
        have k3 : IntKind.u8.wrap (f i).v = (f i).v := by rw [IntKind.wrap_u8]; omega
        clear hok hbad hb hokn own e64
        generalize (f i).k = k at *
        generalize (f i).h = h at *
        generalize (f i).v = u at *
        go_wp2_with fail
        refine (MB _).mono ?_
        rintro e w2 ⟨rfl, hw2⟩
        replace a0 := (hw2.cell (p := ⟨b, _, none⟩) hbl).trans a0
        replace a1 := (hw2.cell (p := ⟨b, _, none⟩) hbl).trans a1
        replace a2 := (hw2.cell (p := ⟨b, _, none⟩) hbl).trans a2
        have hbl2 := Nat.lt_of_lt_of_le hbl hw2.size
        obtain ⟨ta, td, w3, hr, own3, hgr⟩ := AP w2 hw2
        have g2' : Below w.heap.size w w2 := hB.trans (hw2.mono hsz)
        have z2 := hw2.size
        have g3 : Below w.heap.size w w3 := Below.grown (g2'.alloc (by omega) _).drew hgr (by simp; omega) hlt
        clear hw2 MB AP g2' hgr hlt
        go_wp2_with fail
        go_region
        go_wp2_with fail
        go_roundw
        case rel => exact ⟨i + 1, ta, td, by omega, by go_num, rfl, own3, g3⟩
        case measure => simp [intOf]; omega
    · obtain rfl : i = n := by omega
      obtain rfl : i = q := by omega
      have hs := str_run own
      have EV : Hid (encv f i i = .tuple #[.string (bs f i), .int .i64 0]) := encv_yes f i
      generalize bs f i = t at *
      clear own
      go_wp2_with fail
      go_ret2
      exact ⟨by rw [EV.out]; rfl, hB⟩
end
theorem Cells.drew {w : World} {b n : Nat} {f : Nat → Int} (h : Cells w b n f) : Cells w.drew b n f := ⟨h.cell, h.froz, h.lt⟩
set_option maxHeartbeats 4000000 in
set_option maxRecDepth 100000 in
theorem rcount_any (ao : Option Addr) (n c : Nat) (f : Nat → Stp) (hn : n ≤ 10000) (w : World) (E : Ops w ao n c f) :
    Calls Try.prog 20 #[.slice ao n c] w fun e w' => e = .returned (cnv f n) ∧ Below w.heap.size w w' := by
  have hcap := E.cap
  have hmax := E.max
  have hmx : maxLen = 9223372036854775807 := rfl
  go_enter Try.func20, Try.ntmps20
  go_wp2_with fail
  go_loopw [4] (fun v4 wr => ∃ i : Nat, i ≤ n ∧ v4 = .int .i64 i ∧ Cells wr w.heap.size 8 (fun _ => 0) ∧ Cells wr (w.heap.size + 1) 8 (fun j => cn f i j) ∧ Below w.heap.size w wr) (fun v4 _ => n - (intOf v4).toNat)
  case atStart =>
    exact ⟨0, Nat.zero_le _, rfl, (Cells.fresh8 w _).alloc _, by have := Cells.fresh8 (w.alloc (.cells #[.int .i64 0, .int .i64 0, .int .i64 0, .int .i64 0, .int .i64 0, .int .i64 0, .int .i64 0, .int .i64 0] 33)) 33; simp only [World.size_alloc] at this; exact this, by go_grown⟩
  case round =>
    obtain ⟨i, hi, rfl, R, C, hB⟩ := hrel
    have hsz := C.lt (by omega)
    have hrz := R.lt (by omega)
    by_cases hin : i < n
    · have hin2 : (i : Int) < n := by omega
      obtain ⟨b, o, rfl, hbl, hc⟩ := (E.below hB).at' (by omega)
      obtain ⟨a0, _, _⟩ := hc i hin
      clear hc E
      cases hk : wi (f i).k 0 7
      · have C2 := C.miss hk
        have hk2 := wi_not.1 hk
        clear hk C
        generalize (f i).k = k at *
        by_cases hk0 : 0 ≤ k
        · have hk7 : decide (k ≤ 7) = false := decide_eq_false (by omega)
          go_wp2_with fail
          go_roundw
          case rel => exact ⟨i + 1, by omega, by go_num, R, C2, hB⟩
          case measure => simp [intOf]; omega
        · have hk7 : decide (0 ≤ k) = false := decide_eq_false (by omega)
          go_wp2_with fail
          go_roundw
          case rel => exact ⟨i + 1, by omega, by go_num, R, C2, hB⟩
          case measure => simp [intOf]; omega
      · have hk2 := wi_iff.1 hk
        obtain ⟨j, hj⟩ : ∃ j : Nat, (f i).k = j := ⟨(f i).k.toNat, by omega⟩
        have C2 := C.hit j (by omega) hj
        have R2 := R.other (a := ⟨(w.heap.size + 1), j, none⟩) (by simp) (.int .i64 (cn f i j + 1))
        have d0 := C.cell j (by omega)
        have f0 := C.froz j (by omega)
        have hb := cn_rg f i j
        have hj8 : (j : Int) < 8 := by omega
        have hj7 : (j : Int) ≤ 7 := by omega
        have hj0 : 0 ≤ (j : Int) := by omega
        have gB : Below w.heap.size w (wr.setCell ⟨(w.heap.size + 1), j, none⟩ (.int .i64 (cn f i j + 1))) := by go_grown
        clear hk C hk2 R
        generalize (f i).k = k at *
        subst hj
        generalize cn f i j = x at *
        go_wp2_with fail
        go_region
        go_wp2_with fail
        go_roundw
        case rel => exact ⟨i + 1, by omega, by go_num, R2.drew, C2.drew, gB.drew⟩
        case measure => simp [intOf]; omega
    · obtain rfl : i = n := by omega
      have hin2 : ¬ (i : Int) < i := by omega
      have c0 : _ = some (Value.int .i64 (cn f i 0)) := C.cell 0 (by omega)
      have c1 : _ = some (Value.int .i64 (cn f i 1)) := C.cell 1 (by omega)
      have c2 : _ = some (Value.int .i64 (cn f i 2)) := C.cell 2 (by omega)
      have c3 : _ = some (Value.int .i64 (cn f i 3)) := C.cell 3 (by omega)
      have c4 : _ = some (Value.int .i64 (cn f i 4)) := C.cell 4 (by omega)
      have c5 : _ = some (Value.int .i64 (cn f i 5)) := C.cell 5 (by omega)
      have c6 : _ = some (Value.int .i64 (cn f i 6)) := C.cell 6 (by omega)
      have c7 : _ = some (Value.int .i64 (cn f i 7)) := C.cell 7 (by omega)
      have d0 := R.cell 0 (by omega)
      have e0 := R.froz 0 (by omega)
      have d1 := R.cell 1 (by omega)
      have e1 := R.froz 1 (by omega)
      have d2 := R.cell 2 (by omega)
      have e2 := R.froz 2 (by omega)
      have d3 := R.cell 3 (by omega)
      have e3 := R.froz 3 (by omega)
      have d4 := R.cell 4 (by omega)
      have e4 := R.froz 4 (by omega)
      have d5 := R.cell 5 (by omega)
      have e5 := R.froz 5 (by omega)
      have d6 := R.cell 6 (by omega)
      have e6 := R.froz 6 (by omega)
      have d7 := R.cell 7 (by omega)
      have e7 := R.froz 7 (by omega)
      have EV : Hid (cnv f i = .agg #[.int .i64 (cn f i 0), .int .i64 (cn f i 1), .int .i64 (cn f i 2), .int .i64 (cn f i 3), .int .i64 (cn f i 4), .int .i64 (cn f i 5), .int .i64 (cn f i 6), .int .i64 (cn f i 7)]) := rfl
      generalize cn f i 0 = x0 at *
      generalize cn f i 1 = x1 at *
      generalize cn f i 2 = x2 at *
      generalize cn f i 3 = x3 at *
      generalize cn f i 4 = x4 at *
      generalize cn f i 5 = x5 at *
      generalize cn f i 6 = x6 at *
      generalize cn f i 7 = x7 at *
      obtain ⟨r0, r1, r2, r3, r4, r5, r6, r7⟩ := R.outs8 x0 x1 x2 x3 x4 x5 x6 x7
      clear R C E
      go_wp2_with (exact bodyPost_ret (v := .agg #[.int .i64 x0, .int .i64 x1, .int .i64 x2, .int .i64 x3, .int .i64 x4, .int .i64 x5, .int .i64 x6, .int .i64 x7]) (by simp [results, Try.results20, go_sem, r0, r1, r2, r3, r4, r5, r6, r7]) rfl ⟨by rw [EV.out], by go_grown⟩)
end Go.Proofs.Ytmiljpfljnjkpaa
