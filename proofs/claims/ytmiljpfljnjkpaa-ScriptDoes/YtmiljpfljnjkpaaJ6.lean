/-
  The program's Count. No conditions but the row's own, and that it is short.
-/
import Derived.Test.YtmiljpfljnjkpaaJ3
namespace Go.Proofs.Ytmiljpfljnjkpaa
open Go.RowKit
set_option linter.unusedVariables false
/-- Eight numbers, one a kind, as a value. -/
def cnv (f : Nat → Stp) (n : Nat) : Value := .agg #[.int .i64 (cn f n 0), .int .i64 (cn f n 1), .int .i64 (cn f n 2), .int .i64 (cn f n 3), .int .i64 (cn f n 4), .int .i64 (cn f n 5), .int .i64 (cn f n 6), .int .i64 (cn f n 7)]
theorem Cells.fresh8 (w : World) (t : TypeId) : Cells (w.alloc (.cells #[.int .i64 0, .int .i64 0, .int .i64 0, .int .i64 0, .int .i64 0, .int .i64 0, .int .i64 0, .int .i64 0] t)) w.heap.size 8 (fun _ => 0) := by
  refine ⟨fun i hi => ?_, fun i hi => ?_, fun _ => by simp⟩
  · rcases (by omega : i = 0 ∨ i = 1 ∨ i = 2 ∨ i = 3 ∨ i = 4 ∨ i = 5 ∨ i = 6 ∨ i = 7) with rfl | rfl | rfl | rfl | rfl | rfl | rfl | rfl <;> simp [go_sem]
  · rcases (by omega : i = 0 ∨ i = 1 ∨ i = 2 ∨ i = 3 ∨ i = 4 ∨ i = 5 ∨ i = 6 ∨ i = 7) with rfl | rfl | rfl | rfl | rfl | rfl | rfl | rfl <;> simp [go_sem]
theorem Cells.outs8 {w : World} {b : Nat} {f : Nat → Int} (R : Cells w b 8 f) (x0 x1 x2 x3 x4 x5 x6 x7 : Int) :
    (w.setCell ⟨b, 0, none⟩ (.int .i64 x0)).cell? ⟨b, 0, none⟩ = some (.int .i64 x0) ∧
    ((w.setCell ⟨b, 0, none⟩ (.int .i64 x0)).setCell ⟨b, 1, none⟩ (.int .i64 x1)).cell? ⟨b, 1, none⟩ = some (.int .i64 x1) ∧
    (((w.setCell ⟨b, 0, none⟩ (.int .i64 x0)).setCell ⟨b, 1, none⟩ (.int .i64 x1)).setCell ⟨b, 2, none⟩ (.int .i64 x2)).cell? ⟨b, 2, none⟩ = some (.int .i64 x2) ∧
    ((((w.setCell ⟨b, 0, none⟩ (.int .i64 x0)).setCell ⟨b, 1, none⟩ (.int .i64 x1)).setCell ⟨b, 2, none⟩ (.int .i64 x2)).setCell ⟨b, 3, none⟩ (.int .i64 x3)).cell? ⟨b, 3, none⟩ = some (.int .i64 x3) ∧
    (((((w.setCell ⟨b, 0, none⟩ (.int .i64 x0)).setCell ⟨b, 1, none⟩ (.int .i64 x1)).setCell ⟨b, 2, none⟩ (.int .i64 x2)).setCell ⟨b, 3, none⟩ (.int .i64 x3)).setCell ⟨b, 4, none⟩ (.int .i64 x4)).cell? ⟨b, 4, none⟩ = some (.int .i64 x4) ∧
    ((((((w.setCell ⟨b, 0, none⟩ (.int .i64 x0)).setCell ⟨b, 1, none⟩ (.int .i64 x1)).setCell ⟨b, 2, none⟩ (.int .i64 x2)).setCell ⟨b, 3, none⟩ (.int .i64 x3)).setCell ⟨b, 4, none⟩ (.int .i64 x4)).setCell ⟨b, 5, none⟩ (.int .i64 x5)).cell? ⟨b, 5, none⟩ = some (.int .i64 x5) ∧
    (((((((w.setCell ⟨b, 0, none⟩ (.int .i64 x0)).setCell ⟨b, 1, none⟩ (.int .i64 x1)).setCell ⟨b, 2, none⟩ (.int .i64 x2)).setCell ⟨b, 3, none⟩ (.int .i64 x3)).setCell ⟨b, 4, none⟩ (.int .i64 x4)).setCell ⟨b, 5, none⟩ (.int .i64 x5)).setCell ⟨b, 6, none⟩ (.int .i64 x6)).cell? ⟨b, 6, none⟩ = some (.int .i64 x6) ∧
    ((((((((w.setCell ⟨b, 0, none⟩ (.int .i64 x0)).setCell ⟨b, 1, none⟩ (.int .i64 x1)).setCell ⟨b, 2, none⟩ (.int .i64 x2)).setCell ⟨b, 3, none⟩ (.int .i64 x3)).setCell ⟨b, 4, none⟩ (.int .i64 x4)).setCell ⟨b, 5, none⟩ (.int .i64 x5)).setCell ⟨b, 6, none⟩ (.int .i64 x6)).setCell ⟨b, 7, none⟩ (.int .i64 x7)).cell? ⟨b, 7, none⟩ = some (.int .i64 x7) :=
  ⟨(R.put (j := 0) (by decide) x0).cell 0 (by decide),
   ((R.put (j := 0) (by decide) x0).put (j := 1) (by decide) x1).cell 1 (by decide),
   (((R.put (j := 0) (by decide) x0).put (j := 1) (by decide) x1).put (j := 2) (by decide) x2).cell 2 (by decide),
   ((((R.put (j := 0) (by decide) x0).put (j := 1) (by decide) x1).put (j := 2) (by decide) x2).put (j := 3) (by decide) x3).cell 3 (by decide),
   (((((R.put (j := 0) (by decide) x0).put (j := 1) (by decide) x1).put (j := 2) (by decide) x2).put (j := 3) (by decide) x3).put (j := 4) (by decide) x4).cell 4 (by decide),
   ((((((R.put (j := 0) (by decide) x0).put (j := 1) (by decide) x1).put (j := 2) (by decide) x2).put (j := 3) (by decide) x3).put (j := 4) (by decide) x4).put (j := 5) (by decide) x5).cell 5 (by decide),
   (((((((R.put (j := 0) (by decide) x0).put (j := 1) (by decide) x1).put (j := 2) (by decide) x2).put (j := 3) (by decide) x3).put (j := 4) (by decide) x4).put (j := 5) (by decide) x5).put (j := 6) (by decide) x6).cell 6 (by decide),
   ((((((((R.put (j := 0) (by decide) x0).put (j := 1) (by decide) x1).put (j := 2) (by decide) x2).put (j := 3) (by decide) x3).put (j := 4) (by decide) x4).put (j := 5) (by decide) x5).put (j := 6) (by decide) x6).put (j := 7) (by decide) x7).cell 7 (by decide)⟩
/-- One more of a kind, in its cell. -/
theorem Cells.hit {w : World} {b i : Nat} {f : Nat → Stp} (C : Cells w b 8 (fun j => cn f i j)) (j : Nat) (hj : j < 8) (hk : (f i).k = j) : Cells (w.setCell ⟨b, j, none⟩ (.int .i64 (cn f i j + 1))) b 8 (fun j => cn f (i + 1) j) := by
  have D := C.put hj (cn f i j + 1)
  refine ⟨fun l hl => ?_, D.froz, D.lt⟩
  rw [D.cell l hl]
  show some (Value.int .i64 (if l = j then cn f i j + 1 else cn f i l)) = some (Value.int .i64 (if (f i).k = l then cn f i l + 1 else cn f i l))
  by_cases e : l = j
  · subst e; rw [if_pos rfl, if_pos hk]
  · rw [if_neg e, if_neg (by omega)]
theorem Cells.miss {w : World} {b i : Nat} {f : Nat → Stp} (C : Cells w b 8 (fun j => cn f i j)) (hk : wi (f i).k 0 7 = false) : Cells w b 8 (fun j => cn f (i + 1) j) := by
  have hk := wi_not.1 hk
  refine ⟨fun l hl => ?_, C.froz, C.lt⟩
  rw [C.cell l hl]
  show some (Value.int .i64 (cn f i l)) = some (Value.int .i64 (if (f i).k = l then cn f i l + 1 else cn f i l))
  rw [if_neg (by omega)]
set_option maxHeartbeats 2000000 in
set_option maxRecDepth 100000 in
theorem count_any (ao : Option Addr) (n c : Nat) (f : Nat → Stp) (hn : n ≤ 10000) (w : World) (E : Ops w ao n c f) :
    Calls Try.prog 19 #[.slice ao n c] w fun e w' => e = .returned (cnv f n) ∧ Below w.heap.size w w' := by
  have hcap := E.cap
  have hmax := E.max
  have hmx : maxLen = 9223372036854775807 := rfl
  go_enter Try.func19, Try.ntmps19
  go_wp2_with fail
  go_loopw [8] (fun v8 wr => ∃ i : Nat, i ≤ n ∧ v8 = .int .i64 i ∧ Cells wr w.heap.size 8 (fun _ => 0) ∧ Cells wr (w.heap.size + 1) 8 (fun j => cn f i j) ∧ Below w.heap.size w wr) (fun v8 _ => n - (intOf v8).toNat)
  case atStart =>
    exact ⟨0, Nat.zero_le _, rfl, (Cells.fresh8 w _).alloc _, by have := Cells.fresh8 (w.alloc (.cells #[.int .i64 0, .int .i64 0, .int .i64 0, .int .i64 0, .int .i64 0, .int .i64 0, .int .i64 0, .int .i64 0] 33)) 33; simp only [World.size_alloc] at this; exact this, by go_grown⟩
  case round =>
    obtain ⟨i, hi, rfl, R, C, hB⟩ := hrel
    have hsz := C.lt (by omega)
    have hrz := R.lt (by omega)
    by_cases hin : i < n
    · have hin2 : (i : Int) < n := by omega
      obtain ⟨b, o, rfl, hbl, hc⟩ := (E.below hB).at' (by omega)
      obtain ⟨a0, a1, a2⟩ := hc i hin
      clear hc E
      have C1 := C.alloc (.cells #[.int .i64 (f i).k, .int .i64 (f i).h, .int .i64 (f i).v] 24)
      have R1 := R.alloc (.cells #[.int .i64 (f i).k, .int .i64 (f i).h, .int .i64 (f i).v] 24)
      cases hk : wi (f i).k 0 7
      · have KI := isKind_any (f i).k false hk
        have C2 := C1.miss hk
        clear hk C1 C
        generalize (f i).k = k at *
        generalize (f i).h = h at *
        generalize (f i).v = u at *
        go_wp2_with fail
        refine (KI _).mono ?_
        rintro e w2 ⟨rfl, hw2⟩
        subst w2
        go_wp2_with fail
        go_roundw
        case rel => exact ⟨i + 1, by omega, by go_num, R1, C2, by go_grown⟩
        case measure => simp [intOf]; omega
      · have KI := isKind_any (f i).k true hk
        have hk2 := wi_iff.1 hk
        obtain ⟨j, hj⟩ : ∃ j : Nat, (f i).k = j := ⟨(f i).k.toNat, by omega⟩
        have C2 := (C.hit j (by omega) hj).alloc (.cells #[.int .i64 (f i).k, .int .i64 (f i).h, .int .i64 (f i).v] 24)
        have R2 := (R.other (a := ⟨(w.heap.size + 1), j, none⟩) (by simp) (.int .i64 (cn f i j + 1))).alloc (.cells #[.int .i64 (f i).k, .int .i64 (f i).h, .int .i64 (f i).v] 24)
        have d0 := C1.cell j (by omega)
        have f0 := C1.froz j (by omega)
        have hb := cn_rg f i j
        have hj8 : (j : Int) < 8 := by omega
        have hj0 : 0 ≤ (j : Int) := by omega
        clear hk C1 C hk2
        generalize (f i).k = k at *
        generalize (f i).h = h at *
        generalize (f i).v = u at *
        subst hj
        generalize cn f i j = x at *
        go_wp2_with fail
        refine (KI _).mono ?_
        rintro e w2 ⟨rfl, hw2⟩
        subst w2
        go_wp2_with fail
        go_roundw
        case rel => exact ⟨i + 1, by omega, by go_num, R2, C2, by go_grown⟩
        case measure => simp [intOf]; omega
    · obtain rfl : i = n := by omega
      have c0 : _ = some (Value.int .i64 (cn f i 0)) := C.cell 0 (by omega)
      have c1 : _ = some (Value.int .i64 (cn f i 1)) := C.cell 1 (by omega)
      have c2 : _ = some (Value.int .i64 (cn f i 2)) := C.cell 2 (by omega)
      have c3 : _ = some (Value.int .i64 (cn f i 3)) := C.cell 3 (by omega)
      have c4 : _ = some (Value.int .i64 (cn f i 4)) := C.cell 4 (by omega)
      have c5 : _ = some (Value.int .i64 (cn f i 5)) := C.cell 5 (by omega)
      have c6 : _ = some (Value.int .i64 (cn f i 6)) := C.cell 6 (by omega)
      have c7 : _ = some (Value.int .i64 (cn f i 7)) := C.cell 7 (by omega)
      have d0 := R.cell 0 (by omega)
      have e0 := R.froz 0 (by omega)
      have d1 := R.cell 1 (by omega)
      have e1 := R.froz 1 (by omega)
      have d2 := R.cell 2 (by omega)
      have e2 := R.froz 2 (by omega)
      have d3 := R.cell 3 (by omega)
      have e3 := R.froz 3 (by omega)
      have d4 := R.cell 4 (by omega)
      have e4 := R.froz 4 (by omega)
      have d5 := R.cell 5 (by omega)
      have e5 := R.froz 5 (by omega)
      have d6 := R.cell 6 (by omega)
      have e6 := R.froz 6 (by omega)
      have d7 := R.cell 7 (by omega)
      have e7 := R.froz 7 (by omega)
      have EV : Hid (cnv f i = .agg #[.int .i64 (cn f i 0), .int .i64 (cn f i 1), .int .i64 (cn f i 2), .int .i64 (cn f i 3), .int .i64 (cn f i 4), .int .i64 (cn f i 5), .int .i64 (cn f i 6), .int .i64 (cn f i 7)]) := rfl
      generalize cn f i 0 = x0 at *
      generalize cn f i 1 = x1 at *
      generalize cn f i 2 = x2 at *
      generalize cn f i 3 = x3 at *
      generalize cn f i 4 = x4 at *
      generalize cn f i 5 = x5 at *
      generalize cn f i 6 = x6 at *
      generalize cn f i 7 = x7 at *
      obtain ⟨r0, r1, r2, r3, r4, r5, r6, r7⟩ := R.outs8 x0 x1 x2 x3 x4 x5 x6 x7
      clear R C E
      go_wp2_with (exact bodyPost_ret (v := .agg #[.int .i64 x0, .int .i64 x1, .int .i64 x2, .int .i64 x3, .int .i64 x4, .int .i64 x5, .int .i64 x6, .int .i64 x7]) (by simp [results, Try.results19, go_sem, r0, r1, r2, r3, r4, r5, r6, r7]) rfl ⟨by rw [EV.out], by go_grown⟩)
end Go.Proofs.Ytmiljpfljnjkpaa
