/-
  The reference's sums, differences and comparison, bit by bit, are those of the numbers. No conditions but the numbers' own ranges.
-/
import Derived.Test.YtopmfjjiakmleaaB2
import Derived.Deep.RegionWith
namespace Go.Proofs.Ytopmfjjiakmleaa
open Go.RowKit
set_option linter.unusedVariables false

theorem Later.frozen {W : World} (x : Later W) (b o : Nat) (h : b < W.heap.size) : x.1.frozen? ⟨b, o, none⟩ = W.frozen? ⟨b, o, none⟩ := x.2.frozen (p := ⟨b, o, none⟩) h
/-- A region that draws its order, whose operations only read and whose callees make blocks of their own at most: one walk in the order of the text. -/
theorem wp_region_later {P : Program} {id : Nat} {Q : Exit → Act → World → Prop} {a : Act} {w : World} {l : List Oper} (hm : P.follows .mixedOrders = true) (hB : Region.lexB .any l.toArray = true)
    (h : wpQuiet P l.toArray (fun w' => ∃ x : Later w, w' = x.1) (fun a' => ∀ w', (∃ x : Later w, w' = x.1) → Q .normal a' w') l a) : (Code.region id l.toArray true).wp P Q a w :=
  wp_region_quiet (C := fun w' => ∃ x : Later w, w' = x.1) hm hB (Later.first w) (by simpa using h)
attribute [local go_sem] Later.cell Later.frozen

theorem Later.ne (W : World) : Nonempty (Later W) := ⟨⟨W, Below.refl _ _⟩⟩
/-- Two cells of a block of one's own. -/
structure At2 (w : World) (b : Nat) (x y : Value) : Prop where
  c0 : w.cell? ⟨b, 0, none⟩ = some x
  c1 : w.cell? ⟨b, 1, none⟩ = some y
  f0 : w.frozen? ⟨b, 0, none⟩ = false
  f1 : w.frozen? ⟨b, 1, none⟩ = false
  lt : b < w.heap.size
theorem At2.below {w w1 : World} {b B : Nat} {x y : Value} (h : At2 w b x y) (hb : Below B w w1) (hB : b < B) : At2 w1 b x y :=
  ⟨(hb.cell (p := ⟨b, 0, none⟩) hB).trans h.c0, (hb.cell (p := ⟨b, 1, none⟩) hB).trans h.c1, (hb.frozen (p := ⟨b, 0, none⟩) hB).trans h.f0, (hb.frozen (p := ⟨b, 1, none⟩) hB).trans h.f1, Nat.lt_of_lt_of_le h.lt hb.size⟩
theorem At2.later {w : World} {b : Nat} {x y : Value} (h : At2 w b x y) (v : Later w) : At2 v.1 b x y := h.below v.2 h.lt
theorem At2.drew {w : World} {b : Nat} {x y : Value} (h : At2 w b x y) : At2 w.drew b x y := ⟨h.c0, h.c1, h.f0, h.f1, h.lt⟩
theorem At2.other {w : World} {b : Nat} {x y : Value} (h : At2 w b x y) {a : Addr} (hb : a.block ≠ b) (v : Value) : At2 (w.setCell a v) b x y :=
  ⟨(World.cell?_setCell_other w a ⟨b, 0, none⟩ v (fun e => hb (by rw [e]))).trans h.c0, (World.cell?_setCell_other w a ⟨b, 1, none⟩ v (fun e => hb (by rw [e]))).trans h.c1,
    (World.frozen?_setCell _ _ _ _).trans h.f0, (World.frozen?_setCell _ _ _ _).trans h.f1, by rw [World.size_setCell]; exact h.lt⟩
theorem At2.put0 {w : World} {b : Nat} {x y : Value} (h : At2 w b x y) (v : Value) : At2 (w.setCell ⟨b, 0, none⟩ v) b v y :=
  ⟨World.cell?_setCell_same w _ v h.c0, (World.cell?_setCell_other w _ ⟨b, 1, none⟩ v (by simp)).trans h.c1,
    (World.frozen?_setCell _ _ _ _).trans h.f0, (World.frozen?_setCell _ _ _ _).trans h.f1, by rw [World.size_setCell]; exact h.lt⟩
theorem At2.put1 {w : World} {b : Nat} {x y : Value} (h : At2 w b x y) (v : Value) : At2 (w.setCell ⟨b, 1, none⟩ v) b x v :=
  ⟨(World.cell?_setCell_other w _ ⟨b, 0, none⟩ v (by simp)).trans h.c0, World.cell?_setCell_same w _ v h.c1,
    (World.frozen?_setCell _ _ _ _).trans h.f0, (World.frozen?_setCell _ _ _ _).trans h.f1, by rw [World.size_setCell]; exact h.lt⟩
theorem At2.put {w : World} {b : Nat} {x y : Value} (h : At2 w b x y) (u v : Value) : At2 ((w.setCell ⟨b, 0, none⟩ u).setCell ⟨b, 1, none⟩ v) b u v := (h.put0 u).put1 v
theorem At2.others {w : World} {b : Nat} {x y : Value} (h : At2 w b x y) {c : Nat} (hc : c ≠ b) (u v : Value) : At2 ((w.setCell ⟨c, 0, none⟩ u).setCell ⟨c, 1, none⟩ v) b x y := (h.other hc u).other hc v

set_option maxHeartbeats 400000 in
set_option maxRecDepth 100000 in
theorem refAdd_any (a b : Int) (ha : W128 a) (hb : W128 b) (w : World) :
    Calls Try.prog 10 #[.agg #[.int .u64 (hiw a), .int .u64 (low a)], .agg #[.int .u64 (hiw b), .int .u64 (low b)]] w fun e w' => e = .returned (.tuple #[.agg #[.int .u64 (hiw (addv a b)), .int .u64 (low (addv a b))], .int .u64 (addc a b)]) ∧ Below w.heap.size w w' := by
  go_enter Try.func10, Try.ntmps10
  go_wp2
  go_loopw [7, 8] (fun c i wr => ∃ k : Nat, ∃ o cv : Int, k ≤ 128 ∧ i = .int .i64 k ∧ c = .int .u64 cv ∧ 0 ≤ cv ∧ cv ≤ 1 ∧ Hid (AddAt a b k o cv) ∧
      At2 wr w.heap.size (.int .u64 (hiw a)) (.int .u64 (low a)) ∧ At2 wr (w.heap.size + 1) (.int .u64 (hiw b)) (.int .u64 (low b)) ∧ At2 wr (w.heap.size + 1 + 1) (.int .u64 0) (.int .u64 0) ∧
      At2 wr (w.heap.size + 1 + 1 + 1) (.int .u64 (hiw o)) (.int .u64 (low o)) ∧ Below w.heap.size w wr)
    (fun _ i _ => 128 - (intOf i).toNat)
  case atStart =>
    refine ⟨0, 0, 0, by omega, rfl, rfl, by omega, by omega, AddAt.zero a b, ?_, ?_, ?_, ?_, by go_grown⟩ <;> (constructor <;> simp [go_sem, hiw, low])
  case round =>
    obtain ⟨k, o, cv, hk, rfl, rfl, c0, c1, HA, A0, A1, A2, A3, hbel⟩ := hrel
    obtain ⟨x0, x1, x2, x3, x4⟩ := id A0
    obtain ⟨y0, y1, y2, y3, y4⟩ := id A1
    obtain ⟨z0, z1, z2, z3, z4⟩ := id A2
    obtain ⟨u0, u1, u2, u3, u4⟩ := id A3
    obtain ⟨ba0, ba1⟩ := bitv_01 a k
    obtain ⟨bb0, bb1⟩ := bitv_01 b k
    have hne : Nonempty (Later wr) := Later.ne wr
    by_cases hlt : k < 128
    · go_wp2
      refine wp_region_later (by kernel_rfl) (by kernel_rfl) ?_
      repeat (go_big_quiet_step (first | (go_at_call_of 29 (hiw a); refine Later.call _ (bit_any a _ ha ?_ ?_ _) <;> omega) | (go_at_call_of 29 (hiw b); refine Later.call _ (bit_any b _ hb ?_ ?_ _) <;> omega)))
      refine wpQuiet_nil ?_
      rintro w1 ⟨⟨_, hw1⟩, rfl⟩
      have B0 := A0.below hw1 A0.lt
      have B1 := A1.below hw1 A1.lt
      have B2 := A2.below hw1 A2.lt
      have B3 := A3.below hw1 A3.lt
      have hbel1 := hbel.trans (hw1.mono hbel.size)
      clear x0 x1 x2 x3 x4 y0 y1 y2 y3 y4 z0 z1 z2 z3 z4 u0 u1 u2 u3 u4 A0 A1 A2 A3 hne
      obtain ⟨u0, u1, u2, u3, u4⟩ := id B3
      by_cases hn : (bitv a k + bitv b k + cv) % 2 = 1
      · have HA1 : Hid (AddAt a b ((k : Int) + 1) (o + p2 k) ((bitv a k + bitv b k + cv) / 2)) := (HA.out.step (by omega)).1 hn
        have hW : W128 o := by
          have := HA.out.o0; have := HA.out.o1; have := p2_le (show (0 : Int) ≤ k by omega) (show (k : Int) ≤ 128 by omega); rw [p2_128] at this; exact ⟨by omega, by omega⟩
        have hz : Hid (bitv o k = 0) := bit_below HA.out.o0 HA.out.o1
        go_wp2_with fail
        refine (set_any o k hW (by omega) (by omega) hz.out _).mono ?_
        rintro e w2 ⟨rfl, hw2⟩
        replace B0 := B0.below hw2 B0.lt
        replace B1 := B1.below hw2 B1.lt
        replace B2 := B2.below hw2 B2.lt
        replace B3 := B3.below hw2 B3.lt
        have hbel2 := hbel1.trans (hw2.mono hbel1.size)
        clear u0 u1 u2 u3 u4 hbel hbel1 hw1 hw2
        obtain ⟨u0, u1, u2, u3, u4⟩ := id B3
        go_wp2
        go_roundw
        case rel =>
          refine ⟨k + 1, o + p2 k, _, by omega, by go_num, rfl, by omega, by omega, HA1, B0.others (by omega) _ _, B1.others (by omega) _ _, B2.others (by omega) _ _, B3.put _ _, by go_grown⟩
        case measure => simp [intOf]; omega
      · go_wp2_with fail
        go_roundw
        case rel =>
          exact ⟨k + 1, o, _, by omega, by go_num, rfl, by omega, by omega, (HA.out.step (by omega)).2 hn, B0, B1, B2, B3, hbel1⟩
        case measure => simp [intOf]; omega
    · go_wp2
      obtain ⟨rfl, rfl⟩ := AddAt.done ha hb (by have e : (k : Int) = 128 := by omega
                                                rw [← e]; exact HA.out)
      have r0 := (A2.put0 (.int .u64 (hiw (addv a b)))).c0
      have r1 := (A2.put (.int .u64 (hiw (addv a b))) (.int .u64 (low (addv a b)))).c1
      exact bodyPost_ret (v := .tuple #[.agg #[.int .u64 (hiw (addv a b)), .int .u64 (low (addv a b))], .int .u64 (addc a b)]) (by simp [results, Try.results10, go_sem, r0, r1]) rfl ⟨rfl, by go_grown⟩
end Go.Proofs.Ytopmfjjiakmleaa
