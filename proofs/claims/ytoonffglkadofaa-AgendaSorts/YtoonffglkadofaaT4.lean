/-
  Four cells of a block of one's own. No program in this text. No conditions.
-/
import Derived.Test.YtoonffglkadofaaK
import Derived.Test.YtoonffglkadofaaT
namespace Go.Proofs.Ytoonffglkadofaa
open Go.RowKit
set_option linter.unusedVariables false
/-- Four cells of a block of one's own. -/
structure At4 (w : World) (b : Nat) (x0 x1 x2 x3 : Value) : Prop where
  c0 : w.cell? ⟨b, 0, none⟩ = some x0
  c1 : w.cell? ⟨b, 1, none⟩ = some x1
  c2 : w.cell? ⟨b, 2, none⟩ = some x2
  c3 : w.cell? ⟨b, 3, none⟩ = some x3
  f0 : w.frozen? ⟨b, 0, none⟩ = false
  f1 : w.frozen? ⟨b, 1, none⟩ = false
  f2 : w.frozen? ⟨b, 2, none⟩ = false
  f3 : w.frozen? ⟨b, 3, none⟩ = false
  lt : b < w.heap.size
theorem At4.below {w w1 : World} {b B : Nat} {x0 x1 x2 x3 : Value} (h : At4 w b x0 x1 x2 x3) (hb : Below B w w1) (hB : b < B) : At4 w1 b x0 x1 x2 x3 :=
  ⟨(hb.cell (p := ⟨b, 0, none⟩) hB).trans h.c0, (hb.cell (p := ⟨b, 1, none⟩) hB).trans h.c1, (hb.cell (p := ⟨b, 2, none⟩) hB).trans h.c2, (hb.cell (p := ⟨b, 3, none⟩) hB).trans h.c3, (hb.frozen (p := ⟨b, 0, none⟩) hB).trans h.f0, (hb.frozen (p := ⟨b, 1, none⟩) hB).trans h.f1, (hb.frozen (p := ⟨b, 2, none⟩) hB).trans h.f2, (hb.frozen (p := ⟨b, 3, none⟩) hB).trans h.f3, Nat.lt_of_lt_of_le h.lt hb.size⟩
theorem At4.later {w : World} {b : Nat} {x0 x1 x2 x3 : Value} (h : At4 w b x0 x1 x2 x3) (v : Later w) : At4 v.1 b x0 x1 x2 x3 := h.below v.2 h.lt
theorem At4.drew {w : World} {b : Nat} {x0 x1 x2 x3 : Value} (h : At4 w b x0 x1 x2 x3) : At4 w.drew b x0 x1 x2 x3 := ⟨h.c0, h.c1, h.c2, h.c3, h.f0, h.f1, h.f2, h.f3, h.lt⟩
theorem At4.drewN {w : World} {b : Nat} {x0 x1 x2 x3 : Value} (h : At4 w b x0 x1 x2 x3) (n : Nat) : At4 (w.drewN n) b x0 x1 x2 x3 := ⟨h.c0, h.c1, h.c2, h.c3, h.f0, h.f1, h.f2, h.f3, h.lt⟩
theorem At4.other {w : World} {b : Nat} {x0 x1 x2 x3 : Value} (h : At4 w b x0 x1 x2 x3) {a : Addr} (hb : a.block ≠ b) (v : Value) : At4 (w.setCell a v) b x0 x1 x2 x3 :=
  ⟨(World.cell?_setCell_other w a ⟨b, 0, none⟩ v (fun e => hb (by rw [e]))).trans h.c0, (World.cell?_setCell_other w a ⟨b, 1, none⟩ v (fun e => hb (by rw [e]))).trans h.c1, (World.cell?_setCell_other w a ⟨b, 2, none⟩ v (fun e => hb (by rw [e]))).trans h.c2, (World.cell?_setCell_other w a ⟨b, 3, none⟩ v (fun e => hb (by rw [e]))).trans h.c3, (World.frozen?_setCell _ _ _ _).trans h.f0, (World.frozen?_setCell _ _ _ _).trans h.f1, (World.frozen?_setCell _ _ _ _).trans h.f2, (World.frozen?_setCell _ _ _ _).trans h.f3, by rw [World.size_setCell]; exact h.lt⟩
theorem At4.put0 {w : World} {b : Nat} {x0 x1 x2 x3 : Value} (h : At4 w b x0 x1 x2 x3) (v : Value) : At4 (w.setCell ⟨b, 0, none⟩ v) b v x1 x2 x3 :=
  ⟨World.cell?_setCell_same w _ v h.c0, (World.cell?_setCell_other w _ ⟨b, 1, none⟩ v (by simp)).trans h.c1, (World.cell?_setCell_other w _ ⟨b, 2, none⟩ v (by simp)).trans h.c2, (World.cell?_setCell_other w _ ⟨b, 3, none⟩ v (by simp)).trans h.c3, (World.frozen?_setCell _ _ _ _).trans h.f0, (World.frozen?_setCell _ _ _ _).trans h.f1, (World.frozen?_setCell _ _ _ _).trans h.f2, (World.frozen?_setCell _ _ _ _).trans h.f3, by rw [World.size_setCell]; exact h.lt⟩
theorem At4.put1 {w : World} {b : Nat} {x0 x1 x2 x3 : Value} (h : At4 w b x0 x1 x2 x3) (v : Value) : At4 (w.setCell ⟨b, 1, none⟩ v) b x0 v x2 x3 :=
  ⟨(World.cell?_setCell_other w _ ⟨b, 0, none⟩ v (by simp)).trans h.c0, World.cell?_setCell_same w _ v h.c1, (World.cell?_setCell_other w _ ⟨b, 2, none⟩ v (by simp)).trans h.c2, (World.cell?_setCell_other w _ ⟨b, 3, none⟩ v (by simp)).trans h.c3, (World.frozen?_setCell _ _ _ _).trans h.f0, (World.frozen?_setCell _ _ _ _).trans h.f1, (World.frozen?_setCell _ _ _ _).trans h.f2, (World.frozen?_setCell _ _ _ _).trans h.f3, by rw [World.size_setCell]; exact h.lt⟩
theorem At4.put2 {w : World} {b : Nat} {x0 x1 x2 x3 : Value} (h : At4 w b x0 x1 x2 x3) (v : Value) : At4 (w.setCell ⟨b, 2, none⟩ v) b x0 x1 v x3 :=
  ⟨(World.cell?_setCell_other w _ ⟨b, 0, none⟩ v (by simp)).trans h.c0, (World.cell?_setCell_other w _ ⟨b, 1, none⟩ v (by simp)).trans h.c1, World.cell?_setCell_same w _ v h.c2, (World.cell?_setCell_other w _ ⟨b, 3, none⟩ v (by simp)).trans h.c3, (World.frozen?_setCell _ _ _ _).trans h.f0, (World.frozen?_setCell _ _ _ _).trans h.f1, (World.frozen?_setCell _ _ _ _).trans h.f2, (World.frozen?_setCell _ _ _ _).trans h.f3, by rw [World.size_setCell]; exact h.lt⟩
theorem At4.put3 {w : World} {b : Nat} {x0 x1 x2 x3 : Value} (h : At4 w b x0 x1 x2 x3) (v : Value) : At4 (w.setCell ⟨b, 3, none⟩ v) b x0 x1 x2 v :=
  ⟨(World.cell?_setCell_other w _ ⟨b, 0, none⟩ v (by simp)).trans h.c0, (World.cell?_setCell_other w _ ⟨b, 1, none⟩ v (by simp)).trans h.c1, (World.cell?_setCell_other w _ ⟨b, 2, none⟩ v (by simp)).trans h.c2, World.cell?_setCell_same w _ v h.c3, (World.frozen?_setCell _ _ _ _).trans h.f0, (World.frozen?_setCell _ _ _ _).trans h.f1, (World.frozen?_setCell _ _ _ _).trans h.f2, (World.frozen?_setCell _ _ _ _).trans h.f3, by rw [World.size_setCell]; exact h.lt⟩
theorem At4.put {w : World} {b : Nat} {x0 x1 x2 x3 : Value} (h : At4 w b x0 x1 x2 x3) (y0 y1 y2 y3 : Value) : At4 ((((w.setCell ⟨b, 0, none⟩ y0).setCell ⟨b, 1, none⟩ y1).setCell ⟨b, 2, none⟩ y2).setCell ⟨b, 3, none⟩ y3) b y0 y1 y2 y3 := ((((h.put0 y0).put1 y1).put2 y2).put3 y3)
theorem At4.others {w : World} {b : Nat} {x0 x1 x2 x3 : Value} (h : At4 w b x0 x1 x2 x3) {c : Nat} (hc : c ≠ b) (y0 y1 y2 y3 : Value) : At4 ((((w.setCell ⟨c, 0, none⟩ y0).setCell ⟨c, 1, none⟩ y1).setCell ⟨c, 2, none⟩ y2).setCell ⟨c, 3, none⟩ y3) b x0 x1 x2 x3 := ((((h.other hc y0).other hc y1).other hc y2).other hc y3)
theorem At4.alloc {w : World} {b : Nat} {x0 x1 x2 x3 : Value} (h : At4 w b x0 x1 x2 x3) (o : Obj) : At4 (w.alloc o) b x0 x1 x2 x3 :=
  h.below (B := w.heap.size) ((Below.refl _ _).alloc (Nat.le_refl _) o) h.lt
theorem At4.fresh (w : World) (x0 x1 x2 x3 : Value) (t : TypeId) : At4 (w.alloc (.cells #[x0, x1, x2, x3] t)) w.heap.size x0 x1 x2 x3 := by
  constructor <;> simp [go_sem]
theorem At4.of {w w1 : World} {b : Nat} {x0 x1 x2 x3 : Value} (hb : Below w.heap.size w w1) (h : At4 w b x0 x1 x2 x3) : At4 w1 b x0 x1 x2 x3 := h.below hb h.lt
theorem At4.outs {w : World} {b : Nat} {x0 x1 x2 x3 : Value} (h : At4 w b x0 x1 x2 x3) (y0 y1 y2 y3 : Value) :
    (w.setCell ⟨b, 0, none⟩ y0).cell? ⟨b, 0, none⟩ = some y0 ∧
    ((w.setCell ⟨b, 0, none⟩ y0).setCell ⟨b, 1, none⟩ y1).cell? ⟨b, 1, none⟩ = some y1 ∧
    (((w.setCell ⟨b, 0, none⟩ y0).setCell ⟨b, 1, none⟩ y1).setCell ⟨b, 2, none⟩ y2).cell? ⟨b, 2, none⟩ = some y2 ∧
    ((((w.setCell ⟨b, 0, none⟩ y0).setCell ⟨b, 1, none⟩ y1).setCell ⟨b, 2, none⟩ y2).setCell ⟨b, 3, none⟩ y3).cell? ⟨b, 3, none⟩ = some y3 :=
  ⟨(h.put0 y0).c0, ((h.put0 y0).put1 y1).c1, (((h.put0 y0).put1 y1).put2 y2).c2, ((((h.put0 y0).put1 y1).put2 y2).put3 y3).c3⟩
theorem At2.of {w w1 : World} {b : Nat} {x y : Value} (hb : Below w.heap.size w w1) (h : At2 w b x y) : At2 w1 b x y := h.below hb h.lt
theorem At2.drewN {w : World} {b : Nat} {x y : Value} (h : At2 w b x y) (n : Nat) : At2 (w.drewN n) b x y := ⟨h.c0, h.c1, h.f0, h.f1, h.lt⟩
theorem At2.outs {w : World} {b : Nat} {x y : Value} (h : At2 w b x y) (u v : Value) : (w.setCell ⟨b, 0, none⟩ u).cell? ⟨b, 0, none⟩ = some u ∧ ((w.setCell ⟨b, 0, none⟩ u).setCell ⟨b, 1, none⟩ v).cell? ⟨b, 1, none⟩ = some v := ⟨(h.put0 u).c0, ((h.put0 u).put1 v).c1⟩
theorem At4.other5 {w : World} {b : Nat} {x0 x1 x2 x3 : Value} (h : At4 w b x0 x1 x2 x3) {c : Nat} (hc : c ≠ b) (y0 y1 y2 y3 y4 : Value) : At4 (((((w.setCell ⟨c, 0, none⟩ y0).setCell ⟨c, 1, none⟩ y1).setCell ⟨c, 2, none⟩ y2).setCell ⟨c, 3, none⟩ y3).setCell ⟨c, 4, none⟩ y4) b x0 x1 x2 x3 := ((((h.other hc y0).other hc y1).other hc y2).other hc y3).other hc y4
theorem At2.other5 {w : World} {b : Nat} {x0 x1 : Value} (h : At2 w b x0 x1) {c : Nat} (hc : c ≠ b) (y0 y1 y2 y3 y4 : Value) : At2 (((((w.setCell ⟨c, 0, none⟩ y0).setCell ⟨c, 1, none⟩ y1).setCell ⟨c, 2, none⟩ y2).setCell ⟨c, 3, none⟩ y3).setCell ⟨c, 4, none⟩ y4) b x0 x1 := ((((h.other hc y0).other hc y1).other hc y2).other hc y3).other hc y4
theorem At5.other4 {w : World} {b : Nat} {x0 x1 x2 x3 x4 : Value} (h : At5 w b x0 x1 x2 x3 x4) {c : Nat} (hc : c ≠ b) (y0 y1 y2 y3 : Value) : At5 ((((w.setCell ⟨c, 0, none⟩ y0).setCell ⟨c, 1, none⟩ y1).setCell ⟨c, 2, none⟩ y2).setCell ⟨c, 3, none⟩ y3) b x0 x1 x2 x3 x4 := (((h.other hc y0).other hc y1).other hc y2).other hc y3
theorem At5.other2 {w : World} {b : Nat} {x0 x1 x2 x3 x4 : Value} (h : At5 w b x0 x1 x2 x3 x4) {c : Nat} (hc : c ≠ b) (y0 y1 : Value) : At5 ((w.setCell ⟨c, 0, none⟩ y0).setCell ⟨c, 1, none⟩ y1) b x0 x1 x2 x3 x4 := (h.other hc y0).other hc y1
end Go.Proofs.Ytoonffglkadofaa
