/-
  What the walks of sources lean on: five cells of a block of one's own; a row of numbers in memory. No program in this text. No conditions.
-/
import Derived.Test.YtoonffglkadofaaK
import Derived.Laws.OwnMore
import Derived.Laws.AppendOwnNone
import Derived.ChangeSlices
import Derived.OpenShut
namespace Go.Proofs.Ytoonffglkadofaa
open Go.RowKit
set_option linter.unusedVariables false

/-- Five cells of a block of one's own. -/
structure At5 (w : World) (b : Nat) (x0 x1 x2 x3 x4 : Value) : Prop where
  c0 : w.cell? ⟨b, 0, none⟩ = some x0
  c1 : w.cell? ⟨b, 1, none⟩ = some x1
  c2 : w.cell? ⟨b, 2, none⟩ = some x2
  c3 : w.cell? ⟨b, 3, none⟩ = some x3
  c4 : w.cell? ⟨b, 4, none⟩ = some x4
  f0 : w.frozen? ⟨b, 0, none⟩ = false
  f1 : w.frozen? ⟨b, 1, none⟩ = false
  f2 : w.frozen? ⟨b, 2, none⟩ = false
  f3 : w.frozen? ⟨b, 3, none⟩ = false
  f4 : w.frozen? ⟨b, 4, none⟩ = false
  lt : b < w.heap.size
theorem At5.below {w w1 : World} {b B : Nat} {x0 x1 x2 x3 x4 : Value} (h : At5 w b x0 x1 x2 x3 x4) (hb : Below B w w1) (hB : b < B) : At5 w1 b x0 x1 x2 x3 x4 :=
  ⟨(hb.cell (p := ⟨b, 0, none⟩) hB).trans h.c0, (hb.cell (p := ⟨b, 1, none⟩) hB).trans h.c1, (hb.cell (p := ⟨b, 2, none⟩) hB).trans h.c2, (hb.cell (p := ⟨b, 3, none⟩) hB).trans h.c3, (hb.cell (p := ⟨b, 4, none⟩) hB).trans h.c4, (hb.frozen (p := ⟨b, 0, none⟩) hB).trans h.f0, (hb.frozen (p := ⟨b, 1, none⟩) hB).trans h.f1, (hb.frozen (p := ⟨b, 2, none⟩) hB).trans h.f2, (hb.frozen (p := ⟨b, 3, none⟩) hB).trans h.f3, (hb.frozen (p := ⟨b, 4, none⟩) hB).trans h.f4, Nat.lt_of_lt_of_le h.lt hb.size⟩
theorem At5.later {w : World} {b : Nat} {x0 x1 x2 x3 x4 : Value} (h : At5 w b x0 x1 x2 x3 x4) (v : Later w) : At5 v.1 b x0 x1 x2 x3 x4 := h.below v.2 h.lt
theorem At5.drew {w : World} {b : Nat} {x0 x1 x2 x3 x4 : Value} (h : At5 w b x0 x1 x2 x3 x4) : At5 w.drew b x0 x1 x2 x3 x4 := ⟨h.c0, h.c1, h.c2, h.c3, h.c4, h.f0, h.f1, h.f2, h.f3, h.f4, h.lt⟩
theorem At5.other {w : World} {b : Nat} {x0 x1 x2 x3 x4 : Value} (h : At5 w b x0 x1 x2 x3 x4) {a : Addr} (hb : a.block ≠ b) (v : Value) : At5 (w.setCell a v) b x0 x1 x2 x3 x4 :=
  ⟨(World.cell?_setCell_other w a ⟨b, 0, none⟩ v (fun e => hb (by rw [e]))).trans h.c0, (World.cell?_setCell_other w a ⟨b, 1, none⟩ v (fun e => hb (by rw [e]))).trans h.c1, (World.cell?_setCell_other w a ⟨b, 2, none⟩ v (fun e => hb (by rw [e]))).trans h.c2, (World.cell?_setCell_other w a ⟨b, 3, none⟩ v (fun e => hb (by rw [e]))).trans h.c3, (World.cell?_setCell_other w a ⟨b, 4, none⟩ v (fun e => hb (by rw [e]))).trans h.c4, (World.frozen?_setCell _ _ _ _).trans h.f0, (World.frozen?_setCell _ _ _ _).trans h.f1, (World.frozen?_setCell _ _ _ _).trans h.f2, (World.frozen?_setCell _ _ _ _).trans h.f3, (World.frozen?_setCell _ _ _ _).trans h.f4, by rw [World.size_setCell]; exact h.lt⟩
theorem At5.put0 {w : World} {b : Nat} {x0 x1 x2 x3 x4 : Value} (h : At5 w b x0 x1 x2 x3 x4) (v : Value) : At5 (w.setCell ⟨b, 0, none⟩ v) b v x1 x2 x3 x4 :=
  ⟨World.cell?_setCell_same w _ v h.c0, (World.cell?_setCell_other w _ ⟨b, 1, none⟩ v (by simp)).trans h.c1, (World.cell?_setCell_other w _ ⟨b, 2, none⟩ v (by simp)).trans h.c2, (World.cell?_setCell_other w _ ⟨b, 3, none⟩ v (by simp)).trans h.c3, (World.cell?_setCell_other w _ ⟨b, 4, none⟩ v (by simp)).trans h.c4, (World.frozen?_setCell _ _ _ _).trans h.f0, (World.frozen?_setCell _ _ _ _).trans h.f1, (World.frozen?_setCell _ _ _ _).trans h.f2, (World.frozen?_setCell _ _ _ _).trans h.f3, (World.frozen?_setCell _ _ _ _).trans h.f4, by rw [World.size_setCell]; exact h.lt⟩
theorem At5.put1 {w : World} {b : Nat} {x0 x1 x2 x3 x4 : Value} (h : At5 w b x0 x1 x2 x3 x4) (v : Value) : At5 (w.setCell ⟨b, 1, none⟩ v) b x0 v x2 x3 x4 :=
  ⟨(World.cell?_setCell_other w _ ⟨b, 0, none⟩ v (by simp)).trans h.c0, World.cell?_setCell_same w _ v h.c1, (World.cell?_setCell_other w _ ⟨b, 2, none⟩ v (by simp)).trans h.c2, (World.cell?_setCell_other w _ ⟨b, 3, none⟩ v (by simp)).trans h.c3, (World.cell?_setCell_other w _ ⟨b, 4, none⟩ v (by simp)).trans h.c4, (World.frozen?_setCell _ _ _ _).trans h.f0, (World.frozen?_setCell _ _ _ _).trans h.f1, (World.frozen?_setCell _ _ _ _).trans h.f2, (World.frozen?_setCell _ _ _ _).trans h.f3, (World.frozen?_setCell _ _ _ _).trans h.f4, by rw [World.size_setCell]; exact h.lt⟩
theorem At5.put2 {w : World} {b : Nat} {x0 x1 x2 x3 x4 : Value} (h : At5 w b x0 x1 x2 x3 x4) (v : Value) : At5 (w.setCell ⟨b, 2, none⟩ v) b x0 x1 v x3 x4 :=
  ⟨(World.cell?_setCell_other w _ ⟨b, 0, none⟩ v (by simp)).trans h.c0, (World.cell?_setCell_other w _ ⟨b, 1, none⟩ v (by simp)).trans h.c1, World.cell?_setCell_same w _ v h.c2, (World.cell?_setCell_other w _ ⟨b, 3, none⟩ v (by simp)).trans h.c3, (World.cell?_setCell_other w _ ⟨b, 4, none⟩ v (by simp)).trans h.c4, (World.frozen?_setCell _ _ _ _).trans h.f0, (World.frozen?_setCell _ _ _ _).trans h.f1, (World.frozen?_setCell _ _ _ _).trans h.f2, (World.frozen?_setCell _ _ _ _).trans h.f3, (World.frozen?_setCell _ _ _ _).trans h.f4, by rw [World.size_setCell]; exact h.lt⟩
theorem At5.put3 {w : World} {b : Nat} {x0 x1 x2 x3 x4 : Value} (h : At5 w b x0 x1 x2 x3 x4) (v : Value) : At5 (w.setCell ⟨b, 3, none⟩ v) b x0 x1 x2 v x4 :=
  ⟨(World.cell?_setCell_other w _ ⟨b, 0, none⟩ v (by simp)).trans h.c0, (World.cell?_setCell_other w _ ⟨b, 1, none⟩ v (by simp)).trans h.c1, (World.cell?_setCell_other w _ ⟨b, 2, none⟩ v (by simp)).trans h.c2, World.cell?_setCell_same w _ v h.c3, (World.cell?_setCell_other w _ ⟨b, 4, none⟩ v (by simp)).trans h.c4, (World.frozen?_setCell _ _ _ _).trans h.f0, (World.frozen?_setCell _ _ _ _).trans h.f1, (World.frozen?_setCell _ _ _ _).trans h.f2, (World.frozen?_setCell _ _ _ _).trans h.f3, (World.frozen?_setCell _ _ _ _).trans h.f4, by rw [World.size_setCell]; exact h.lt⟩
theorem At5.put4 {w : World} {b : Nat} {x0 x1 x2 x3 x4 : Value} (h : At5 w b x0 x1 x2 x3 x4) (v : Value) : At5 (w.setCell ⟨b, 4, none⟩ v) b x0 x1 x2 x3 v :=
  ⟨(World.cell?_setCell_other w _ ⟨b, 0, none⟩ v (by simp)).trans h.c0, (World.cell?_setCell_other w _ ⟨b, 1, none⟩ v (by simp)).trans h.c1, (World.cell?_setCell_other w _ ⟨b, 2, none⟩ v (by simp)).trans h.c2, (World.cell?_setCell_other w _ ⟨b, 3, none⟩ v (by simp)).trans h.c3, World.cell?_setCell_same w _ v h.c4, (World.frozen?_setCell _ _ _ _).trans h.f0, (World.frozen?_setCell _ _ _ _).trans h.f1, (World.frozen?_setCell _ _ _ _).trans h.f2, (World.frozen?_setCell _ _ _ _).trans h.f3, (World.frozen?_setCell _ _ _ _).trans h.f4, by rw [World.size_setCell]; exact h.lt⟩
theorem At5.put {w : World} {b : Nat} {x0 x1 x2 x3 x4 : Value} (h : At5 w b x0 x1 x2 x3 x4) (y0 y1 y2 y3 y4 : Value) : At5 (((((w.setCell ⟨b, 0, none⟩ y0).setCell ⟨b, 1, none⟩ y1).setCell ⟨b, 2, none⟩ y2).setCell ⟨b, 3, none⟩ y3).setCell ⟨b, 4, none⟩ y4) b y0 y1 y2 y3 y4 := ((((h.put0 y0).put1 y1).put2 y2).put3 y3).put4 y4
theorem At5.others {w : World} {b : Nat} {x0 x1 x2 x3 x4 : Value} (h : At5 w b x0 x1 x2 x3 x4) {c : Nat} (hc : c ≠ b) (y0 y1 y2 y3 y4 : Value) : At5 (((((w.setCell ⟨c, 0, none⟩ y0).setCell ⟨c, 1, none⟩ y1).setCell ⟨c, 2, none⟩ y2).setCell ⟨c, 3, none⟩ y3).setCell ⟨c, 4, none⟩ y4) b x0 x1 x2 x3 x4 := ((((h.other hc y0).other hc y1).other hc y2).other hc y3).other hc y4
theorem At5.alloc {w : World} {b : Nat} {x0 x1 x2 x3 x4 : Value} (h : At5 w b x0 x1 x2 x3 x4) (o : Obj) : At5 (w.alloc o) b x0 x1 x2 x3 x4 :=
  h.below (B := w.heap.size) ((Below.refl _ _).alloc (Nat.le_refl _) o) h.lt
theorem At5.fresh (w : World) (x0 x1 x2 x3 x4 : Value) (t : TypeId) : At5 (w.alloc (.cells #[x0, x1, x2, x3, x4] t)) w.heap.size x0 x1 x2 x3 x4 := by
  constructor <;> simp [go_sem]
theorem At5.outs {w : World} {b : Nat} {x0 x1 x2 x3 x4 : Value} (h : At5 w b x0 x1 x2 x3 x4) (y0 y1 y2 y3 y4 : Value) :
    (w.setCell ⟨b, 0, none⟩ y0).cell? ⟨b, 0, none⟩ = some y0 ∧
    ((w.setCell ⟨b, 0, none⟩ y0).setCell ⟨b, 1, none⟩ y1).cell? ⟨b, 1, none⟩ = some y1 ∧
    (((w.setCell ⟨b, 0, none⟩ y0).setCell ⟨b, 1, none⟩ y1).setCell ⟨b, 2, none⟩ y2).cell? ⟨b, 2, none⟩ = some y2 ∧
    ((((w.setCell ⟨b, 0, none⟩ y0).setCell ⟨b, 1, none⟩ y1).setCell ⟨b, 2, none⟩ y2).setCell ⟨b, 3, none⟩ y3).cell? ⟨b, 3, none⟩ = some y3 ∧
    (((((w.setCell ⟨b, 0, none⟩ y0).setCell ⟨b, 1, none⟩ y1).setCell ⟨b, 2, none⟩ y2).setCell ⟨b, 3, none⟩ y3).setCell ⟨b, 4, none⟩ y4).cell? ⟨b, 4, none⟩ = some y4 :=
  ⟨(h.put0 y0).c0, ((h.put0 y0).put1 y1).c1, (((h.put0 y0).put1 y1).put2 y2).c2, ((((h.put0 y0).put1 y1).put2 y2).put3 y3).c3, (((((h.put0 y0).put1 y1).put2 y2).put3 y3).put4 y4).c4⟩
theorem At5.of {w w1 : World} {b : Nat} {x0 x1 x2 x3 x4 : Value} (hb : Below w.heap.size w w1) (h : At5 w b x0 x1 x2 x3 x4) : At5 w1 b x0 x1 x2 x3 x4 := h.below hb h.lt

/-- A row of numbers in memory: n of them, that read zs. -/
structure Row (k : IntKind) (w : World) (ao : Option Addr) (n c : Nat) (zs : List Int) : Prop where
  len : zs.length = n
  cap : n ≤ c
  max : c ≤ maxLen
  nil : ao = none → c = 0
  wf : ∀ x ∈ zs, (Lit.int k x).wf = true
  at' : 0 < n → ∃ b o, ao = some ⟨b, o, none⟩ ∧ ∀ i, i < n → w.cell? ⟨b, o + i, none⟩ = some (.int k (zs.getD i 0))
theorem Row.below {k : IntKind} {w w1 : World} {ao : Option Addr} {n c : Nat} {zs : List Int} (h : Row k w ao n c zs) (hb : Below w.heap.size w w1) : Row k w1 ao n c zs := by
  refine ⟨h.len, h.cap, h.max, h.nil, h.wf, fun hn => ?_⟩
  obtain ⟨b, o, e, hc⟩ := h.at' hn
  refine ⟨b, o, e, fun i hi => ?_⟩
  have := hc i hi
  exact (hb.cell (p := ⟨b, o + i, none⟩) (World.block_lt_of_cell? _ _ this)).trans this
theorem Row.later {k : IntKind} {w : World} {ao : Option Addr} {n c : Nat} {zs : List Int} (h : Row k w ao n c zs) (v : Later w) : Row k v.1 ao n c zs := h.below v.2
theorem Row.u64 {w : World} {ao : Option Addr} {n c : Nat} {zs : List Int} (h : Row .u64 w ao n c zs) (j : Nat) : 0 ≤ zs.getD j 0 ∧ zs.getD j 0 ≤ 18446744073709551615 := range_u64 h.wf j
theorem Row.i64 {w : World} {ao : Option Addr} {n c : Nat} {zs : List Int} (h : Row .i64 w ao n c zs) (j : Nat) : -9223372036854775808 ≤ zs.getD j 0 ∧ zs.getD j 0 ≤ 9223372036854775807 := range_i64 h.wf j
/-- What the call owns, as a row. -/
theorem Row.own {k : IntKind} {w : World} {base : Nat} {e : TypeId} {v : Value} {n : Nat} {zs : List Int} (h : w.ownsRow base e 1 v n (zs.map (Value.int k))) (hw : ∀ x ∈ zs, (Lit.int k x).wf = true) :
    ∃ ao c, v = .slice ao n c ∧ Row k w ao n c zs := by
  have hl : zs.length = n := by have := h.1; simpa using this
  rcases h.2 with ⟨rfl, rfl⟩ | ⟨g, cap, cur, rfl, hb, hg, h1, h2, h3, h4⟩
  · exact ⟨none, 0, rfl, hl, Nat.le_refl _, by unfold maxLen; omega, fun _ => rfl, hw, fun h => absurd h (by omega)⟩
  · refine ⟨some ⟨g, 0, none⟩, cap, rfl, hl, h1, h2, fun h => by simp at h, hw, fun _ => ⟨g, 0, rfl, fun i hi => ?_⟩⟩
    have := h.cellAt i (by omega)
    rw [Nat.zero_add, this, List.getElem?_map, List.getElem?_eq_getElem (by omega : i < zs.length)]
    simp [List.getD, show i < zs.length by omega]
/-- A row's cells, from the address on. -/
theorem Row.news {k : IntKind} {w : World} {a : Addr} {n c : Nat} {zs : List Int} (h : Row k w (some a) n c zs) : ∀ j u, (zs.map (Value.int k))[j]? = some u → w.cell? (a.add j) = some u := by
  intro j u hu
  have hj : j < zs.length := by have := (List.getElem?_eq_some_iff.1 hu).1; simpa using this
  obtain ⟨b, o, e, hc⟩ := h.at' (by have := h.len; omega)
  simp only [Option.some.injEq] at e
  subst e
  rw [Go.WideShapes.add_plain, hc j (by have := h.len; omega), ← hu, List.getElem?_map, List.getElem?_eq_getElem hj]
  simp [List.getD, hj]
end Go.Proofs.Ytoonffglkadofaa
