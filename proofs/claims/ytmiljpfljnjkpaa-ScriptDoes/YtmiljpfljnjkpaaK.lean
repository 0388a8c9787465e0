/-
  What every walk here leans on: a world that has grown, two cells of a block of one's own, a region that draws its order and only reads. No program in this text. No conditions.
-/
import Derived.WalkKit
import Derived.ProofKit
import Derived.Handy
import Derived.BigQuiet
import Derived.WalkSpells
import Derived.WalkLawsBesides
import Derived.Deep.RegionWith
import Derived.RegionTactic
import Derived.ChangeAlike
namespace Go.Proofs.Ytmiljpfljnjkpaa
open Go.RowKit
set_option linter.unusedVariables false

/-- What a contract leaves: old cells and old marks read as before. -/
theorem bcell {B : Nat} {W w1 : World} (hb : Below B W w1) : (∀ b o, b < B → w1.cell? ⟨b, o, none⟩ = W.cell? ⟨b, o, none⟩) ∧ (∀ b o, b < B → w1.frozen? ⟨b, o, none⟩ = W.frozen? ⟨b, o, none⟩) :=
  ⟨fun b o h => hb.cell (p := ⟨b, o, none⟩) h, fun b o h => hb.frozen (p := ⟨b, o, none⟩) h⟩
/-- A world that has grown out of W. -/
def Later (W : World) : Type := {w' : World // Below W.heap.size W w'}
theorem Later.cell {W : World} (x : Later W) (b o : Nat) (h : b < W.heap.size) : x.1.cell? ⟨b, o, none⟩ = W.cell? ⟨b, o, none⟩ := x.2.cell (p := ⟨b, o, none⟩) h
theorem Later.call {W : World} {P : Program} {f : FuncId} {args : Array Value} {v : Value} (x : Later W) (h : Calls P f args x.1 fun e w' => e = .returned v ∧ Below x.1.heap.size x.1 w') :
    Calls P f args x.1 fun e w'' => e = .returned v ∧ ∃ y : Later W, w'' = y.1 :=
  h.mono fun _ w' ⟨he, hb⟩ => ⟨he, ⟨w', x.2.trans (hb.mono x.2.size)⟩, rfl⟩
theorem Later.first (W : World) : ∃ y : Later W, { W with drawn := W.drawn + 1 } = y.1 := ⟨⟨W.drew, (Below.refl _ _).drew⟩, rfl⟩

theorem Later.frozen {W : World} (x : Later W) (b o : Nat) (h : b < W.heap.size) : x.1.frozen? ⟨b, o, none⟩ = W.frozen? ⟨b, o, none⟩ := x.2.frozen (p := ⟨b, o, none⟩) h
/-- A region that draws its order, whose operations only read and whose callees make blocks of their own at most: one walk in the order of the text. -/
theorem wp_region_later {P : Program} {id : Nat} {Q : Exit → Act → World → Prop} {a : Act} {w : World} {l : List Oper} (hm : P.follows .mixedOrders = true) (hB : Region.lexB .any l.toArray = true)
    (h : wpQuiet P l.toArray (fun w' => ∃ x : Later w, w' = x.1) (fun a' => ∀ w', (∃ x : Later w, w' = x.1) → Q .normal a' w') l a) : (Code.region id l.toArray true).wp P Q a w :=
  wp_region_quiet (C := fun w' => ∃ x : Later w, w' = x.1) hm hB (Later.first w) (by simpa using h)
theorem Later.ne (W : World) : Nonempty (Later W) := ⟨⟨W, Below.refl _ _⟩⟩
/-- Two cells of a block of one's own. -/
structure At2 (w : World) (b : Nat) (x y : Value) : Prop where
  c0 : w.cell? ⟨b, 0, none⟩ = some x
  c1 : w.cell? ⟨b, 1, none⟩ = some y
  f0 : w.frozen? ⟨b, 0, none⟩ = false
  f1 : w.frozen? ⟨b, 1, none⟩ = false
  lt : b < w.heap.size
theorem At2.below {w w1 : World} {b B : Nat} {x y : Value} (h : At2 w b x y) (hb : Below B w w1) (hB : b < B) : At2 w1 b x y :=
  ⟨(hb.cell (p := ⟨b, 0, none⟩) hB).trans h.c0, (hb.cell (p := ⟨b, 1, none⟩) hB).trans h.c1, (hb.frozen (p := ⟨b, 0, none⟩) hB).trans h.f0, (hb.frozen (p := ⟨b, 1, none⟩) hB).trans h.f1, Nat.lt_of_lt_of_le h.lt hb.size⟩
theorem At2.later {w : World} {b : Nat} {x y : Value} (h : At2 w b x y) (v : Later w) : At2 v.1 b x y := h.below v.2 h.lt
theorem At2.drew {w : World} {b : Nat} {x y : Value} (h : At2 w b x y) : At2 w.drew b x y := ⟨h.c0, h.c1, h.f0, h.f1, h.lt⟩
theorem At2.other {w : World} {b : Nat} {x y : Value} (h : At2 w b x y) {a : Addr} (hb : a.block ≠ b) (v : Value) : At2 (w.setCell a v) b x y :=
  ⟨(World.cell?_setCell_other w a ⟨b, 0, none⟩ v (fun e => hb (by rw [e]))).trans h.c0, (World.cell?_setCell_other w a ⟨b, 1, none⟩ v (fun e => hb (by rw [e]))).trans h.c1,
    (World.frozen?_setCell _ _ _ _).trans h.f0, (World.frozen?_setCell _ _ _ _).trans h.f1, by rw [World.size_setCell]; exact h.lt⟩
theorem At2.put0 {w : World} {b : Nat} {x y : Value} (h : At2 w b x y) (v : Value) : At2 (w.setCell ⟨b, 0, none⟩ v) b v y :=
  ⟨World.cell?_setCell_same w _ v h.c0, (World.cell?_setCell_other w _ ⟨b, 1, none⟩ v (by simp)).trans h.c1,
    (World.frozen?_setCell _ _ _ _).trans h.f0, (World.frozen?_setCell _ _ _ _).trans h.f1, by rw [World.size_setCell]; exact h.lt⟩
theorem At2.put1 {w : World} {b : Nat} {x y : Value} (h : At2 w b x y) (v : Value) : At2 (w.setCell ⟨b, 1, none⟩ v) b x v :=
  ⟨(World.cell?_setCell_other w _ ⟨b, 0, none⟩ v (by simp)).trans h.c0, World.cell?_setCell_same w _ v h.c1,
    (World.frozen?_setCell _ _ _ _).trans h.f0, (World.frozen?_setCell _ _ _ _).trans h.f1, by rw [World.size_setCell]; exact h.lt⟩
theorem At2.put {w : World} {b : Nat} {x y : Value} (h : At2 w b x y) (u v : Value) : At2 ((w.setCell ⟨b, 0, none⟩ u).setCell ⟨b, 1, none⟩ v) b u v := (h.put0 u).put1 v
theorem At2.others {w : World} {b : Nat} {x y : Value} (h : At2 w b x y) {c : Nat} (hc : c ≠ b) (u v : Value) : At2 ((w.setCell ⟨c, 0, none⟩ u).setCell ⟨c, 1, none⟩ v) b x y := (h.other hc u).other hc v

theorem At2.alloc {w : World} {b : Nat} {x y : Value} (h : At2 w b x y) (o : Obj) : At2 (w.alloc o) b x y :=
  h.below (B := w.heap.size) ((Below.refl _ _).alloc (Nat.le_refl _) o) h.lt
theorem At2.fresh (w : World) (x y : Value) (t : TypeId) : At2 (w.alloc (.cells #[x, y] t)) w.heap.size x y := by
  constructor <;> simp [go_sem]
theorem At2.after_fresh {w w1 : World} {x y : Value} {t : TypeId} (hb : Below (w.alloc (.cells #[x, y] t)).drew.heap.size (w.alloc (.cells #[x, y] t)).drew w1) : At2 w1 w.heap.size x y :=
  At2.below (w := (w.alloc (.cells #[x, y] t)).drew) (At2.fresh w x y t).drew hb (by simp)
theorem At2.after_fresh' {w w1 : World} {x y : Value} {t : TypeId} (hb : Below (w.alloc (.cells #[x, y] t)).heap.size (w.alloc (.cells #[x, y] t)) w1) : At2 w1 w.heap.size x y :=
  At2.below (w := w.alloc (.cells #[x, y] t)) (At2.fresh w x y t) hb (by simp)
theorem Below.call {B : Nat} {W X w1 : World} (h : Below B W X) (hB : B ≤ X.heap.size) (h1 : Below X.heap.size X w1) : Below B W w1 := h.trans (h1.mono hB)

/-- The world at hand, but for what is said of it, is forgotten. -/
theorem wp_forget {P : Program} {c : Code} {Q : Exit → Act → World → Prop} {a : Act} {w : World} (R : World → Prop) (hw : R w) (h : ∀ w', R w' → Code.wp P c Q a w') : Code.wp P c Q a w := h w hw

end Go.Proofs.Ytmiljpfljnjkpaa
