/-
  A row of numbers, and a row of steps of three, as they come in; cells of a block of one's own, told by their places. No conditions.
-/
import Derived.Test.YtahlphbgnhklaaaOS
import Derived.Test.YtahlphbgnhklaaaN8
import Derived.Deep.Fields
import Derived.ChangeSlices
import Derived.OpenShut
import Derived.OwnWalk
namespace Go.Proofs.Ytahlphbgnhklaaa
open Go.ChangeShapes Go.WideShapes Go.RowKit Go.Joins Go.Deep
set_option linter.unusedVariables false
theorem Row.val {w : World} {ao : Option Addr} {n c : Nat} {zs : List Int} (h : Row .i64 w ao n c zs) (i : Nat) : -9223372036854775808 ≤ zs.getD i 0 ∧ zs.getD i 0 ≤ 9223372036854775807 := by
  have key : (Lit.int .i64 (zs.getD i 0)).wf = true := by
    by_cases hi : i < zs.length
    · rw [List.getD_eq_getElem?_getD, List.getElem?_eq_getElem hi]; exact h.wf _ (List.getElem_mem hi)
    · rw [List.getD_eq_getElem?_getD, List.getElem?_eq_none (by omega)]; rfl
  generalize zs.getD i 0 = x at key ⊢
  simp [Lit.wf, IntKind.min, IntKind.max, IntKind.signed, IntKind.bits] at key
  exact ⟨by omega, by omega⟩
/-- A step: three numbers. -/
structure St3 where
  r : Int
  p : Int
  s : Int
structure St3.Bd (z : St3) : Prop where
  r : -9223372036854775808 ≤ z.r ∧ z.r ≤ 9223372036854775807
  p : -9223372036854775808 ≤ z.p ∧ z.p ≤ 9223372036854775807
  s : -9223372036854775808 ≤ z.s ∧ z.s ≤ 9223372036854775807
/-- A script in memory. -/
structure Steps3 (w : World) (ao : Option Addr) (n c : Nat) (Z : Nat → St3) : Prop where
  cap : n ≤ c
  max : c ≤ maxLen
  bd : ∀ i, (Z i).Bd
  at' : 0 < n → ∃ b o, ao = some ⟨b, o, none⟩ ∧ b < w.heap.size ∧ ∀ i, i < n → w.cell? ⟨b, o + i * 3, none⟩ = some (.int .i64 (Z i).r) ∧ w.cell? ⟨b, o + i * 3 + 1, none⟩ = some (.int .i64 (Z i).p) ∧ w.cell? ⟨b, o + i * 3 + 2, none⟩ = some (.int .i64 (Z i).s)
theorem Steps3.below {w w1 : World} {ao : Option Addr} {n c : Nat} {Z : Nat → St3} (h : Steps3 w ao n c Z) (hb : Below w.heap.size w w1) : Steps3 w1 ao n c Z := by
  refine ⟨h.cap, h.max, h.bd, fun hn => ?_⟩
  obtain ⟨b, o, e, hl, hc⟩ := h.at' hn
  refine ⟨b, o, e, Nat.lt_of_lt_of_le hl hb.size, fun i hi => ?_⟩
  obtain ⟨c0, c1, c2⟩ := hc i hi
  exact ⟨(hb.cell (p := ⟨b, _, none⟩) hl).trans c0, (hb.cell (p := ⟨b, _, none⟩) hl).trans c1, (hb.cell (p := ⟨b, _, none⟩) hl).trans c2⟩
section
variable {H : Type} {enc : TypeId × Value → H} {w : World} {base : Nat} {spare : Nat → Bool} {held : Bool}
theorem open_rowi {r : Reach} {b0 : Nat} {v : Value} {d : DataW H} {p : List MemPlace} (hv : Value.okWide Try.prog w r b0 34 v) (h : DataW.Trod enc Try.prog w base spare held 34 v d p) :
    ∃ ao n c zs, v = .slice ao n c ∧ Row .i64 w ao n c zs := by
  obtain ⟨a, l, c, rfl⟩ := okWide_slice Try.underlying34 hv
  obtain ⟨fuel, hf⟩ := h
  exact row_of_trod Try.underlying34 Try.underlying3 (by kernel_rfl) (by simpa [Value.cells] using hf)
theorem list3 {cs : List Value} (h : cs.length = 3) : ∃ c0 c1 c2, cs = [c0, c1, c2] := by
  match cs, h with
  | [c0, c1, c2], _ => exact ⟨c0, c1, c2, rfl⟩
theorem step_of {fuel : Nat} {cs : List Value} {x : DataW H × List MemPlace} (h : DataW.trod enc Try.prog w base spare held fuel 36 cs = some x) :
    ∃ z : St3, z.Bd ∧ cs = [.int .i64 z.r, .int .i64 z.p, .int .i64 z.s] := by
  obtain ⟨y0, y1, y2, n, _, hl, h0, h1, h2⟩ := trod_struct3 Try.underlying36 h
  have c1 : Try.prog.cellsOf 3 = 1 := by kernel_rfl
  have c3 : Try.prog.cellsOf 36 = 3 := by kernel_rfl
  obtain ⟨v0, v1, v2, rfl⟩ := list3 (hl.trans c3)
  simp only [c1, List.drop, List.take] at h0 h1 h2
  obtain ⟨k, e0, _, wk⟩ := DataW.trod_int Try.underlying3 h0
  obtain ⟨m, e1, _, wm⟩ := DataW.trod_int Try.underlying3 h1
  obtain ⟨s, e2, _, ws⟩ := DataW.trod_int Try.underlying3 h2
  simp only [List.cons.injEq, and_true] at e0 e1 e2
  subst e0 e1 e2
  exact ⟨⟨k, m, s⟩, ⟨int_bd wk, int_bd wm, int_bd ws⟩, rfl⟩
theorem open_steps3 {r : Reach} {b0 : Nat} {v : Value} {d : DataW H} {p : List MemPlace} (hv : Value.okWide Try.prog w r b0 33 v) (h : DataW.Trod enc Try.prog w base spare held 33 v d p) :
    ∃ ao n c Z, v = .slice ao n c ∧ Steps3 w ao n c Z := by
  obtain ⟨a, l, c, rfl⟩ := okWide_slice Try.underlying33 hv
  obtain ⟨fuel, hf⟩ := h
  have z0 : St3.Bd ⟨0, 0, 0⟩ := ⟨by simp, by simp, by simp⟩
  rcases DataW.trod_slice Try.underlying33 hf with ⟨hcs, _⟩ | ⟨a', len, cap, elems, rest, n, _, hcs, _, hb, hl, hm, hlen, hel, _, _⟩
  · have hcs : [Value.slice a l c] = [.slice none 0 0] := hcs
    simp only [List.cons.injEq, and_true] at hcs
    cases hcs
    exact ⟨none, 0, 0, fun _ => ⟨0, 0, 0⟩, rfl, Nat.le_refl _, by unfold maxLen; omega, fun _ => z0, fun h => absurd h (Nat.lt_irrefl _)⟩
  · have hcs : [Value.slice a l c] = [.slice (some a') len cap] := hcs
    simp only [List.cons.injEq, and_true] at hcs
    cases hcs
    have each : ∀ i, ∃ z : St3, z.Bd ∧ (i < l → w.cell? (a'.add (i * 3)) = some (.int .i64 z.r) ∧ w.cell? ((a'.add (i * 3)).add 1) = some (.int .i64 z.p) ∧ w.cell? ((a'.add (i * 3)).add 2) = some (.int .i64 z.s)) := by
      intro i
      by_cases hi : i < l
      · have hi' := hel i hi
        rw [List.getElem?_eq_getElem (by omega), show Try.prog.cellsOf 36 = 3 by kernel_rfl, Option.bind_eq_some_iff] at hi'
        obtain ⟨cs', hc', hy⟩ := hi'
        obtain ⟨z, hz, rfl⟩ := step_of hy
        obtain ⟨_, _, hcell⟩ := World.cells?_some hc'
        exact ⟨z, hz, fun _ => ⟨by have := hcell 0 (by omega); simpa [Addr.add] using this, hcell 1 (by omega), hcell 2 (by omega)⟩⟩
      · exact ⟨⟨0, 0, 0⟩, z0, fun h => absurd h hi⟩
    refine ⟨some a', l, c, fun i => Classical.choose (each i), rfl, hl, hm, fun i => (Classical.choose_spec (each i)).1, fun hn => ?_⟩
    obtain ⟨b, o, spot⟩ := a'
    have h0 := ((Classical.choose_spec (each 0)).2 hn).1
    have hspot : spot = none := by simpa [Addr.add] using World.cell?_spot h0
    subst hspot
    refine ⟨b, o, rfl, World.block_lt_of_cell? _ _ h0, fun i hi => ?_⟩
    have := (Classical.choose_spec (each i)).2 hi
    simpa only [add_plain] using this
end
/-- n cells of a block of one's own, that read f. -/
structure Cells (w : World) (b n : Nat) (f : Nat → Int) : Prop where
  cell : ∀ i, i < n → w.cell? ⟨b, i, none⟩ = some (.int .i64 (f i))
  froz : ∀ i, i < n → w.frozen? ⟨b, i, none⟩ = false
  lt : 0 < n → b < w.heap.size
theorem Cells.below {w w1 : World} {b n B : Nat} {f : Nat → Int} (h : Cells w b n f) (hb : Below B w w1) (hB : 0 < n → b < B) : Cells w1 b n f :=
  ⟨fun i hi => (hb.cell (p := ⟨b, i, none⟩) (hB (by omega))).trans (h.cell i hi), fun i hi => (hb.frozen (p := ⟨b, i, none⟩) (hB (by omega))).trans (h.froz i hi), fun hn => Nat.lt_of_lt_of_le (h.lt hn) hb.size⟩
theorem Cells.of {w w1 : World} {b n : Nat} {f : Nat → Int} (h : Cells w b n f) (hb : Below w.heap.size w w1) : Cells w1 b n f := h.below hb h.lt
theorem Cells.alloc {w : World} {b n : Nat} {f : Nat → Int} (h : Cells w b n f) (o : Obj) : Cells (w.alloc o) b n f := h.below (B := w.heap.size) ((Below.refl _ _).alloc (Nat.le_refl _) o) h.lt
theorem Cells.other {w : World} {b n : Nat} {f : Nat → Int} (h : Cells w b n f) {a : Addr} (hb : a.block ≠ b) (v : Value) : Cells (w.setCell a v) b n f :=
  ⟨fun i hi => (World.cell?_setCell_other w a ⟨b, i, none⟩ v (fun e => hb (by rw [e]))).trans (h.cell i hi), fun i hi => (World.frozen?_setCell _ _ _ _).trans (h.froz i hi), by rw [World.size_setCell]; exact h.lt⟩
theorem Cells.others {w : World} {b n : Nat} {f : Nat → Int} (h : Cells w b n f) {c : Nat} (hc : c ≠ b) (u v : Value) : Cells ((w.setCell ⟨c, 0, none⟩ u).setCell ⟨c, 1, none⟩ v) b n f := (h.other (a := ⟨c, 0, none⟩) hc u).other (a := ⟨c, 1, none⟩) hc v
theorem Cells.put {w : World} {b n : Nat} {f : Nat → Int} (h : Cells w b n f) {j : Nat} (hj : j < n) (x : Int) : Cells (w.setCell ⟨b, j, none⟩ (.int .i64 x)) b n (fun i => if i = j then x else f i) := by
  refine ⟨fun i hi => ?_, fun i hi => (World.frozen?_setCell _ _ _ _).trans (h.froz i hi), by rw [World.size_setCell]; exact h.lt⟩
  by_cases e : i = j
  · subst e; rw [if_pos rfl]; exact World.cell?_setCell_same w _ _ (h.cell i hi)
  · rw [if_neg e]; exact (World.cell?_setCell_other w _ ⟨b, i, none⟩ _ (fun k => e (by simpa using k.symm))).trans (h.cell i hi)
theorem made_zeros (n : Nat) : (madeCells (Value.cells (.int .i64 0)) (n * 1)).toList = List.replicate n (.int .i64 0) := by
  simp only [madeCells, Value.cells, Nat.mul_one]
  apply List.ext_getElem
  · simp
  · intro i h1 h2
    simp [Nat.mod_one]
theorem cells_made {w : World} {base : Nat} {e : TypeId} {g n c : Nat} (h : w.ownsRow base e 1 (.slice (some ⟨g, 0, none⟩) n c) n (madeCells (Value.cells (.int .i64 0)) (n * 1)).toList) : Cells w g n (fun _ => 0) := by
  rw [made_zeros] at h
  have hc : ∀ i, i < n → w.cell? ⟨g, i, none⟩ = some (.int .i64 0) := fun i hi => by rw [h.cellAt i (by omega)]; simp [hi]
  exact ⟨hc, fun i hi => h.frozenAt i, fun hn => World.block_lt_of_cell? _ _ (hc 0 hn)⟩
/-- Three cells of a block of one's own. -/
structure At3 (w : World) (b : Nat) (x y z : Value) : Prop where
  c0 : w.cell? ⟨b, 0, none⟩ = some x
  c1 : w.cell? ⟨b, 1, none⟩ = some y
  c2 : w.cell? ⟨b, 2, none⟩ = some z
  lt : b < w.heap.size
theorem At3.below {w w1 : World} {b B : Nat} {x y z : Value} (h : At3 w b x y z) (hb : Below B w w1) (hB : b < B) : At3 w1 b x y z :=
  ⟨(hb.cell (p := ⟨b, 0, none⟩) hB).trans h.c0, (hb.cell (p := ⟨b, 1, none⟩) hB).trans h.c1, (hb.cell (p := ⟨b, 2, none⟩) hB).trans h.c2, Nat.lt_of_lt_of_le h.lt hb.size⟩
theorem At3.fresh (w : World) (x y z : Value) (t : TypeId) : At3 (w.alloc (.cells #[x, y, z] t)) w.heap.size x y z := by
  constructor <;> simp [go_sem]
theorem At3.alloc {w : World} {b : Nat} {x y z : Value} (h : At3 w b x y z) (o : Obj) : At3 (w.alloc o) b x y z := h.below (B := w.heap.size) ((Below.refl _ _).alloc (Nat.le_refl _) o) h.lt
theorem At3.other {w : World} {b : Nat} {x y z : Value} (h : At3 w b x y z) {a : Addr} (hb : a.block ≠ b) (v : Value) : At3 (w.setCell a v) b x y z :=
  ⟨(World.cell?_setCell_other w a ⟨b, 0, none⟩ v (fun e => hb (by rw [e]))).trans h.c0, (World.cell?_setCell_other w a ⟨b, 1, none⟩ v (fun e => hb (by rw [e]))).trans h.c1, (World.cell?_setCell_other w a ⟨b, 2, none⟩ v (fun e => hb (by rw [e]))).trans h.c2, by rw [World.size_setCell]; exact h.lt⟩
theorem At3.others {w : World} {b : Nat} {x y z : Value} (h : At3 w b x y z) {c : Nat} (hc : c ≠ b) (u v : Value) : At3 ((w.setCell ⟨c, 0, none⟩ u).setCell ⟨c, 1, none⟩ v) b x y z := (h.other (a := ⟨c, 0, none⟩) hc u).other (a := ⟨c, 1, none⟩) hc v
theorem At3.after_fresh' {w w1 : World} {x y z : Value} {t : TypeId} (hb : Below (w.alloc (.cells #[x, y, z] t)).heap.size (w.alloc (.cells #[x, y, z] t)) w1) : At3 w1 w.heap.size x y z :=
  At3.below (At3.fresh w x y z t) hb (by simp)
theorem info_int : (Try.prog.info? 3).map (fun i => (i.zero, i.size, i.bytes)) = some (some (.int .i64 0), 1, 8) := by kernel_rfl
end Go.Proofs.Ytahlphbgnhklaaa
