/-
  A row of loads as it comes in; a row of fates of the call's own, and another one put behind it. No conditions.
-/
import Derived.Test.YtiikdbadbocjcaaT
import Derived.Test.YtiikdbadbocjcaaM2
import Derived.Lib.SmallJoins
import Derived.Deep.Fields
namespace Go.Proofs.Ytiikdbadbocjcaa
open Go.ChangeShapes Go.WideShapes Go.RowKit Go.Joins Go.Deep
set_option linter.unusedVariables false
structure Ld.Bd (z : Ld) : Prop where
  a : -9223372036854775808 ≤ z.a ∧ z.a ≤ 9223372036854775807
  s : -9223372036854775808 ≤ z.s ∧ z.s ≤ 9223372036854775807
/-- A row of loads in memory. -/
structure Lds (w : World) (ao : Option Addr) (n c : Nat) (Z : Nat → Ld) : Prop where
  cap : n ≤ c
  max : c ≤ maxLen
  bd : ∀ i, (Z i).Bd
  at' : 0 < n → ∃ b o, ao = some ⟨b, o, none⟩ ∧ b < w.heap.size ∧ ∀ i, i < n → w.cell? ⟨b, o + i * 2, none⟩ = some (.int .i64 (Z i).a) ∧ w.cell? ⟨b, o + i * 2 + 1, none⟩ = some (.int .i64 (Z i).s)
theorem Lds.below {w w1 : World} {ao : Option Addr} {n c : Nat} {Z : Nat → Ld} (h : Lds w ao n c Z) (hb : Below w.heap.size w w1) : Lds w1 ao n c Z := by
  refine ⟨h.cap, h.max, h.bd, fun hn => ?_⟩
  obtain ⟨b, o, e, hl, hc⟩ := h.at' hn
  refine ⟨b, o, e, Nat.lt_of_lt_of_le hl hb.size, fun i hi => ?_⟩
  obtain ⟨c0, c1⟩ := hc i hi
  exact ⟨(hb.cell (p := ⟨b, _, none⟩) hl).trans c0, (hb.cell (p := ⟨b, _, none⟩) hl).trans c1⟩
theorem int_bd {x : Int} (h : (Lit.int .i64 x).wf = true) : -9223372036854775808 ≤ x ∧ x ≤ 9223372036854775807 := bounds_i64 h
section
variable {H : Type} {enc : TypeId × Value → H} {w : World} {base : Nat} {spare : Nat → Bool} {held : Bool}
theorem list2 {cs : List Value} (h : cs.length = 2) : ∃ c0 c1, cs = [c0, c1] := by
  match cs, h with
  | [c0, c1], _ => exact ⟨c0, c1, rfl⟩
theorem load_of {fuel : Nat} {cs : List Value} {x : DataW H × List MemPlace} (h : DataW.trod enc Try.prog w base spare held fuel 25 cs = some x) :
    ∃ z : Ld, z.Bd ∧ cs = [.int .i64 z.a, .int .i64 z.s] := by
  obtain ⟨y0, y1, n, _, hl, h0, h1⟩ := trod_struct2 Try.underlying25 h
  have c1 : Try.prog.cellsOf 3 = 1 := by kernel_rfl
  have c2 : Try.prog.cellsOf 25 = 2 := by kernel_rfl
  obtain ⟨v0, v1, rfl⟩ := list2 (hl.trans c2)
  simp only [c1, List.drop, List.take] at h0 h1
  obtain ⟨k, e0, _, wk⟩ := DataW.trod_int Try.underlying3 h0
  obtain ⟨m, e1, _, wm⟩ := DataW.trod_int Try.underlying3 h1
  simp only [List.cons.injEq, and_true] at e0 e1
  subst e0 e1
  exact ⟨⟨k, m⟩, ⟨int_bd wk, int_bd wm⟩, rfl⟩
theorem open_loads {r : Reach} {b0 : Nat} {v : Value} {d : DataW H} {p : List MemPlace} (hv : Value.okWide Try.prog w r b0 26 v) (h : DataW.Trod enc Try.prog w base spare held 26 v d p) :
    ∃ ao n c Z, v = .slice ao n c ∧ Lds w ao n c Z := by
  obtain ⟨a, l, c, rfl⟩ := okWide_slice Try.underlying26 hv
  obtain ⟨fuel, hf⟩ := h
  have z0 : Ld.Bd ⟨0, 0⟩ := ⟨by simp, by simp⟩
  rcases DataW.trod_slice Try.underlying26 hf with ⟨hcs, _⟩ | ⟨a', len, cap, elems, rest, n, _, hcs, _, hb, hl, hm, hlen, hel, _, _⟩
  · have hcs : [Value.slice a l c] = [.slice none 0 0] := hcs
    simp only [List.cons.injEq, and_true] at hcs
    cases hcs
    exact ⟨none, 0, 0, fun _ => ⟨0, 0⟩, rfl, Nat.le_refl _, by unfold maxLen; omega, fun _ => z0, fun h => absurd h (Nat.lt_irrefl _)⟩
  · have hcs : [Value.slice a l c] = [.slice (some a') len cap] := hcs
    simp only [List.cons.injEq, and_true] at hcs
    cases hcs
    have each : ∀ i, ∃ z : Ld, z.Bd ∧ (i < l → w.cell? (a'.add (i * 2)) = some (.int .i64 z.a) ∧ w.cell? ((a'.add (i * 2)).add 1) = some (.int .i64 z.s)) := by
      intro i
      by_cases hi : i < l
      · have hi' := hel i hi
        rw [List.getElem?_eq_getElem (by omega), show Try.prog.cellsOf 25 = 2 by kernel_rfl, Option.bind_eq_some_iff] at hi'
        obtain ⟨cs', hc', hy⟩ := hi'
        obtain ⟨z, hz, rfl⟩ := load_of hy
        obtain ⟨_, _, hcell⟩ := World.cells?_some hc'
        exact ⟨z, hz, fun _ => ⟨by have := hcell 0 (by omega); simpa [Addr.add] using this, hcell 1 (by omega)⟩⟩
      · exact ⟨⟨0, 0⟩, z0, fun h => absurd h hi⟩
    refine ⟨some a', l, c, fun i => Classical.choose (each i), rfl, hl, hm, fun i => (Classical.choose_spec (each i)).1, fun hn => ?_⟩
    obtain ⟨b, o, spot⟩ := a'
    have h0 := ((Classical.choose_spec (each 0)).2 hn).1
    have hspot : spot = none := by simpa [Addr.add] using World.cell?_spot h0
    subst hspot
    refine ⟨b, o, rfl, World.block_lt_of_cell? _ _ h0, fun i hi => ?_⟩
    have := (Classical.choose_spec (each i)).2 hi
    simpa only [add_plain] using this
end
/-! ### Fates -/
def fcs (L : List (Int × Bool)) : List Value := L.flatMap fun p => [.int .i64 p.1, .bool p.2]
theorem fcs_append (L M : List (Int × Bool)) : fcs (L ++ M) = fcs L ++ fcs M := by simp [fcs]
theorem fcs_one (x : Int) (y : Bool) : fcs [(x, y)] = [.int .i64 x, .bool y] := rfl
theorem fcs_get {L : List (Int × Bool)} {i : Nat} {p : Int × Bool} (h : L[i]? = some p) : (fcs L)[i * 2]? = some (.int .i64 p.1) ∧ (fcs L)[i * 2 + 1]? = some (.bool p.2) := by
  induction L generalizing i with
  | nil => simp at h
  | cons q L ih =>
    have e : fcs (q :: L) = .int .i64 q.1 :: .bool q.2 :: fcs L := rfl
    rw [e]
    cases i with
    | zero => simp at h; subst h; exact ⟨rfl, rfl⟩
    | succ i =>
      have := ih (by simpa using h)
      rw [show (i + 1) * 2 = i * 2 + 1 + 1 by omega]
      simpa using this
/-- The fates of so many of a row. -/
def fts (m r : Int) (Z : Nat → Ld) : Nat → List (Int × Bool)
  | 0 => []
  | i + 1 => fts m r Z i ++ [(fl m r Z i, fx m r Z i)]
theorem fts_get (m r : Int) (Z : Nat → Ld) {n i : Nat} (h : i < n) : (fts m r Z n)[i]? = some (fl m r Z i, fx m r Z i) := by
  have hl : ∀ n, (fts m r Z n).length = n := fun n => by
    induction n with
    | zero => rfl
    | succ n ih => simp [fts, ih]
  induction n with
  | zero => omega
  | succ n ih =>
    unfold fts
    by_cases e : i = n
    · subst e; rw [List.getElem?_append_right (by rw [hl]; omega), hl]; simp
    · rw [List.getElem?_append_left (by rw [hl]; omega)]; exact ih (by omega)
theorem infoF : (Try.prog.info? 41).map (fun i => (i.zero, i.size, i.bytes)) = some (some (.agg #[.int .i64 0, .bool false]), 2, 16) := by kernel_rfl
/-- An append, left shut. -/
def apx (ats : Array TypeId) (ty : TypeId) (args : Array Value) : Sem Value := Builtin.append_ ats ty args
theorem append_shut (ats : Array TypeId) (ty : TypeId) (args : Array Value) : Builtin.append_ ats ty args = apx ats ty args := rfl
theorem fapp_run {w : World} {base : Nat} {v : Value} {n : Nat} {L : List (Int × Bool)} (ty : TypeId) (h : w.ownsRow base 41 2 v n (fcs L)) (hb : base ≤ w.heap.size) (hn : n ≤ 1000) {g : Nat} {x : Int} {y : Bool}
    (c0 : w.cell? ⟨g, 0, none⟩ = some (.int .i64 x)) (c1 : w.cell? ⟨g, 1, none⟩ = some (.bool y)) :
    ∃ ao c w', (apx #[35, 35] ty #[v, .slice (some ⟨g, 0, none⟩) 1 1]).run Try.prog w = .ok (.slice ao (n + 1) c) w' ∧ w'.ownsRow base 41 2 (.slice ao (n + 1) c) (n + 1) (fcs (L ++ [(x, y)])) ∧ w.grownBy w' v.ownBlock := by
  obtain ⟨i0, hi, hz0, hz1, hz2⟩ := info_parts infoF
  have hnews : ∀ j u, (fcs [(x, y)])[j]? = some u → w.cell? ((⟨g, 0, none⟩ : Addr).add j) = some u := by
    intro j u hj
    match j, hj with
    | 0, hj => rw [fcs_one] at hj; simp at hj; subst hj; simpa [Addr.add] using c0
    | 1, hj => rw [fcs_one] at hj; simp at hj; subst hj; simpa [Addr.add] using c1
    | j + 2, hj => rw [fcs_one] at hj; simp at hj
  obtain ⟨v', w', hr, h2, h3, _⟩ := run_append_own (P := Try.prog) w base 35 ty 41 i0 (.agg #[.int .i64 0, .bool false]) 2 16 Try.underlying35 hi hz0 hz1 hz2 rfl (by decide) v n (fcs L) h ⟨g, 0, none⟩ 1 1 (fcs [(x, y)]) rfl hnews
    (fun u hu => by rw [fcs_one] at hu; simp at hu; rcases hu with rfl | rfl <;> rfl) (by unfold maxLen; omega) (by omega) hb
  rcases h2.2 with ⟨rfl, e⟩ | ⟨g', cap, cur, rfl, r⟩
  · omega
  · exact ⟨_, _, w', hr, by rw [fcs_append]; exact h2, h3⟩
/-- One cell of a block of one's own. -/
structure At1 (w : World) (b : Nat) (x : Value) : Prop where
  c0 : w.cell? ⟨b, 0, none⟩ = some x
  f0 : w.frozen? ⟨b, 0, none⟩ = false
  lt : b < w.heap.size
theorem At1.below {w w1 : World} {b B : Nat} {x : Value} (h : At1 w b x) (hb : Below B w w1) (hB : b < B) : At1 w1 b x :=
  ⟨(hb.cell (p := ⟨b, 0, none⟩) hB).trans h.c0, (hb.frozen (p := ⟨b, 0, none⟩) hB).trans h.f0, Nat.lt_of_lt_of_le h.lt hb.size⟩
theorem At1.of {w w1 : World} {b : Nat} {x : Value} (hb : Below w.heap.size w w1) (h : At1 w b x) : At1 w1 b x := h.below hb h.lt
theorem At1.alloc {w : World} {b : Nat} {x : Value} (h : At1 w b x) (o : Obj) : At1 (w.alloc o) b x := h.below (B := w.heap.size) ((Below.refl _ _).alloc (Nat.le_refl _) o) h.lt
theorem At1.other {w : World} {b : Nat} {x : Value} (h : At1 w b x) {a : Addr} (hb : a.block ≠ b) (v : Value) : At1 (w.setCell a v) b x :=
  ⟨(World.cell?_setCell_other w a ⟨b, 0, none⟩ v (fun e => hb (by rw [e]))).trans h.c0, (World.frozen?_setCell _ _ _ _).trans h.f0, by rw [World.size_setCell]; exact h.lt⟩
/-- What grew by one block's cell and a row. -/
structure Grew (w w' : World) (b : Nat) (row : Option Nat) : Prop where
  os : w'.os = w.os
  tape : w'.tape = w.tape
  output : w'.output = w.output
  size : w.heap.size ≤ w'.heap.size
  block : ∀ k, k < w.heap.size → k ≠ b → some k ≠ row → w'.heap[k]? = w.heap[k]?
theorem Grew.at2 {w w' : World} {b : Nat} {row : Option Nat} (h : Grew w w' b row) {k : Nat} {x y : Value} (A : At2 w k x y) (h1 : k ≠ b) (h2 : some k ≠ row) : At2 w' k x y := by
  have e := h.block k A.lt h1 h2
  exact ⟨(World.cell?_of_block e).trans A.c0, (World.cell?_of_block e).trans A.c1, (World.frozen?_of_block e).trans A.f0, (World.frozen?_of_block e).trans A.f1, Nat.lt_of_lt_of_le A.lt h.size⟩
theorem Grew.below {w w' W : World} {B b : Nat} {row : Option Nat} (h : Grew w w' b row) (hb : Below B W w) (hB : B ≤ w.heap.size) (h1 : B ≤ b) (h2 : ∀ k, row = some k → B ≤ k) : Below B W w' :=
  hb.trans ⟨h.os, h.tape, h.output, h.size, fun i hi => h.block i (by omega) (by omega) (fun e => by have := h2 i e.symm; omega)⟩
theorem own_far {w : World} {base : Nat} {e : TypeId} {size : Nat} {v : Value} {n : Nat} {xs : List Value} (h : w.ownsRow base e size v n xs) {b : Nat} (hb : b < base) : some b ≠ v.ownBlock := by
  intro e
  have := (h.lt b e.symm).1
  omega
theorem own_below {w w1 : World} {base : Nat} {e : TypeId} {size : Nat} {v : Value} {n : Nat} {xs : List Value} (h : w.ownsRow base e size v n xs) (hb : Below w.heap.size w w1) : w1.ownsRow base e size v n xs := by
  refine ⟨h.1, ?_⟩
  rcases h.2 with hn | ⟨g, cap, cur, rfl, hg, hh, r⟩
  · exact .inl hn
  · exact .inr ⟨g, cap, cur, rfl, hg, by rw [hb.block g (Array.getElem?_eq_some_iff.1 hh).1]; exact hh, r⟩
end Go.Proofs.Ytiikdbadbocjcaa
