/-
  A row of numbers, and a script of steps of five, as they come in. No conditions.
-/
import Derived.Test.YtjjojbmpjkcmaaaX1
import Derived.Test.YtjjojbmpjkcmaaaOS
import Derived.Deep.Fields
import Derived.ChangeSlices
import Derived.OpenShut
namespace Go.Proofs.Ytjjojbmpjkcmaaa
open Go.ChangeShapes Go.WideShapes Go.RowKit Go.Joins Go.Deep
set_option linter.unusedVariables false
/-- A step: five numbers. -/
structure St where
  k : Int
  m : Int
  s : Int
  a : Int
  q : Int
structure St.Bd (z : St) : Prop where
  k : -9223372036854775808 ≤ z.k ∧ z.k ≤ 9223372036854775807
  m : -9223372036854775808 ≤ z.m ∧ z.m ≤ 9223372036854775807
  s : -9223372036854775808 ≤ z.s ∧ z.s ≤ 9223372036854775807
  a : -9223372036854775808 ≤ z.a ∧ z.a ≤ 9223372036854775807
  q : 0 ≤ z.q ∧ z.q ≤ 18446744073709551615
/-- A script in memory. -/
structure Steps (w : World) (ao : Option Addr) (n c : Nat) (Z : Nat → St) : Prop where
  cap : n ≤ c
  max : c ≤ maxLen
  bd : ∀ i, (Z i).Bd
  at' : 0 < n → ∃ b o, ao = some ⟨b, o, none⟩ ∧ b < w.heap.size ∧ ∀ i, i < n → w.cell? ⟨b, o + i * 5, none⟩ = some (.int .i64 (Z i).k) ∧ w.cell? ⟨b, o + i * 5 + 1, none⟩ = some (.int .i64 (Z i).m) ∧ w.cell? ⟨b, o + i * 5 + 2, none⟩ = some (.int .i64 (Z i).s) ∧ w.cell? ⟨b, o + i * 5 + 3, none⟩ = some (.int .i64 (Z i).a) ∧ w.cell? ⟨b, o + i * 5 + 4, none⟩ = some (.int .u64 (Z i).q)
theorem Steps.below {w w1 : World} {ao : Option Addr} {n c : Nat} {Z : Nat → St} (h : Steps w ao n c Z) (hb : Below w.heap.size w w1) : Steps w1 ao n c Z := by
  refine ⟨h.cap, h.max, h.bd, fun hn => ?_⟩
  obtain ⟨b, o, e, hl, hc⟩ := h.at' hn
  refine ⟨b, o, e, Nat.lt_of_lt_of_le hl hb.size, fun i hi => ?_⟩
  obtain ⟨c0, c1, c2, c3, c4⟩ := hc i hi
  exact ⟨(hb.cell (p := ⟨b, _, none⟩) hl).trans c0, (hb.cell (p := ⟨b, _, none⟩) hl).trans c1, (hb.cell (p := ⟨b, _, none⟩) hl).trans c2, (hb.cell (p := ⟨b, _, none⟩) hl).trans c3, (hb.cell (p := ⟨b, _, none⟩) hl).trans c4⟩
section
variable {H : Type} {enc : TypeId × Value → H} {w : World} {base : Nat} {spare : Nat → Bool} {held : Bool}
theorem open_rowi {r : Reach} {b0 : Nat} {v : Value} {d : DataW H} {p : List MemPlace} (hv : Value.okWide Try.prog w r b0 50 v) (h : DataW.Trod enc Try.prog w base spare held 50 v d p) :
    ∃ ao n c zs, v = .slice ao n c ∧ Row .i64 w ao n c zs := by
  obtain ⟨a, l, c, rfl⟩ := okWide_slice Try.underlying50 hv
  obtain ⟨fuel, hf⟩ := h
  exact row_of_trod Try.underlying50 Try.underlying3 (by kernel_rfl) (by simpa [Value.cells] using hf)
theorem list5 {cs : List Value} (h : cs.length = 5) : ∃ c0 c1 c2 c3 c4, cs = [c0, c1, c2, c3, c4] := by
  match cs, h with
  | [c0, c1, c2, c3, c4], _ => exact ⟨c0, c1, c2, c3, c4, rfl⟩
theorem step_of {fuel : Nat} {cs : List Value} {x : DataW H × List MemPlace} (h : DataW.trod enc Try.prog w base spare held fuel 32 cs = some x) :
    ∃ z : St, z.Bd ∧ cs = [.int .i64 z.k, .int .i64 z.m, .int .i64 z.s, .int .i64 z.a, .int .u64 z.q] := by
  obtain ⟨y0, y1, y2, y3, y4, n, _, hl, h0, h1, h2, h3, h4⟩ := trod_struct5 Try.underlying32 h
  have c1 : Try.prog.cellsOf 3 = 1 := by kernel_rfl
  have c2 : Try.prog.cellsOf 22 = 1 := by kernel_rfl
  have c5 : Try.prog.cellsOf 32 = 5 := by kernel_rfl
  obtain ⟨v0, v1, v2, v3, v4, rfl⟩ := list5 (hl.trans c5)
  simp only [c1, c2, List.drop, List.take] at h0 h1 h2 h3 h4
  obtain ⟨k, e0, _, wk⟩ := DataW.trod_int Try.underlying3 h0
  obtain ⟨m, e1, _, wm⟩ := DataW.trod_int Try.underlying3 h1
  obtain ⟨s, e2, _, ws⟩ := DataW.trod_int Try.underlying3 h2
  obtain ⟨a, e3, _, wa⟩ := DataW.trod_int Try.underlying3 h3
  obtain ⟨q, e4, _, wq⟩ := DataW.trod_int Try.underlying22 h4
  simp only [List.cons.injEq, and_true] at e0 e1 e2 e3 e4
  subst e0 e1 e2 e3 e4
  exact ⟨⟨k, m, s, a, q⟩, ⟨int_bd wk, int_bd wm, int_bd ws, int_bd wa, word_bd wq⟩, rfl⟩
theorem open_steps {r : Reach} {b0 : Nat} {v : Value} {d : DataW H} {p : List MemPlace} (hv : Value.okWide Try.prog w r b0 23 v) (h : DataW.Trod enc Try.prog w base spare held 23 v d p) :
    ∃ ao n c Z, v = .slice ao n c ∧ Steps w ao n c Z := by
  obtain ⟨a, l, c, rfl⟩ := okWide_slice Try.underlying23 hv
  obtain ⟨fuel, hf⟩ := h
  have z0 : St.Bd ⟨0, 0, 0, 0, 0⟩ := ⟨by simp, by simp, by simp, by simp, by simp⟩
  rcases DataW.trod_slice Try.underlying23 hf with ⟨hcs, _⟩ | ⟨a', len, cap, elems, rest, n, _, hcs, _, hb, hl, hm, hlen, hel, _, _⟩
  · have hcs : [Value.slice a l c] = [.slice none 0 0] := hcs
    simp only [List.cons.injEq, and_true] at hcs
    cases hcs
    exact ⟨none, 0, 0, fun _ => ⟨0, 0, 0, 0, 0⟩, rfl, Nat.le_refl _, by unfold maxLen; omega, fun _ => z0, fun h => absurd h (Nat.lt_irrefl _)⟩
  · have hcs : [Value.slice a l c] = [.slice (some a') len cap] := hcs
    simp only [List.cons.injEq, and_true] at hcs
    cases hcs
    have each : ∀ i, ∃ z : St, z.Bd ∧ (i < l → w.cell? (a'.add (i * 5)) = some (.int .i64 z.k) ∧ w.cell? ((a'.add (i * 5)).add 1) = some (.int .i64 z.m) ∧ w.cell? ((a'.add (i * 5)).add 2) = some (.int .i64 z.s) ∧ w.cell? ((a'.add (i * 5)).add 3) = some (.int .i64 z.a) ∧ w.cell? ((a'.add (i * 5)).add 4) = some (.int .u64 z.q)) := by
      intro i
      by_cases hi : i < l
      · have hi' := hel i hi
        rw [List.getElem?_eq_getElem (by omega), show Try.prog.cellsOf 32 = 5 by kernel_rfl, Option.bind_eq_some_iff] at hi'
        obtain ⟨cs', hc', hy⟩ := hi'
        obtain ⟨z, hz, rfl⟩ := step_of hy
        obtain ⟨_, _, hcell⟩ := World.cells?_some hc'
        exact ⟨z, hz, fun _ => ⟨by have := hcell 0 (by omega); simpa [Addr.add] using this, hcell 1 (by omega), hcell 2 (by omega), hcell 3 (by omega), hcell 4 (by omega)⟩⟩
      · exact ⟨⟨0, 0, 0, 0, 0⟩, z0, fun h => absurd h hi⟩
    refine ⟨some a', l, c, fun i => Classical.choose (each i), rfl, hl, hm, fun i => (Classical.choose_spec (each i)).1, fun hn => ?_⟩
    obtain ⟨b, o, spot⟩ := a'
    have h0 := ((Classical.choose_spec (each 0)).2 hn).1
    have hspot : spot = none := by simpa [Addr.add] using World.cell?_spot h0
    subst hspot
    refine ⟨b, o, rfl, World.block_lt_of_cell? _ _ h0, fun i hi => ?_⟩
    have := (Classical.choose_spec (each i)).2 hi
    simpa only [add_plain] using this
end
end Go.Proofs.Ytjjojbmpjkcmaaa
