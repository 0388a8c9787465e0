/-
  A script of steps of four, as they come in. No conditions.
-/
import Derived.Test.YtpaalpnoppblaaaK
import Derived.Test.YtpaalpnoppblaaaProg
import Derived.Lib.SmallJoins
import Derived.Deep.Fields
import Derived.ChangeSlices
import Derived.OpenShut
namespace Go.Proofs.Ytpaalpnoppblaaa
open Go.ChangeShapes Go.WideShapes Go.RowKit Go.Joins Go.Deep
set_option linter.unusedVariables false
set_option maxRecDepth 8000
/-- A step: four numbers. -/
structure St where
  k : Int
  s : Int
  a : Int
  q : Int
structure St.Bd (z : St) : Prop where
  k : -9223372036854775808 ≤ z.k ∧ z.k ≤ 9223372036854775807
  s : -9223372036854775808 ≤ z.s ∧ z.s ≤ 9223372036854775807
  a : -9223372036854775808 ≤ z.a ∧ z.a ≤ 9223372036854775807
  q : 0 ≤ z.q ∧ z.q ≤ 18446744073709551615
/-- A script in memory. -/
structure Steps (w : World) (ao : Option Addr) (n c : Nat) (Z : Nat → St) : Prop where
  cap : n ≤ c
  max : c ≤ maxLen
  bd : ∀ i, (Z i).Bd
  at' : 0 < n → ∃ b o, ao = some ⟨b, o, none⟩ ∧ b < w.heap.size ∧ ∀ i, i < n → w.cell? ⟨b, o + i * 4, none⟩ = some (.int .i64 (Z i).k) ∧ w.cell? ⟨b, o + i * 4 + 1, none⟩ = some (.int .i64 (Z i).s) ∧ w.cell? ⟨b, o + i * 4 + 2, none⟩ = some (.int .i64 (Z i).a) ∧ w.cell? ⟨b, o + i * 4 + 3, none⟩ = some (.int .u64 (Z i).q)
theorem Steps.below {w w1 : World} {ao : Option Addr} {n c : Nat} {Z : Nat → St} (h : Steps w ao n c Z) (hb : Below w.heap.size w w1) : Steps w1 ao n c Z := by
  refine ⟨h.cap, h.max, h.bd, fun hn => ?_⟩
  obtain ⟨b, o, e, hl, hc⟩ := h.at' hn
  refine ⟨b, o, e, Nat.lt_of_lt_of_le hl hb.size, fun i hi => ?_⟩
  obtain ⟨c0, c1, c2, c3⟩ := hc i hi
  exact ⟨(hb.cell (p := ⟨b, _, none⟩) hl).trans c0, (hb.cell (p := ⟨b, _, none⟩) hl).trans c1, (hb.cell (p := ⟨b, _, none⟩) hl).trans c2, (hb.cell (p := ⟨b, _, none⟩) hl).trans c3⟩
section
variable {H : Type} {enc : TypeId × Value → H} {w : World} {base : Nat} {spare : Nat → Bool} {held : Bool}
theorem word_bd {x : Int} (h : (Lit.int .u64 x).wf = true) : 0 ≤ x ∧ x ≤ 18446744073709551615 := bounds_u64 h
theorem int_bd {x : Int} (h : (Lit.int .i64 x).wf = true) : -9223372036854775808 ≤ x ∧ x ≤ 9223372036854775807 := bounds_i64 h
theorem list4 {cs : List Value} (h : cs.length = 4) : ∃ c0 c1 c2 c3, cs = [c0, c1, c2, c3] := by
  match cs, h with
  | [c0, c1, c2, c3], _ => exact ⟨c0, c1, c2, c3, rfl⟩
theorem step_of {fuel : Nat} {cs : List Value} {x : DataW H × List MemPlace} (h : DataW.trod enc Try.prog w base spare held fuel 34 cs = some x) :
    ∃ z : St, z.Bd ∧ cs = [.int .i64 z.k, .int .i64 z.s, .int .i64 z.a, .int .u64 z.q] := by
  obtain ⟨y0, y1, y2, y3, n, _, hl, h0, h1, h2, h3⟩ := trod_struct4 Try.underlying34 h
  have c1 : Try.prog.cellsOf 3 = 1 := by kernel_rfl
  have c2 : Try.prog.cellsOf 22 = 1 := by kernel_rfl
  have c5 : Try.prog.cellsOf 34 = 4 := by kernel_rfl
  obtain ⟨v0, v1, v2, v3, rfl⟩ := list4 (hl.trans c5)
  simp only [c1, c2, List.drop, List.take] at h0 h1 h2 h3
  obtain ⟨k, e0, _, wk⟩ := DataW.trod_int Try.underlying3 h0
  obtain ⟨s, e1, _, ws⟩ := DataW.trod_int Try.underlying3 h1
  obtain ⟨a, e2, _, wa⟩ := DataW.trod_int Try.underlying3 h2
  obtain ⟨q, e3, _, wq⟩ := DataW.trod_int Try.underlying22 h3
  simp only [List.cons.injEq, and_true] at e0 e1 e2 e3
  subst e0 e1 e2 e3
  exact ⟨⟨k, s, a, q⟩, ⟨int_bd wk, int_bd ws, int_bd wa, word_bd wq⟩, rfl⟩
theorem open_steps {r : Reach} {b0 : Nat} {v : Value} {d : DataW H} {p : List MemPlace} (hv : Value.okWide Try.prog w r b0 23 v) (h : DataW.Trod enc Try.prog w base spare held 23 v d p) :
    ∃ ao n c Z, v = .slice ao n c ∧ Steps w ao n c Z := by
  obtain ⟨a, l, c, rfl⟩ := okWide_slice Try.underlying23 hv
  obtain ⟨fuel, hf⟩ := h
  have z0 : St.Bd ⟨0, 0, 0, 0⟩ := ⟨by simp, by simp, by simp, by simp⟩
  rcases DataW.trod_slice Try.underlying23 hf with ⟨hcs, _⟩ | ⟨a', len, cap, elems, rest, n, _, hcs, _, hb, hl, hm, hlen, hel, _, _⟩
  · have hcs : [Value.slice a l c] = [.slice none 0 0] := hcs
    simp only [List.cons.injEq, and_true] at hcs
    cases hcs
    exact ⟨none, 0, 0, fun _ => ⟨0, 0, 0, 0⟩, rfl, Nat.le_refl _, by unfold maxLen; omega, fun _ => z0, fun h => absurd h (Nat.lt_irrefl _)⟩
  · have hcs : [Value.slice a l c] = [.slice (some a') len cap] := hcs
    simp only [List.cons.injEq, and_true] at hcs
    cases hcs
    have each : ∀ i, ∃ z : St, z.Bd ∧ (i < l → w.cell? (a'.add (i * 4)) = some (.int .i64 z.k) ∧ w.cell? ((a'.add (i * 4)).add 1) = some (.int .i64 z.s) ∧ w.cell? ((a'.add (i * 4)).add 2) = some (.int .i64 z.a) ∧ w.cell? ((a'.add (i * 4)).add 3) = some (.int .u64 z.q)) := by
      intro i
      by_cases hi : i < l
      · have hi' := hel i hi
        rw [List.getElem?_eq_getElem (by omega), show Try.prog.cellsOf 34 = 4 by kernel_rfl, Option.bind_eq_some_iff] at hi'
        obtain ⟨cs', hc', hy⟩ := hi'
        obtain ⟨z, hz, rfl⟩ := step_of hy
        obtain ⟨_, _, hcell⟩ := World.cells?_some hc'
        exact ⟨z, hz, fun _ => ⟨by have := hcell 0 (by omega); simpa [Addr.add] using this, hcell 1 (by omega), hcell 2 (by omega), hcell 3 (by omega)⟩⟩
      · exact ⟨⟨0, 0, 0, 0⟩, z0, fun h => absurd h hi⟩
    refine ⟨some a', l, c, fun i => Classical.choose (each i), rfl, hl, hm, fun i => (Classical.choose_spec (each i)).1, fun hn => ?_⟩
    obtain ⟨b, o, spot⟩ := a'
    have h0 := ((Classical.choose_spec (each 0)).2 hn).1
    have hspot : spot = none := by simpa [Addr.add] using World.cell?_spot h0
    subst hspot
    refine ⟨b, o, rfl, World.block_lt_of_cell? _ _ h0, fun i hi => ?_⟩
    have := (Classical.choose_spec (each i)).2 hi
    simpa only [add_plain] using this
end
end Go.Proofs.Ytpaalpnoppblaaa
