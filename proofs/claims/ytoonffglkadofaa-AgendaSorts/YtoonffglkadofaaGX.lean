/-
  A row of numbers, an event, and a script of steps, as they come in. No conditions.
-/
import Derived.Test.YtoonffglkadofaaOS
import Derived.Test.YtoonffglkadofaaG1
import Derived.Deep.Fields
import Derived.ChangeSlices
import Derived.OpenShut
import Derived.OwnWalk
namespace Go.Proofs.Ytoonffglkadofaa
open Go.ChangeShapes Go.WideShapes Go.RowKit Go.Joins Go.Deep
set_option linter.unusedVariables false
theorem Row.val {w : World} {ao : Option Addr} {n c : Nat} {zs : List Int} (h : Row .i64 w ao n c zs) (i : Nat) : -9223372036854775808 ≤ zs.getD i 0 ∧ zs.getD i 0 ≤ 9223372036854775807 := by
  have key : (Lit.int .i64 (zs.getD i 0)).wf = true := by
    by_cases hi : i < zs.length
    · rw [List.getD_eq_getElem?_getD, List.getElem?_eq_getElem hi]; exact h.wf _ (List.getElem_mem hi)
    · rw [List.getD_eq_getElem?_getD, List.getElem?_eq_none (by omega)]; rfl
  generalize zs.getD i 0 = x at key ⊢
  simp [Lit.wf, IntKind.min, IntKind.max, IntKind.signed, IntKind.bits] at key
  exact ⟨by omega, by omega⟩
structure Ev.Bd (x : Ev) : Prop where
  a : -9223372036854775808 ≤ x.a ∧ x.a ≤ 9223372036854775807
  k : -9223372036854775808 ≤ x.k ∧ x.k ≤ 9223372036854775807
  o : -9223372036854775808 ≤ x.o ∧ x.o ≤ 9223372036854775807
  s : 0 ≤ x.s ∧ x.s ≤ 18446744073709551615
/-- A step of a script. -/
structure Stp where
  k : Int
  x : Ev
  t : Int
structure Stp.Bd (z : Stp) : Prop where
  k : -9223372036854775808 ≤ z.k ∧ z.k ≤ 9223372036854775807
  x : z.x.Bd
  t : -9223372036854775808 ≤ z.t ∧ z.t ≤ 9223372036854775807
/-- A script in memory. -/
structure Stps (w : World) (ao : Option Addr) (n c : Nat) (Z : Nat → Stp) : Prop where
  cap : n ≤ c
  max : c ≤ maxLen
  bd : ∀ i, (Z i).Bd
  at' : 0 < n → ∃ b o, ao = some ⟨b, o, none⟩ ∧ b < w.heap.size ∧ ∀ i, i < n → w.cell? ⟨b, o + i * 6, none⟩ = some (.int .i64 (Z i).k) ∧ w.cell? ⟨b, o + i * 6 + 1, none⟩ = some (.int .i64 (Z i).x.a) ∧ w.cell? ⟨b, o + i * 6 + 2, none⟩ = some (.int .i64 (Z i).x.k) ∧ w.cell? ⟨b, o + i * 6 + 3, none⟩ = some (.int .i64 (Z i).x.o) ∧ w.cell? ⟨b, o + i * 6 + 4, none⟩ = some (.int .u64 (Z i).x.s) ∧ w.cell? ⟨b, o + i * 6 + 5, none⟩ = some (.int .i64 (Z i).t)
theorem Stps.below {w w1 : World} {ao : Option Addr} {n c : Nat} {Z : Nat → Stp} (h : Stps w ao n c Z) (hb : Below w.heap.size w w1) : Stps w1 ao n c Z := by
  refine ⟨h.cap, h.max, h.bd, fun hn => ?_⟩
  obtain ⟨b, o, e, hl, hc⟩ := h.at' hn
  refine ⟨b, o, e, Nat.lt_of_lt_of_le hl hb.size, fun i hi => ?_⟩
  obtain ⟨c0, c1, c2, c3, c4, c5⟩ := hc i hi
  exact ⟨(hb.cell (p := ⟨b, _, none⟩) hl).trans c0, (hb.cell (p := ⟨b, _, none⟩) hl).trans c1, (hb.cell (p := ⟨b, _, none⟩) hl).trans c2, (hb.cell (p := ⟨b, _, none⟩) hl).trans c3, (hb.cell (p := ⟨b, _, none⟩) hl).trans c4, (hb.cell (p := ⟨b, _, none⟩) hl).trans c5⟩
section
variable {H : Type} {enc : TypeId × Value → H} {w : World} {base : Nat} {spare : Nat → Bool} {held : Bool}
theorem open_rowi {r : Reach} {b0 : Nat} {v : Value} {d : DataW H} {p : List MemPlace} (hv : Value.okWide Try.prog w r b0 47 v) (h : DataW.Trod enc Try.prog w base spare held 47 v d p) :
    ∃ ao n c zs, v = .slice ao n c ∧ Row .i64 w ao n c zs := by
  obtain ⟨a, l, c, rfl⟩ := okWide_slice Try.underlying47 hv
  obtain ⟨fuel, hf⟩ := h
  exact row_of_trod Try.underlying47 Try.underlying3 (by kernel_rfl) (by simpa [Value.cells] using hf)
theorem open_event {r : Reach} {b0 : Nat} {v : Value} {d : DataW H} {p : List MemPlace} (hv : Value.okWide Try.prog w r b0 32 v) (h : DataW.Trod enc Try.prog w base spare held 32 v d p) :
    ∃ x : Ev, x.Bd ∧ v = .agg #[.int .i64 x.a, .int .i64 x.k, .int .i64 x.o, .int .u64 x.s] := by
  obtain ⟨v0, v1, v2, v3, y0, y1, y2, y3, n, rfl, _, _, h0, h1, h2, h3⟩ := open_agg4 Try.underlying32 (by kernel_rfl) (by kernel_rfl) hv h
  obtain ⟨a, e0, _, wa⟩ := DataW.trod_int Try.underlying3 h0
  obtain ⟨k, e1, _, wk⟩ := DataW.trod_int Try.underlying3 h1
  obtain ⟨o, e2, _, wo⟩ := DataW.trod_int Try.underlying3 h2
  obtain ⟨s, e3, _, ws⟩ := DataW.trod_int Try.underlying30 h3
  simp only [List.cons.injEq, and_true] at e0 e1 e2 e3
  subst e0 e1 e2 e3
  exact ⟨⟨a, k, o, s⟩, ⟨int_bd wa, int_bd wk, int_bd wo, word_bd ws⟩, rfl⟩
theorem list6 {cs : List Value} (h : cs.length = 6) : ∃ c0 c1 c2 c3 c4 c5, cs = [c0, c1, c2, c3, c4, c5] := by
  match cs, h with
  | [c0, c1, c2, c3, c4, c5], _ => exact ⟨c0, c1, c2, c3, c4, c5, rfl⟩
theorem step_of {fuel : Nat} {cs : List Value} {x : DataW H × List MemPlace} (h : DataW.trod enc Try.prog w base spare held fuel 34 cs = some x) :
    ∃ z : Stp, z.Bd ∧ cs = [.int .i64 z.k, .int .i64 z.x.a, .int .i64 z.x.k, .int .i64 z.x.o, .int .u64 z.x.s, .int .i64 z.t] := by
  obtain ⟨y0, y1, y2, n, _, hl, h0, h1, h2⟩ := trod_struct3 Try.underlying34 h
  have c1 : Try.prog.cellsOf 3 = 1 := by kernel_rfl
  have cu : Try.prog.cellsOf 30 = 1 := by kernel_rfl
  have c4 : Try.prog.cellsOf 32 = 4 := by kernel_rfl
  have c6 : Try.prog.cellsOf 34 = 6 := by kernel_rfl
  obtain ⟨v0, v1, v2, v3, v4, v5, rfl⟩ := list6 (hl.trans c6)
  simp only [c1, c4, List.drop, List.take] at h0 h1 h2
  obtain ⟨z0, z1, z2, z3, n', _, hl', g0, g1, g2, g3⟩ := trod_struct4 Try.underlying32 h1
  simp only [c1, cu, List.drop, List.take] at g0 g1 g2 g3
  obtain ⟨k, e0, _, wk⟩ := DataW.trod_int Try.underlying3 h0
  obtain ⟨t, e5, _, wt⟩ := DataW.trod_int Try.underlying3 h2
  obtain ⟨a, e1, _, wa⟩ := DataW.trod_int Try.underlying3 g0
  obtain ⟨kk, e2, _, wkk⟩ := DataW.trod_int Try.underlying3 g1
  obtain ⟨o, e3, _, wo⟩ := DataW.trod_int Try.underlying3 g2
  obtain ⟨s, e4, _, ws⟩ := DataW.trod_int Try.underlying30 g3
  simp only [List.cons.injEq, and_true] at e0 e1 e2 e3 e4 e5
  subst e0 e1 e2 e3 e4 e5
  exact ⟨⟨k, ⟨a, kk, o, s⟩, t⟩, ⟨int_bd wk, ⟨int_bd wa, int_bd wkk, int_bd wo, word_bd ws⟩, int_bd wt⟩, rfl⟩
theorem open_stps {r : Reach} {b0 : Nat} {v : Value} {d : DataW H} {p : List MemPlace} (hv : Value.okWide Try.prog w r b0 22 v) (h : DataW.Trod enc Try.prog w base spare held 22 v d p) :
    ∃ ao n c Z, v = .slice ao n c ∧ Stps w ao n c Z := by
  obtain ⟨a, l, c, rfl⟩ := okWide_slice Try.underlying22 hv
  obtain ⟨fuel, hf⟩ := h
  have z0 : Stp.Bd ⟨0, ⟨0, 0, 0, 0⟩, 0⟩ := ⟨by simp, ⟨by simp, by simp, by simp, by simp⟩, by simp⟩
  rcases DataW.trod_slice Try.underlying22 hf with ⟨hcs, _⟩ | ⟨a', len, cap, elems, rest, n, _, hcs, _, hb, hl, hm, hlen, hel, _, _⟩
  · have hcs : [Value.slice a l c] = [.slice none 0 0] := hcs
    simp only [List.cons.injEq, and_true] at hcs
    cases hcs
    exact ⟨none, 0, 0, fun _ => ⟨0, ⟨0, 0, 0, 0⟩, 0⟩, rfl, Nat.le_refl _, by unfold maxLen; omega, fun _ => z0, fun h => absurd h (Nat.lt_irrefl _)⟩
  · have hcs : [Value.slice a l c] = [.slice (some a') len cap] := hcs
    simp only [List.cons.injEq, and_true] at hcs
    cases hcs
    have each : ∀ i, ∃ z : Stp, z.Bd ∧ (i < l → w.cell? (a'.add (i * 6)) = some (.int .i64 z.k) ∧ w.cell? ((a'.add (i * 6)).add 1) = some (.int .i64 z.x.a) ∧ w.cell? ((a'.add (i * 6)).add 2) = some (.int .i64 z.x.k) ∧ w.cell? ((a'.add (i * 6)).add 3) = some (.int .i64 z.x.o) ∧ w.cell? ((a'.add (i * 6)).add 4) = some (.int .u64 z.x.s) ∧ w.cell? ((a'.add (i * 6)).add 5) = some (.int .i64 z.t)) := by
      intro i
      by_cases hi : i < l
      · have hi' := hel i hi
        rw [List.getElem?_eq_getElem (by omega), show Try.prog.cellsOf 34 = 6 by kernel_rfl, Option.bind_eq_some_iff] at hi'
        obtain ⟨cs', hc', hy⟩ := hi'
        obtain ⟨z, hz, rfl⟩ := step_of hy
        obtain ⟨_, _, hcell⟩ := World.cells?_some hc'
        exact ⟨z, hz, fun _ => ⟨by have := hcell 0 (by omega); simpa [Addr.add] using this, hcell 1 (by omega), hcell 2 (by omega), hcell 3 (by omega), hcell 4 (by omega), hcell 5 (by omega)⟩⟩
      · exact ⟨⟨0, ⟨0, 0, 0, 0⟩, 0⟩, z0, fun h => absurd h hi⟩
    refine ⟨some a', l, c, fun i => Classical.choose (each i), rfl, hl, hm, fun i => (Classical.choose_spec (each i)).1, fun hn => ?_⟩
    obtain ⟨b, o, spot⟩ := a'
    have h0 := ((Classical.choose_spec (each 0)).2 hn).1
    have hspot : spot = none := by simpa [Addr.add] using World.cell?_spot h0
    subst hspot
    refine ⟨b, o, rfl, World.block_lt_of_cell? _ _ h0, fun i hi => ?_⟩
    have := (Classical.choose_spec (each i)).2 hi
    simpa only [add_plain] using this
end
theorem info_bool : (Try.prog.info? 4).map (fun i => (i.zero, i.size, i.bytes)) = some (some (.bool false), 1, 1) := by kernel_rfl
end Go.Proofs.Ytoonffglkadofaa
