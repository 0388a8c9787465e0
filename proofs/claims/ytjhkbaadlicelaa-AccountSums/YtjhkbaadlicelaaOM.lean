/-
  An account, a step and a script, as they come in. No conditions.
-/
import Derived.Test.YtjhkbaadlicelaaU2
import Derived.Test.YtjhkbaadlicelaaProg
import Derived.Lib.SmallJoins
import Derived.Deep.Fields
import Derived.ChangeSlices
import Derived.OpenShut
namespace Go.Proofs.Ytjhkbaadlicelaa
open Go.ChangeShapes Go.WideShapes Go.RowKit Go.Joins Go.Deep
set_option linter.unusedVariables false
section
variable {H : Type} {enc : TypeId × Value → H} {w : World} {base : Nat} {spare : Nat → Bool} {held : Bool}
theorem map_of : ∀ l : List Value, (∀ i, i < l.length → ∃ z : Int, l[i]? = some (.int .i64 z) ∧ (Lit.int .i64 z).wf = true) → ∃ zs : List Int, l = zs.map (Value.int .i64) ∧ ∀ z ∈ zs, (Lit.int .i64 z).wf = true
  | [], _ => ⟨[], rfl, fun z h => (List.not_mem_nil h).elim⟩
  | v :: l, h => by
    obtain ⟨z, hz, wz⟩ := h 0 (by simp)
    obtain ⟨zs, rfl, hw⟩ := map_of l (fun i hi => by have := h (i + 1) (by simpa using hi); simpa using this)
    simp only [List.getElem?_cons_zero, Option.some.injEq] at hz
    subst hz
    exact ⟨z :: zs, rfl, fun y hy => by rcases List.mem_cons.1 hy with rfl | hy; exact wz; exact hw y hy⟩
theorem ints_of {P : Program} {t it : TypeId} {fs : Array Field} {fuel : Nat} {cs : List Value} {x : DataW H × List MemPlace} (hs : P.underlying t = some (.struct fs)) (hone : oneCellFields P fs = true) (hC : P.cellsOf t = fs.size)
    (hi : fs.all (fun f => f.type == it) = true) (hu : P.underlying it = some (.int .i64)) (h : DataW.trod enc P w base spare held fuel t cs = some x) :
    ∃ zs : List Int, cs = zs.map (Value.int .i64) ∧ zs.length = fs.size ∧ ∀ z ∈ zs, (Lit.int .i64 z).wf = true := by
  obtain ⟨xs, n, _, _, hl, hlen, hf⟩ := DataW.trod_struct hs h
  rw [hC] at hl
  obtain ⟨zs, rfl, hw⟩ := map_of cs (fun i hi' => by
    have hi2 : i < fs.size := by omega
    have hfi : fs[i]? = some fs[i] := Array.getElem?_eq_getElem hi2
    obtain ⟨o, k⟩ := hone_of hone i _ hfi
    have ht : fs[i].type = it := by have := Array.all_eq_true.1 hi i hi2; simpa using this
    have g := hf i _ hfi
    rw [o, k, ht, take1_drop _ _ undef (by omega), List.getElem?_eq_getElem (by omega)] at g
    obtain ⟨z, e, _, wz⟩ := DataW.trod_int hu g
    refine ⟨z, ?_, wz⟩
    simp only [List.cons.injEq, and_true] at e
    rw [List.getElem?_eq_getElem hi', ← e]
    simp [List.getD, hi'])
  exact ⟨zs, rfl, by simpa using hl, hw⟩
theorem i64_bd {x : Int} (h : (Lit.int .i64 x).wf = true) : -9223372036854775808 ≤ x ∧ x ≤ 9223372036854775807 := bounds_i64 h
theorem open_mi {r : Reach} {b0 : Nat} {v : Value} {d : DataW H} {p : List MemPlace} (hv : Value.okWide Try.prog w r b0 23 v) (h : DataW.Trod enc Try.prog w base spare held 23 v d p) :
    ∃ m : Mi, v = .agg #[.int .i64 m.id, .int .i64 m.fr, .int .i64 m.to, .int .i64 m.se, .int .i64 m.ac, .int .i64 m.lo, .int .i64 m.pa, .int .i64 m.hi, .int .i64 m.dr, .int .i64 m.n, .int .i64 m.st, .int .i64 m.sr, .int .i64 m.tt, .int .i64 m.tr, .int .i64 m.rr] := by
  obtain ⟨cs, rfl, hsz⟩ := okWide_struct Try.underlying23 hv
  obtain ⟨fuel, hf⟩ := h
  obtain ⟨zs, e, hl, hw⟩ := ints_of Try.underlying23 (by kernel_rfl) (by kernel_rfl) (by kernel_rfl) Try.underlying3 hf
  obtain ⟨l⟩ := cs
  simp only [Value.cells] at e
  subst e
  match zs, hl with
  | [z0, z1, z2, z3, z4, z5, z6, z7, z8, z9, z10, z11, z12, z13, z14], _ => exact ⟨⟨z0, z1, z2, z3, z4, z5, z6, z7, z8, z9, z10, z11, z12, z13, z14⟩, rfl⟩
theorem open_step {r : Reach} {b0 : Nat} {v : Value} {d : DataW H} {p : List MemPlace} (hv : Value.okWide Try.prog w r b0 34 v) (h : DataW.Trod enc Try.prog w base spare held 34 v d p) :
    ∃ k s x a : Int, v = .agg #[.int .i64 k, .int .i64 s, .int .i64 x, .int .i64 a] ∧ (-9223372036854775808 ≤ k ∧ k ≤ 9223372036854775807) ∧ (-9223372036854775808 ≤ s ∧ s ≤ 9223372036854775807) ∧ (-9223372036854775808 ≤ x ∧ x ≤ 9223372036854775807) ∧ (-9223372036854775808 ≤ a ∧ a ≤ 9223372036854775807) := by
  obtain ⟨cs, rfl, hsz⟩ := okWide_struct Try.underlying34 hv
  obtain ⟨fuel, hf⟩ := h
  obtain ⟨zs, e, hl, hw⟩ := ints_of Try.underlying34 (by kernel_rfl) (by kernel_rfl) (by kernel_rfl) Try.underlying3 hf
  obtain ⟨l⟩ := cs
  simp only [Value.cells] at e
  subst e
  match zs, hl, hw with
  | [k, s, x, a], _, hw => exact ⟨k, s, x, a, rfl, i64_bd (hw _ (by simp)), i64_bd (hw _ (by simp)), i64_bd (hw _ (by simp)), i64_bd (hw _ (by simp))⟩
/-- A step: four numbers. -/
structure St where
  k : Int
  s : Int
  x : Int
  a : Int
structure St.Bd (z : St) : Prop where
  k : -9223372036854775808 ≤ z.k ∧ z.k ≤ 9223372036854775807
  s : -9223372036854775808 ≤ z.s ∧ z.s ≤ 9223372036854775807
  x : -9223372036854775808 ≤ z.x ∧ z.x ≤ 9223372036854775807
  a : -9223372036854775808 ≤ z.a ∧ z.a ≤ 9223372036854775807
/-- A script in memory. -/
structure Steps (w : World) (ao : Option Addr) (n c : Nat) (Z : Nat → St) : Prop where
  cap : n ≤ c
  max : c ≤ maxLen
  bd : ∀ i, (Z i).Bd
  at' : 0 < n → ∃ b o, ao = some ⟨b, o, none⟩ ∧ b < w.heap.size ∧ ∀ i, i < n → w.cell? ⟨b, o + i * 4, none⟩ = some (.int .i64 (Z i).k) ∧ w.cell? ⟨b, o + i * 4 + 1, none⟩ = some (.int .i64 (Z i).s) ∧ w.cell? ⟨b, o + i * 4 + 2, none⟩ = some (.int .i64 (Z i).x) ∧ w.cell? ⟨b, o + i * 4 + 3, none⟩ = some (.int .i64 (Z i).a)
theorem Steps.below {w w1 : World} {ao : Option Addr} {n c : Nat} {Z : Nat → St} (h : Steps w ao n c Z) (hb : Below w.heap.size w w1) : Steps w1 ao n c Z := by
  refine ⟨h.cap, h.max, h.bd, fun hn => ?_⟩
  obtain ⟨b, o, e, hl, hc⟩ := h.at' hn
  refine ⟨b, o, e, Nat.lt_of_lt_of_le hl hb.size, fun i hi => ?_⟩
  obtain ⟨c0, c1, c2, c3⟩ := hc i hi
  exact ⟨(hb.cell (p := ⟨b, _, none⟩) hl).trans c0, (hb.cell (p := ⟨b, _, none⟩) hl).trans c1, (hb.cell (p := ⟨b, _, none⟩) hl).trans c2, (hb.cell (p := ⟨b, _, none⟩) hl).trans c3⟩
theorem open_script {r : Reach} {b0 : Nat} {v : Value} {d : DataW H} {p : List MemPlace} (hv : Value.okWide Try.prog w r b0 32 v) (h : DataW.Trod enc Try.prog w base spare held 32 v d p) :
    ∃ ao n c Z, v = .slice ao n c ∧ Steps w ao n c Z := by
  obtain ⟨a, l, c, rfl⟩ := okWide_slice Try.underlying32 hv
  obtain ⟨fuel, hf⟩ := h
  have z0 : St.Bd ⟨0, 0, 0, 0⟩ := ⟨by simp, by simp, by simp, by simp⟩
  rcases DataW.trod_slice Try.underlying32 hf with ⟨hcs, _⟩ | ⟨a', len, cap, elems, rest, n, _, hcs, _, hb, hl, hm, hlen, hel, _, _⟩
  · have hcs : [Value.slice a l c] = [.slice none 0 0] := hcs
    simp only [List.cons.injEq, and_true] at hcs
    cases hcs
    exact ⟨none, 0, 0, fun _ => ⟨0, 0, 0, 0⟩, rfl, Nat.le_refl _, by unfold maxLen; omega, fun _ => z0, fun h => absurd h (Nat.lt_irrefl _)⟩
  · have hcs : [Value.slice a l c] = [.slice (some a') len cap] := hcs
    simp only [List.cons.injEq, and_true] at hcs
    cases hcs
    have each : ∀ i, ∃ z : St, z.Bd ∧ (i < l → w.cell? (a'.add (i * 4)) = some (.int .i64 z.k) ∧ w.cell? ((a'.add (i * 4)).add 1) = some (.int .i64 z.s) ∧ w.cell? ((a'.add (i * 4)).add 2) = some (.int .i64 z.x) ∧ w.cell? ((a'.add (i * 4)).add 3) = some (.int .i64 z.a)) := by
      intro i
      by_cases hi : i < l
      · have hi' := hel i hi
        rw [List.getElem?_eq_getElem (by omega), show Try.prog.cellsOf 34 = 4 by kernel_rfl, Option.bind_eq_some_iff] at hi'
        obtain ⟨cs', hc', hy⟩ := hi'
        obtain ⟨zs, rfl, hl4, hw⟩ := ints_of Try.underlying34 (by kernel_rfl) (by kernel_rfl) (by kernel_rfl) Try.underlying3 hy
        obtain ⟨_, _, hcell⟩ := World.cells?_some hc'
        match zs, hl4, hw, hcell with
        | [k, s, x, b], _, hw, hcell =>
          exact ⟨⟨k, s, x, b⟩, ⟨i64_bd (hw _ (by simp)), i64_bd (hw _ (by simp)), i64_bd (hw _ (by simp)), i64_bd (hw _ (by simp))⟩, fun _ => ⟨by have := hcell 0 (by omega); simpa [Addr.add] using this, hcell 1 (by omega), hcell 2 (by omega), hcell 3 (by omega)⟩⟩
      · exact ⟨⟨0, 0, 0, 0⟩, z0, fun h => absurd h hi⟩
    refine ⟨some a', l, c, fun i => Classical.choose (each i), rfl, hl, hm, fun i => (Classical.choose_spec (each i)).1, fun hn => ?_⟩
    obtain ⟨b, o, spot⟩ := a'
    have h0 := ((Classical.choose_spec (each 0)).2 hn).1
    have hspot : spot = none := by simpa [Addr.add] using World.cell?_spot h0
    subst hspot
    refine ⟨b, o, rfl, World.block_lt_of_cell? _ _ h0, fun i hi => ?_⟩
    have := (Classical.choose_spec (each i)).2 hi
    simpa only [add_plain] using this
end
end Go.Proofs.Ytjhkbaadlicelaa
