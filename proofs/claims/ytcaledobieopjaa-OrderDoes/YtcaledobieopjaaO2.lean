/-
  The program's table of six orders. No conditions but the numbers' own ranges.
-/
import Derived.Test.YtcaledobieopjaaO1
import Derived.Test.YtcaledobieopjaaT4
import Derived.Test.YtcaledobieopjaaProg
import Derived.Deep.DeepCutAuto
import Derived.WalkMore
import Derived.Deep.WholeRow
namespace Go.Proofs.Ytcaledobieopjaa
open Go.RowKit
set_option linter.unusedVariables false
/-- A whole array into the variable that was made last. -/
theorem wpList_store_new {P : Program} (w0 : World) {ops : Array Oper} {rest : List Oper} {o : Oper} {a : Act} {Q : Exit → Act → World → Prop} (hgd : o.guard = none) (t : TypeId) (p x : Operand) (ho : o.op = .store t p x)
    (c c' : Array Value) (hp : a.eval p = .pointer (some ⟨w0.heap.size, 0, none⟩)) (hx : a.eval x = .agg c') (hi : (P.info? t).map (·.size) = some c'.size) (hs : c.size = c'.size) (h1 : c'.all (·.oneCell') = true)
    (h : wpList P ops Q rest (a.put o.dst undef) (w0.alloc (.cells c' t))) : wpList P ops Q (o :: rest) a (w0.alloc (.cells c t)) := by
  refine wpList_plain hgd fun K hK' => ?_
  have hrun := run_storeAt_new (P := P) w0 t c c' hi hs h1
  unfold Oper.wp
  simp [execOp, ho, hp, hx, hrun, Result.andThen]
  exact hK' _ _ h
/-- An array built of parts, its cells told. -/
theorem wpList_build_as {P : Program} {ops : Array Oper} {rest : List Oper} {o : Oper} {a : Act} {w : World} {Q : Exit → Act → World → Prop} (hg : o.guard = none) (t : TypeId) (parts : Array (Nat × Operand)) (ho : o.op = .build t parts)
    (cells : Array Value) (hf : P.built t (parts.map fun (i, x) => (i, a.eval x)).toList = some cells)
    (h : wpList P ops Q rest (a.put o.dst (.agg cells)) w) : wpList P ops Q (o :: rest) a w :=
  wpList_build hg t parts ho (by rw [hf]; rfl) (by rw [hf]; exact h)
def foursV : Array Value := #[.bool true, .bool true, .bool false, .bool false, .bool true, .bool false, .bool true, .bool false, .bool true, .bool false, .bool false, .bool true, .bool false, .bool true, .bool true, .bool false, .bool false, .bool true, .bool false, .bool true, .bool false, .bool false, .bool true, .bool true]
def zeros24 : Array Value := #[.bool false, .bool false, .bool false, .bool false, .bool false, .bool false, .bool false, .bool false, .bool false, .bool false, .bool false, .bool false, .bool false, .bool false, .bool false, .bool false, .bool false, .bool false, .bool false, .bool false, .bool false, .bool false, .bool false, .bool false]
theorem fours_one : foursV.all (·.oneCell') = true := by kernel_rfl
theorem fours_size : (Try.prog.info? 51).map (·.size) = some foursV.size := by kernel_rfl
set_option maxHeartbeats 1000000 in
set_option maxRecDepth 100000 in
theorem fours_any (w : World) : Calls Try.prog 23 #[] w fun e w' => e = .returned (.agg foursV) ∧ Below w.heap.size w w' := by
  go_enter Try.func23, Try.ntmps23
  go_wp2_with (first
    | (refine wpList_build_as rfl 51 #[(0, .tmp 1), (1, .tmp 2), (2, .tmp 3), (3, .tmp 4), (4, .tmp 5), (5, .tmp 6)] rfl foursV (by kernel_rfl) ?_)
    | (refine wpList_store_new w rfl 51 (.tmp 0) (.tmp 7) rfl zeros24 foursV rfl rfl fours_size rfl fours_one ?_))
  have hr := results_cell_row (P := Try.prog) (fn := Try.f23) (p := 0) (ty := 51) rfl (#[.pointer (some ⟨w.heap.size, 0, none⟩), .agg #[.bool true, .bool true, .bool false, .bool false], .agg #[.bool true, .bool false, .bool true, .bool false], .agg #[.bool true, .bool false, .bool false, .bool true], .agg #[.bool false, .bool true, .bool true, .bool false], .agg #[.bool false, .bool true, .bool false, .bool true], .agg #[.bool false, .bool false, .bool true, .bool true], .agg foursV]) (w.alloc (.cells foursV 51)) w.heap.size 51 foursV (0, 0) _ rfl (heap_alloc_last w _) Try.underlying51 rfl fours_size
  exact bodyPost_ret hr rfl ⟨rfl, by go_grown⟩
end Go.Proofs.Ytcaledobieopjaa
