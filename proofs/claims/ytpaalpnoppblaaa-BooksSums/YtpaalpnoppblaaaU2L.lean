/-
  A whole account out of and into memory, in one step; two accounts compared; a result that is one. No conditions.
-/
import Derived.Test.YtpaalpnoppblaaaProg
import Derived.Test.YtpaalpnoppblaaaU2
import Derived.Deep.MidRow
import Derived.Laws.StructEq
import Derived.Laws.ResultCell
import Derived.BigFrame
namespace Go.Proofs.Ytpaalpnoppblaaa
open Go.RowKit
set_option linter.unusedVariables false
/-- The fifteen cells, as a list. -/
def listM (m : Mi) : List Value := [.int .i64 m.id, .int .i64 m.fr, .int .i64 m.to, .int .i64 m.se, .int .i64 m.ac, .int .i64 m.lo, .int .i64 m.pa, .int .i64 m.hi, .int .i64 m.dr, .int .i64 m.n, .int .i64 m.st, .int .i64 m.sr, .int .i64 m.tt, .int .i64 m.tr, .int .i64 m.rr]
/-- A type of fifteen numbers. -/
structure MiT (t : TypeId) : Prop where
  row : ∃ d, Try.prog.underlying t = some d ∧ d.isRow = true
  size : (Try.prog.info? t).map (·.size) = some 15
theorem mit63 : MiT 63 := ⟨⟨_, Try.underlying63, rfl⟩, by kernel_rfl⟩
theorem mit89 : MiT 89 := ⟨⟨_, Try.underlying89, rfl⟩, by kernel_rfl⟩
theorem mit109 : MiT 109 := ⟨⟨_, Try.underlying109, rfl⟩, by kernel_rfl⟩
theorem AtM.range {w : World} {b : Nat} {m : Mi} (h : AtM w b m) : w.rangeAt b 0 (listM m) := by
  intro j v hv
  have hj : j < 15 := by have := (List.getElem?_eq_some_iff.1 hv).1; simpa [listM] using this
  match j, hj, hv with
  | 0, _, hv => cases (show some (Value.int .i64 m.id) = some v from hv); exact h.c0
  | 1, _, hv => cases (show some (Value.int .i64 m.fr) = some v from hv); exact h.c1
  | 2, _, hv => cases (show some (Value.int .i64 m.to) = some v from hv); exact h.c2
  | 3, _, hv => cases (show some (Value.int .i64 m.se) = some v from hv); exact h.c3
  | 4, _, hv => cases (show some (Value.int .i64 m.ac) = some v from hv); exact h.c4
  | 5, _, hv => cases (show some (Value.int .i64 m.lo) = some v from hv); exact h.c5
  | 6, _, hv => cases (show some (Value.int .i64 m.pa) = some v from hv); exact h.c6
  | 7, _, hv => cases (show some (Value.int .i64 m.hi) = some v from hv); exact h.c7
  | 8, _, hv => cases (show some (Value.int .i64 m.dr) = some v from hv); exact h.c8
  | 9, _, hv => cases (show some (Value.int .i64 m.n) = some v from hv); exact h.c9
  | 10, _, hv => cases (show some (Value.int .i64 m.st) = some v from hv); exact h.c10
  | 11, _, hv => cases (show some (Value.int .i64 m.sr) = some v from hv); exact h.c11
  | 12, _, hv => cases (show some (Value.int .i64 m.tt) = some v from hv); exact h.c12
  | 13, _, hv => cases (show some (Value.int .i64 m.tr) = some v from hv); exact h.c13
  | 14, _, hv => cases (show some (Value.int .i64 m.rr) = some v from hv); exact h.c14
theorem AtM.there {w : World} {b : Nat} {m : Mi} (h : AtM w b m) : w.there b 0 15 := by
  intro j hj
  refine ⟨?_, h.f _⟩
  match j, hj with
  | 0, _ => rw [show (0 : Nat) + 0 = 0 from rfl, h.c0]; rfl
  | 1, _ => rw [show (0 : Nat) + 1 = 1 from rfl, h.c1]; rfl
  | 2, _ => rw [show (0 : Nat) + 2 = 2 from rfl, h.c2]; rfl
  | 3, _ => rw [show (0 : Nat) + 3 = 3 from rfl, h.c3]; rfl
  | 4, _ => rw [show (0 : Nat) + 4 = 4 from rfl, h.c4]; rfl
  | 5, _ => rw [show (0 : Nat) + 5 = 5 from rfl, h.c5]; rfl
  | 6, _ => rw [show (0 : Nat) + 6 = 6 from rfl, h.c6]; rfl
  | 7, _ => rw [show (0 : Nat) + 7 = 7 from rfl, h.c7]; rfl
  | 8, _ => rw [show (0 : Nat) + 8 = 8 from rfl, h.c8]; rfl
  | 9, _ => rw [show (0 : Nat) + 9 = 9 from rfl, h.c9]; rfl
  | 10, _ => rw [show (0 : Nat) + 10 = 10 from rfl, h.c10]; rfl
  | 11, _ => rw [show (0 : Nat) + 11 = 11 from rfl, h.c11]; rfl
  | 12, _ => rw [show (0 : Nat) + 12 = 12 from rfl, h.c12]; rfl
  | 13, _ => rw [show (0 : Nat) + 13 = 13 from rfl, h.c13]; rfl
  | 14, _ => rw [show (0 : Nat) + 14 = 14 from rfl, h.c14]; rfl
/-- A whole account put into a block. -/
def _root_.Go.World.putM (w : World) (b : Nat) (m : Mi) : World := w.setCells b 0 (listM m)
theorem putM_eq (w : World) (b : Nat) (x : Mi) : w.putM b x = (((((((((((((((w.setCell ⟨b, 0, none⟩ (.int .i64 x.id)).setCell ⟨b, 1, none⟩ (.int .i64 x.fr)).setCell ⟨b, 2, none⟩ (.int .i64 x.to)).setCell ⟨b, 3, none⟩ (.int .i64 x.se)).setCell ⟨b, 4, none⟩ (.int .i64 x.ac)).setCell ⟨b, 5, none⟩ (.int .i64 x.lo)).setCell ⟨b, 6, none⟩ (.int .i64 x.pa)).setCell ⟨b, 7, none⟩ (.int .i64 x.hi)).setCell ⟨b, 8, none⟩ (.int .i64 x.dr)).setCell ⟨b, 9, none⟩ (.int .i64 x.n)).setCell ⟨b, 10, none⟩ (.int .i64 x.st)).setCell ⟨b, 11, none⟩ (.int .i64 x.sr)).setCell ⟨b, 12, none⟩ (.int .i64 x.tt)).setCell ⟨b, 13, none⟩ (.int .i64 x.tr)).setCell ⟨b, 14, none⟩ (.int .i64 x.rr)) := rfl
theorem AtM.putM {w : World} {b : Nat} {m : Mi} (h : AtM w b m) (x : Mi) : AtM (w.putM b x) b x := by rw [putM_eq]; exact h.put x
theorem AtM.putM_other {w : World} {c : Nat} {m : Mi} (h : AtM w c m) {b : Nat} (hc : b ≠ c) (x : Mi) : AtM (w.putM b x) c m := by rw [putM_eq]; exact h.others hc x
theorem putM_size (w : World) (b : Nat) (x : Mi) : (w.putM b x).heap.size = w.heap.size := by rw [putM_eq]; simp only [World.size_setCell]
theorem Below.putM {B : Nat} {W w : World} (h : Below B W w) {b : Nat} (hb : B ≤ b) (x : Mi) : Below B W (w.putM b x) := by
  rw [putM_eq]
  exact (((((((((((((((h.setCell hb _).setCell hb _).setCell hb _).setCell hb _).setCell hb _).setCell hb _).setCell hb _).setCell hb _).setCell hb _).setCell hb _).setCell hb _).setCell hb _).setCell hb _).setCell hb _).setCell hb _)
/-- The load. -/
theorem wpList_ldM {ops : Array Oper} {rest : List Oper} {op : Oper} {a : Act} {w : World} {Q : Exit → Act → World → Prop} {b : Nat} {m : Mi} {ty : TypeId} {x : Operand} (ho : op.op = .load ty x) (hw : Region.wanted op (yielded ops a.tmps) = true)
    (hx : a.eval x = .pointer (some ⟨b, 0, none⟩)) (ht : MiT ty) (h : AtM w b m) (hk : wpList Try.prog ops Q rest (a.put op.dst (.agg #[.int .i64 m.id, .int .i64 m.fr, .int .i64 m.to, .int .i64 m.se, .int .i64 m.ac, .int .i64 m.lo, .int .i64 m.pa, .int .i64 m.hi, .int .i64 m.dr, .int .i64 m.n, .int .i64 m.st, .int .i64 m.sr, .int .i64 m.tt, .int .i64 m.tr, .int .i64 m.rr])) w) : wpList Try.prog ops Q (op :: rest) a w := by
  obtain ⟨⟨d, hu, hd⟩, hs⟩ := ht
  exact BigFrame.wpList_want hw fun _ hK => wp_load_mid ty x ho b 0 hx (listM m) d h.range hu hd hs (hK _ _ hk)
/-- The store. -/
theorem wpList_stM {ops : Array Oper} {rest : List Oper} {op : Oper} {a : Act} {w : World} {Q : Exit → Act → World → Prop} {b : Nat} {m0 m : Mi} {ty : TypeId} {x y : Operand} (ho : op.op = .store ty x y) (hw : Region.wanted op (yielded ops a.tmps) = true)
    (hx : a.eval x = .pointer (some ⟨b, 0, none⟩)) (hy : a.eval y = .agg #[.int .i64 m.id, .int .i64 m.fr, .int .i64 m.to, .int .i64 m.se, .int .i64 m.ac, .int .i64 m.lo, .int .i64 m.pa, .int .i64 m.hi, .int .i64 m.dr, .int .i64 m.n, .int .i64 m.st, .int .i64 m.sr, .int .i64 m.tt, .int .i64 m.tr, .int .i64 m.rr]) (ht : MiT ty) (h : AtM w b m0) (hk : wpList Try.prog ops Q rest (a.put op.dst undef) (w.putM b m)) : wpList Try.prog ops Q (op :: rest) a w :=
  BigFrame.wpList_want hw fun _ hK => wp_store_mid ty x y ho b 0 (listM m).toArray hx hy h.there ht.size (by kernel_rfl) (hK _ _ hk)
theorem loadVar_M {w : World} {b : Nat} {m : Mi} {ty : TypeId} (ht : MiT ty) (h : AtM w b m) : (loadVar ty ⟨b, 0, none⟩).run Try.prog w = .ok (.agg #[.int .i64 m.id, .int .i64 m.fr, .int .i64 m.to, .int .i64 m.se, .int .i64 m.ac, .int .i64 m.lo, .int .i64 m.pa, .int .i64 m.hi, .int .i64 m.dr, .int .i64 m.n, .int .i64 m.st, .int .i64 m.sr, .int .i64 m.tt, .int .i64 m.tr, .int .i64 m.rr]) w := by
  obtain ⟨⟨d, hu, hd⟩, hs⟩ := ht
  exact run_loadVar_mid w b 0 ty (listM m) d h.range hu hd hs
/-- A result that is an account, and one beside it. -/
theorem results_M2 {fn : Func} {p u : Tmp} {ty : TypeId} (hr : fn.results = #[.cell p ty, .tmp u]) (tmps : Array Value) (w : World) {b : Nat} {m : Mi} (ht : MiT ty) (h : AtM w b m)
    (hp : tmps.getD p undef = .pointer (some ⟨b, 0, none⟩)) {v : Value} (hv : tmps.getD u undef = v) : (results fn tmps).run Try.prog w = .ok (.tuple #[.agg #[.int .i64 m.id, .int .i64 m.fr, .int .i64 m.to, .int .i64 m.se, .int .i64 m.ac, .int .i64 m.lo, .int .i64 m.pa, .int .i64 m.hi, .int .i64 m.dr, .int .i64 m.n, .int .i64 m.st, .int .i64 m.sr, .int .i64 m.tt, .int .i64 m.tr, .int .i64 m.rr], v]) w := by
  rw [results_cell_tmp hr, hp, hv]
  simp only [asAddr, Sem.run_pure, Result.andThen_ok, loadVar_M ht h]
theorem results_M1 {fn : Func} {p : Tmp} {ty : TypeId} (hr : fn.results = #[.cell p ty]) (tmps : Array Value) (w : World) {b : Nat} {m : Mi} (ht : MiT ty) (h : AtM w b m)
    (hp : tmps.getD p undef = .pointer (some ⟨b, 0, none⟩)) : (results fn tmps).run Try.prog w = .ok (.agg #[.int .i64 m.id, .int .i64 m.fr, .int .i64 m.to, .int .i64 m.se, .int .i64 m.ac, .int .i64 m.lo, .int .i64 m.pa, .int .i64 m.hi, .int .i64 m.dr, .int .i64 m.n, .int .i64 m.st, .int .i64 m.sr, .int .i64 m.tt, .int .i64 m.tr, .int .i64 m.rr]) w := by
  have hp' : tmps[p]?.getD undef = .pointer (some ⟨b, 0, none⟩) := by simpa using hp
  simp [results, hr, hp', asAddr, loadVar_M ht h]
theorem eqFields_same {P : Program} (d : Nat) (xs : Array Value) : ∀ fs : List Field, (∀ f ∈ fs, P.underlying f.type = some (.int .i64) ∧ ∃ x, xs[f.offset]? = some (.int .i64 x)) → ∀ w, (Op.eqFields (d + 1) xs xs fs).run P w = .ok true w
  | [], _, w => rfl
  | f :: fs, h, w => by
    obtain ⟨hu, x, hx⟩ := h f (by simp)
    have ih := eqFields_same d xs fs (fun g hg => h g (by simp [hg])) w
    have hp : (part f.type xs f.offset).run P w = .ok (.int .i64 x) w := by simp [part, isAgg, run_underlying hu, hx]
    simp only [Op.eqFields]
    split
    · simp [Sem.run_bind, hp, run_equalIn_int w d f.type .i64 .i64 x x hu, ih]
    · exact ih
theorem eqM_same (m : Mi) (w : World) : (Op.equalIn 10000 63 (.agg #[.int .i64 m.id, .int .i64 m.fr, .int .i64 m.to, .int .i64 m.se, .int .i64 m.ac, .int .i64 m.lo, .int .i64 m.pa, .int .i64 m.hi, .int .i64 m.dr, .int .i64 m.n, .int .i64 m.st, .int .i64 m.sr, .int .i64 m.tt, .int .i64 m.tr, .int .i64 m.rr]) (.agg #[.int .i64 m.id, .int .i64 m.fr, .int .i64 m.to, .int .i64 m.se, .int .i64 m.ac, .int .i64 m.lo, .int .i64 m.pa, .int .i64 m.hi, .int .i64 m.dr, .int .i64 m.n, .int .i64 m.st, .int .i64 m.sr, .int .i64 m.tt, .int .i64 m.tr, .int .i64 m.rr])).run Try.prog w = .ok true w := by
  rw [run_equalIn_struct w 9999 _ _ _ (by simp [Program.fieldsOf, Try.underlying63]) (by kernel_rfl)]
  apply eqFields_same
  intro f hf
  simp only [Program.fieldsOf, Try.underlying63] at hf
  simp only [List.mem_cons, List.not_mem_nil, or_false] at hf
  rcases hf with rfl | rfl | rfl | rfl | rfl | rfl | rfl | rfl | rfl | rfl | rfl | rfl | rfl | rfl | rfl
  all_goals exact ⟨Try.underlying3, _, rfl⟩
end Go.Proofs.Ytpaalpnoppblaaa
