/-
  Operations on a ledger and on blocks of one's own at once. No program's function in this text. No conditions.
-/
import Derived.Test.YtpaalpnoppblaaaV16
import Derived.Sort.Row
namespace Go.Proofs.Ytpaalpnoppblaaa
open Go.RowKit Go.Maps Go.MapKept Go.ChangeMaps
set_option linter.unusedVariables false
set_option maxRecDepth 8000
theorem Led.heap {W w : World} {lb mb : Nat} {s : Lg} {L : List (Nat × List Value)} (h : Led W lb mb s) (H : Heap W w L) : Led w lb mb s := h.below H.grown
/-- An old block turned in both worlds. -/
theorem Heap.oldCell {W w : World} {L : List (Nat × List Value)} (H : Heap W w L) {b : Nat} (hb : b < W.heap.size) (o : Nat) (v : Value) : Heap (W.setCell ⟨b, o, none⟩ v) (w.setCell ⟨b, o, none⟩ v) L := by
  refine ⟨⟨H.grown.os, H.grown.tape, H.grown.output, by rw [World.size_setCell, World.size_setCell]; exact H.size, fun k hk => ?_⟩, fun p hp => ⟨by rw [World.size_setCell]; exact (H.own p hp).1, ?_⟩, H.apart⟩
  · rw [World.size_setCell] at hk
    by_cases e : k = b
    · subst e
      rw [Go.Sort.setCell_eq, Go.Sort.setCell_eq]
      simp only [Go.Sort.mapBlock, Array.getElem?_modify, if_true]
      rw [H.grown.block k hk]
    · rw [Below.heap_setCell _ _ _ _ e, Below.heap_setCell _ _ _ _ e]
      exact H.grown.block k hk
  · have := (H.own p hp).1
    exact (H.own p hp).2.setCell_other (by omega)
theorem Heap.oldBlock {W w : World} {L : List (Nat × List Value)} (H : Heap W w L) {b : Nat} (hb : b < W.heap.size) (ob : Obj) : Heap (setBlock W b ob) (setBlock w b ob) L := by
  refine ⟨⟨H.grown.os, H.grown.tape, H.grown.output, by simp [setBlock]; exact H.size, fun k hk => ?_⟩, fun p hp => ⟨by simp [setBlock]; exact (H.own p hp).1, ?_⟩, H.apart⟩
  · have hk' : k < W.heap.size := by simpa [setBlock] using hk
    by_cases e : k = b
    · subst e
      simp only [setBlock]
      rw [Array.getElem?_setIfInBounds_self_of_lt (Nat.lt_of_lt_of_le hk' H.size), Array.getElem?_setIfInBounds_self_of_lt hk']
    · simp only [setBlock]
      rw [Array.getElem?_setIfInBounds_ne (Ne.symm e), Array.getElem?_setIfInBounds_ne (Ne.symm e)]
      exact H.grown.block k hk'
  · have := (H.own p hp).1
    have O := (H.own p hp).2
    have e : (setBlock w b ob).heap[p.1]? = w.heap[p.1]? := by simp only [setBlock]; rw [Array.getElem?_setIfInBounds_ne (by omega)]
    exact ⟨fun j v hv => (World.cell?_of_block (a := ⟨p.1, 0 + j, none⟩) e).trans (O.c j v hv), fun o => (World.frozen?_of_block (a := ⟨p.1, o, none⟩) e).trans (O.f o), by simp [setBlock]; exact O.lt⟩
theorem del_turn {w : World} {mb : Nat} {L : List Pt} (M : MapOf w mb L) (hu : L.Pairwise (fun p q => p.seq < q.seq)) {k : Int} (h0 : 0 ≤ k) (h1 : k ≤ 18446744073709551615) (hx : L.any (isq k) = true) (ty : TypeId) :
    ∃ o, (Builtin.delete_ #[91, 22] ty #[.map (some mb), .int .u64 k]).run Try.prog w = .ok (.tuple #[]) (setBlock w mb o) ∧ (∀ w1 : World, w1.heap[mb]? = some o → MapOf w1 mb (without L k)) := by
  obtain ⟨D, hD, hh, ha, hz⟩ := M
  obtain ⟨w', hrun, ho, hg⟩ := hD.drop KT Try.underlying91 (keyOf_int_mk Try.underlying22 (wf64 h0 h1)) ty
  obtain ⟨es, clock, es', clock', hb, rfl⟩ := hg
  refine ⟨_, hrun, fun w1 hw1 => ?_⟩
  have hl := hD.lt
  have hb' : (setBlock w mb (.map es' clock')).heap[mb]? = some (.map es' clock') := by simp only [setBlock]; rw [Array.getElem?_setIfInBounds_self_of_lt hl]
  exact MapOf.del (w := w) k hu hh ha hz (hD.tidy KT) hx (ownsMap_of_block ho (hw1.trans hb'.symm))
theorem at_lk {K : Act → World → Prop} {a : Act} {w : World} {Q : Exit → Act → World → Prop} {d : Option Tmp} {t ty : TypeId} {p : String} {af : Array Edge} {g : Option (Nat × Bool)} {x y : Operand} {c : Bool}
    (h : Oper.wp Try.prog ⟨d, .lookup ty x y c, t, p, af, g⟩ a w K Q) : Oper.wp Try.prog ⟨d, .lookup ty x y c, t, p, af, g⟩ a w K Q := h
section
variable {op : Oper} {K : Act → World → Prop} {a : Act} {w W : World} {H0 : List (Nat × List Value)} {Q : Exit → Act → World → Prop} {lb mb o : Nat} {s : Lg} {ty : TypeId} {x y : Operand} {v : Value}
theorem wpL_ld (ho : op.op = .load ty x) (hx : a.eval x = .pointer (some ⟨lb, o, none⟩)) (HL : Led W lb mb s) (H : Heap W w H0) (ht : OneT Try.prog ty) (hv : (lcells s mb)[o]? = some v)
    (hk : K (a.put op.dst v) w) : op.wp Try.prog a w K Q := by
  unfold Oper.wp execOp
  simp only [ho, hx, Instr.loadAt, Instr.sureAddr, loadVar, ht.agg, Sem.run_bind, Sem.run_pure, Result.andThen_ok, Bool.false_eq_true, if_false, run_load, (HL.heap H).ob.cell hv, Oper.upon_value]
  exact hk
theorem wpL_look {k : Int} (ho : op.op = .lookup 91 x y true) (hx : a.eval x = .map (some mb)) (hy : a.eval y = .int .u64 k) (HL : Led W lb mb s) (H : Heap W w H0) (h0 : 0 ≤ k) (h1 : k ≤ 18446744073709551615)
    (hk : K (a.put op.dst (.tuple #[.agg #[.int .u64 (foundP s.L k).seq, .int .i64 (foundP s.L k).mi, .int .i64 (foundP s.L k).size, .int .i64 (foundP s.L k).sent], .bool (s.L.any (isq k))])) w) : op.wp Try.prog a w K Q := by
  unfold Oper.wp execOp
  simp only [ho, hx, hy, look_run (HL.heap H).map h0 h1, Sem.run_bind, Result.andThen_ok, Sem.run_pure, Oper.upon_value]
  exact hk
theorem wpL_look1 {k : Int} (ho : op.op = .lookup 91 x y false) (hx : a.eval x = .map (some mb)) (hy : a.eval y = .int .u64 k) (HL : Led W lb mb s) (H : Heap W w H0) (h0 : 0 ≤ k) (h1 : k ≤ 18446744073709551615)
    (hk : K (a.put op.dst (.agg #[.int .u64 (foundP s.L k).seq, .int .i64 (foundP s.L k).mi, .int .i64 (foundP s.L k).size, .int .i64 (foundP s.L k).sent])) w) : op.wp Try.prog a w K Q := by
  unfold Oper.wp execOp
  simp only [ho, hx, hy, look1_run (HL.heap H).map h0 h1, Sem.run_bind, Result.andThen_ok, Sem.run_pure, Oper.upon_value]
  exact hk
theorem wpL_del {k : Int} {d : Option Tmp} {tt : TypeId} {p : String} {af : Array Edge} (hx : a.eval x = .map (some mb)) (hy : a.eval y = .int .u64 k) (HL : Led W lb mb s) (hs : s.ok) (H : Heap W w H0) (h0 : 0 ≤ k) (h1 : k ≤ 18446744073709551615) (hm : s.L.any (isq k) = true)
    (hk : ∀ o, (∀ w1 : World, w1.heap[mb]? = some o → MapOf w1 mb (without s.L k)) → K (a.put d (.tuple #[])) (setBlock w mb o)) : Oper.wp Try.prog ⟨d, .call { callee := .builtin .delete, args := #[x, y], argTypes := #[91, 22] }, tt, p, af, none⟩ a w K Q := by
  obtain ⟨o, hrun, ho⟩ := del_turn (HL.heap H).map hs.up h0 h1 hm tt
  unfold Oper.wp
  simp [execOp, resolve, invoke, builtin, hx, hy, hrun, Result.andThen]
  exact hk o ho
theorem Far.setBlock {S : List Nat} {w0 w : World} (h : Far S w0 w) {b : Nat} (hb : b ∈ S) (o : Obj) : Far S w0 (Go.ChangeMaps.setBlock w b o) :=
  ⟨h.os, h.tape, h.output, by simp [Go.ChangeMaps.setBlock]; exact h.size, fun i hi hS => by
    simp only [Go.ChangeMaps.setBlock]
    rw [Array.getElem?_setIfInBounds_ne (fun e : b = i => hS (by rw [← e]; exact hb))]
    exact h.block i hi hS⟩
/-- The map turned, in the world that a call began in. -/
theorem Led.delete {o : Obj} {k : Int} (HL : Led W lb mb s) (ho : ∀ w1 : World, w1.heap[mb]? = some o → MapOf w1 mb (without s.L k)) : Led (Go.ChangeMaps.setBlock W mb o) lb mb { s with L := without s.L k } := by
  have hl := HL.map.lt
  refine ⟨?_, ho _ ?_, HL.ne⟩
  · exact HL.ob.far ((Far.refl [mb] W).setBlock (by simp) o) (by simpa using HL.ne)
  · simp only [Go.ChangeMaps.setBlock]; rw [Array.getElem?_setIfInBounds_self_of_lt hl]
end
theorem one91 : OneT Try.prog 91 := ⟨⟨_, Try.underlying91, rfl⟩, by kernel_rfl⟩
end Go.Proofs.Ytpaalpnoppblaaa
