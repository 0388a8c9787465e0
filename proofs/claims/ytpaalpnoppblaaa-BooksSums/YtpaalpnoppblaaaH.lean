/-
  Blocks of a call's own, all at once: what lies in each, and each operation of the walk on them. No program in this text. No conditions.
-/
import Derived.Test.YtpaalpnoppblaaaK
import Derived.Deep.MidRow
import Derived.Laws.ResultCell
import Derived.BigFrame
import Derived.Deep.WholeRow
namespace Go.Proofs.Ytpaalpnoppblaaa
open Go.RowKit
set_option linter.unusedVariables false
variable {P : Program}

/-- A block of one's own: its cells, and that they may be written. -/
structure Ob (w : World) (b : Nat) (vs : List Value) : Prop where
  c : w.rangeAt b 0 vs
  f : ∀ o, w.frozen? ⟨b, o, none⟩ = false
  lt : b < w.heap.size
theorem Ob.below {w w1 : World} {b B : Nat} {vs : List Value} (h : Ob w b vs) (hb : Below B w w1) (hB : b < B) : Ob w1 b vs :=
  ⟨fun j v hv => (hb.cell (p := ⟨b, 0 + j, none⟩) hB).trans (h.c j v hv), fun o => (hb.frozen (p := ⟨b, o, none⟩) hB).trans (h.f o), Nat.lt_of_lt_of_le h.lt hb.size⟩
theorem Ob.cell {w : World} {b : Nat} {vs : List Value} (h : Ob w b vs) {i : Nat} {v : Value} (hv : vs[i]? = some v) : w.cell? ⟨b, i, none⟩ = some v := by
  have := h.c i v hv; rwa [Nat.zero_add] at this
theorem Ob.there {w : World} {b : Nat} {vs : List Value} (h : Ob w b vs) : w.there b 0 vs.length := fun j hj => by
  refine ⟨?_, h.f _⟩
  rw [h.c j _ (List.getElem?_eq_getElem hj)]; rfl
theorem Ob.fresh (w : World) (cs : Array Value) (t : TypeId) : Ob (w.alloc (.cells cs t)) w.heap.size cs.toList := by
  refine ⟨fun j v hv => ?_, fun o => by simp [go_sem], by simp⟩
  rw [Nat.zero_add, cell_of_row _ _ j cs t (0, 0) (heap_alloc_new w _)]
  simpa using hv
theorem setCells_size (b : Nat) : ∀ (vs : List Value) (o : Nat) (w : World), (w.setCells b o vs).heap.size = w.heap.size
  | [], _, _ => rfl
  | v :: r, o, w => by rw [World.setCells, setCells_size b r]; simp
theorem Below.setCells {B : Nat} {W : World} (b : Nat) (hb : B ≤ b) : ∀ (vs : List Value) (o : Nat) (w : World), Below B W w → Below B W (w.setCells b o vs)
  | [], _, _, h => h
  | v :: r, o, w, h => Below.setCells b hb r (o + 1) _ (h.setCell hb v)
theorem Ob.setCells_same {w : World} {b : Nat} {vs us : List Value} (h : Ob w b vs) (hl : us.length = vs.length) : Ob (w.setCells b 0 us) b us :=
  ⟨w.rangeAt_setCells_same b 0 us (by rw [hl]; exact h.there), fun o => by rw [World.frozen?_setCells]; exact h.f o, by rw [setCells_size]; exact h.lt⟩
theorem Ob.setCells_other {w : World} {b c : Nat} {vs us : List Value} (h : Ob w c vs) (hc : c ≠ b) (o : Nat) : Ob (w.setCells b o us) c vs :=
  ⟨World.rangeAt_setCells_apart h.c b o us (.inl hc), fun o => by rw [World.frozen?_setCells]; exact h.f o, by rw [setCells_size]; exact h.lt⟩
/-- One place of a list turned. -/
inductive SetAt : List Value → Nat → Value → List Value → Prop
  | z {x v : Value} {l : List Value} : SetAt (x :: l) 0 v (v :: l)
  | s {x v : Value} {l l' : List Value} {o : Nat} : SetAt l o v l' → SetAt (x :: l) (o + 1) v (x :: l')
theorem SetAt.eq {l l' : List Value} {o : Nat} {v : Value} (h : SetAt l o v l') : l' = l.set o v ∧ o < l.length := by
  induction h with
  | z => exact ⟨rfl, by simp⟩
  | s _ ih => exact ⟨by rw [ih.1]; rfl, by have := ih.2; simp; omega⟩
theorem Ob.setCell_same {w : World} {b o : Nat} {v : Value} {vs us : List Value} (h : Ob w b vs) (hs : SetAt vs o v us) : Ob (w.setCell ⟨b, o, none⟩ v) b us := by
  obtain ⟨rfl, ho⟩ := hs.eq
  refine ⟨fun j u hu => ?_, fun i => (World.frozen?_setCell _ _ _ _).trans (h.f i), by rw [World.size_setCell]; exact h.lt⟩
  rw [Nat.zero_add]
  have hj : j < vs.length := by have := (List.getElem?_eq_some_iff.1 hu).1; simpa using this
  by_cases e : o = j
  · subst e
    rw [List.getElem?_set_self hj] at hu
    cases hu
    exact World.cell?_setCell_same w _ v (h.cell (List.getElem?_eq_getElem ho))
  · rw [List.getElem?_set_ne e] at hu
    exact (World.cell?_setCell_other w ⟨b, o, none⟩ ⟨b, j, none⟩ v (by simp <;> omega)).trans (h.cell hu)
theorem Ob.setCell_other {w : World} {b c o : Nat} {v : Value} {vs : List Value} (h : Ob w c vs) (hc : c ≠ b) : Ob (w.setCell ⟨b, o, none⟩ v) c vs :=
  ⟨fun j u hu => (World.cell?_setCell_other w ⟨b, o, none⟩ ⟨c, 0 + j, none⟩ v (by simp <;> omega)).trans (h.c j u hu), fun i => (World.frozen?_setCell _ _ _ _).trans (h.f i), by rw [World.size_setCell]; exact h.lt⟩

/-- The blocks of a call's own, behind the world it began in. -/
structure Heap (W w : World) (L : List (Nat × List Value)) : Prop where
  grown : Below W.heap.size W w
  own : ∀ p ∈ L, W.heap.size ≤ p.1 ∧ Ob w p.1 p.2
  apart : (L.map (·.1)).Nodup
theorem Heap.nil (w : World) : Heap w w [] := ⟨Below.refl _ _, fun p h => (List.not_mem_nil h).elim, by simp⟩
theorem Heap.size {W w : World} {L : List (Nat × List Value)} (h : Heap W w L) : W.heap.size ≤ w.heap.size := h.grown.size
theorem Heap.call {W w w1 : World} {L : List (Nat × List Value)} (h : Heap W w L) (hb : Below w.heap.size w w1) : Heap W w1 L :=
  ⟨h.grown.trans (hb.mono h.size), fun p hp => ⟨(h.own p hp).1, (h.own p hp).2.below hb (h.own p hp).2.lt⟩, h.apart⟩
theorem Heap.drew {W w : World} {L : List (Nat × List Value)} (h : Heap W w L) : Heap W w.drew L := h.call (Below.refl _ _).drew
theorem Heap.drewN {W w : World} {L : List (Nat × List Value)} (h : Heap W w L) (n : Nat) : Heap W (w.drewN n) L := h.call ⟨rfl, rfl, rfl, Nat.le_refl _, fun _ _ => rfl⟩
theorem Heap.tail {W w : World} {p : Nat × List Value} {L : List (Nat × List Value)} (h : Heap W w (p :: L)) : Heap W w L :=
  ⟨h.grown, fun q hq => h.own q (by simp [hq]), (List.nodup_cons.1 h.apart).2⟩
theorem Heap.drop2 {W w : World} {p q : Nat × List Value} {L : List (Nat × List Value)} (h : Heap W w (p :: q :: L)) : Heap W w (p :: L) :=
  ⟨h.grown, fun r hr => h.own r (by rcases List.mem_cons.1 hr with e | e <;> simp [e]), by have := h.apart; simp at this ⊢; exact ⟨this.1.2, this.2.2⟩⟩
theorem Heap.swap {W w : World} {p q : Nat × List Value} {L : List (Nat × List Value)} (h : Heap W w (p :: q :: L)) : Heap W w (q :: p :: L) :=
  ⟨h.grown, fun r hr => h.own r (by simp only [List.mem_cons] at hr ⊢; rcases hr with e | e | e <;> simp [e]), by have := h.apart; simp at this ⊢; exact ⟨⟨fun e => this.1.1 e.symm, this.2.1⟩, this.1.2, this.2.2⟩⟩
theorem Heap.new {W w : World} {L : List (Nat × List Value)} (h : Heap W w L) (cs : Array Value) (t : TypeId) : Heap W (w.alloc (.cells cs t)) ((w.heap.size, cs.toList) :: L) := by
  have hg : Below w.heap.size w (w.alloc (.cells cs t)) := (Below.refl _ _).alloc (Nat.le_refl _) _
  refine ⟨(h.call hg).grown, fun p hp => ?_, ?_⟩
  · rcases List.mem_cons.1 hp with rfl | hp
    · exact ⟨h.size, Ob.fresh w cs t⟩
    · exact (h.call hg).own p hp
  · simp only [List.map_cons, List.nodup_cons]
    refine ⟨fun hm => ?_, h.apart⟩
    obtain ⟨p, hp, e⟩ := List.mem_map.1 hm
    have := (h.own p hp).2.lt
    omega
/-- What lies in a block. -/
inductive Found : List (Nat × List Value) → Nat → List Value → Prop
  | here {b : Nat} {vs : List Value} {L : List (Nat × List Value)} : Found ((b, vs) :: L) b vs
  | there {b : Nat} {vs : List Value} {p : Nat × List Value} {L : List (Nat × List Value)} : Found L b vs → Found (p :: L) b vs
theorem Found.mem {L : List (Nat × List Value)} {b : Nat} {vs : List Value} (h : Found L b vs) : (b, vs) ∈ L := by
  induction h with
  | here => simp
  | there _ ih => simp [ih]
/-- A block's cells turned. -/
inductive Turned : List (Nat × List Value) → Nat → List Value → List Value → List (Nat × List Value) → Prop
  | here {b : Nat} {vs us : List Value} {L : List (Nat × List Value)} : Turned ((b, vs) :: L) b vs us ((b, us) :: L)
  | there {b : Nat} {vs us : List Value} {p : Nat × List Value} {L L' : List (Nat × List Value)} : Turned L b vs us L' → Turned (p :: L) b vs us (p :: L')
theorem Turned.mem {L L' : List (Nat × List Value)} {b : Nat} {vs us : List Value} (h : Turned L b vs us L') : (b, vs) ∈ L := by
  induction h with
  | here => simp
  | there _ ih => simp [ih]
theorem Turned.keys {L L' : List (Nat × List Value)} {b : Nat} {vs us : List Value} (h : Turned L b vs us L') : L'.map (·.1) = L.map (·.1) := by
  induction h with
  | here => simp
  | there _ ih => simp [ih]
theorem Turned.mem' {L L' : List (Nat × List Value)} {b : Nat} {vs us : List Value} (h : Turned L b vs us L') (hn : (L.map (·.1)).Nodup) : ∀ q ∈ L', q = (b, us) ∨ (q ∈ L ∧ q.1 ≠ b) := by
  induction h with
  | @here b vs us L =>
    intro q hq
    rcases List.mem_cons.1 hq with rfl | hq
    · exact .inl rfl
    · refine .inr ⟨by simp [hq], fun e => ?_⟩
      have := (List.nodup_cons.1 (by simpa using hn : (b :: L.map (·.1)).Nodup)).1
      exact this (e ▸ List.mem_map.2 ⟨q, hq, rfl⟩)
  | @there b vs us p L L' ht ih =>
    intro q hq
    have hn' : (p.1 :: L.map (·.1)).Nodup := by simpa using hn
    rcases List.mem_cons.1 hq with rfl | hq
    · refine .inr ⟨by simp, fun e => ?_⟩
      exact (List.nodup_cons.1 hn').1 (e ▸ List.mem_map.2 ⟨(b, vs), ht.mem, rfl⟩)
    · rcases ih (List.nodup_cons.1 hn').2 q hq with h | ⟨h, h'⟩
      · exact .inl h
      · exact .inr ⟨by simp [h], h'⟩
theorem Heap.found {W w : World} {L : List (Nat × List Value)} {b : Nat} {vs : List Value} (h : Heap W w L) (hf : Found L b vs) : W.heap.size ≤ b ∧ Ob w b vs := h.own _ hf.mem
/-- A block was turned, and nothing else. -/
structure Turn (w w1 : World) (b : Nat) (us : List Value) : Prop where
  here : Ob w1 b us
  other : ∀ c vs, c ≠ b → Ob w c vs → Ob w1 c vs
  grown : ∀ (B : Nat) (W : World), B ≤ b → Below B W w → Below B W w1
  size : w.heap.size ≤ w1.heap.size
theorem Heap.turn {W w w1 : World} {L L' : List (Nat × List Value)} {b : Nat} {vs us : List Value} (h : Heap W w L) (ht : Turned L b vs us L') (hT : Turn w w1 b us) : Heap W w1 L' := by
  have hb := (h.own _ ht.mem).1
  refine ⟨hT.grown _ _ hb h.grown, fun q hq => ?_, by rw [ht.keys]; exact h.apart⟩
  rcases ht.mem' h.apart q hq with rfl | ⟨h1, h2⟩
  · exact ⟨hb, hT.here⟩
  · exact ⟨(h.own q h1).1, hT.other _ _ h2 (h.own q h1).2⟩
theorem Turn.cells {w : World} {b : Nat} {vs us : List Value} (h : Ob w b vs) (hl : us.length = vs.length) : Turn w (w.setCells b 0 us) b us :=
  ⟨h.setCells_same hl, fun c vs hc ho => ho.setCells_other hc 0, fun B W hB hg => Below.setCells b hB us 0 w hg, by rw [setCells_size]; exact Nat.le_refl _⟩
theorem Turn.cell {w : World} {b o : Nat} {v : Value} {vs us : List Value} (h : Ob w b vs) (hs : SetAt vs o v us) : Turn w (w.setCell ⟨b, o, none⟩ v) b us :=
  ⟨h.setCell_same hs, fun c vs hc ho => ho.setCell_other hc, fun B W hB hg => hg.setCell hB v, by rw [World.size_setCell]; exact Nat.le_refl _⟩
theorem Turn.trans {w w1 w2 : World} {b : Nat} {us vs : List Value} (h : Turn w w1 b us) (k : Turn w1 w2 b vs) : Turn w w2 b vs :=
  ⟨k.here, fun c vs hc ho => k.other c vs hc (h.other c vs hc ho), fun B W hB hg => k.grown B W hB (h.grown B W hB hg), Nat.le_trans h.size k.size⟩
theorem Turn.refl {w : World} {b : Nat} {us : List Value} (h : Ob w b us) : Turn w w b us := ⟨h, fun _ _ _ h => h, fun _ _ _ h => h, Nat.le_refl _⟩

/-! Types, as the laws ask them. -/
/-- A type of n cells side by side. -/
structure RowT (P : Program) (t : TypeId) (n : Nat) : Prop where
  row : ∃ d, P.underlying t = some d ∧ d.isRow = true
  size : (P.info? t).map (·.size) = some n
/-- A type of one cell that is no row. -/
structure OneT (P : Program) (t : TypeId) : Prop where
  row : ∃ d, P.underlying t = some d ∧ d.isRow = false
  size : (P.info? t).map (·.size) = some 1
/-- A type's zero value's cells. -/
structure ZeroT (P : Program) (t : TypeId) (vs : List Value) : Prop where
  zero : ∃ z, (P.info? t).map (fun i => (i.zero, i.size)) = some (some z, vs.length) ∧ z.cells = vs.toArray
theorem RowT.agg {t : TypeId} {n : Nat} (h : RowT P t n) (w : World) : (isAgg t).run P w = .ok true w := by
  obtain ⟨⟨d, hu, hd⟩, _⟩ := h
  unfold isAgg
  rw [Sem.run_bind, run_underlying hu w]
  cases d <;> simp_all
theorem OneT.agg {t : TypeId} (h : OneT P t) (w : World) : (isAgg t).run P w = .ok false w := by
  obtain ⟨⟨d, hu, hd⟩, _⟩ := h
  unfold isAgg
  rw [Sem.run_bind, run_underlying hu w]
  cases d <;> simp_all

/-! Operations. -/
theorem at_plain {ops : Array Oper} {rest : List Oper} {a : Act} {w : World} {Q : Exit → Act → World → Prop} {d : Option Tmp} {o : Op} {t : TypeId} {p : String} {af : Array Edge}
    (h : ∀ K : Act → World → Prop, (∀ a w, wpList P ops Q rest a w → K a w) → Oper.wp P ⟨d, o, t, p, af, none⟩ a w K Q) : wpList P ops Q (⟨d, o, t, p, af, none⟩ :: rest) a w :=
  wpList_plain rfl h
section
variable {K : Act → World → Prop} {a : Act} {w : World} {Q : Exit → Act → World → Prop} {d : Option Tmp} {t ty : TypeId} {p : String} {af : Array Edge} {g : Option (Nat × Bool)} {x y : Operand}
theorem at_ld (h : Oper.wp P ⟨d, .load ty x, t, p, af, g⟩ a w K Q) : Oper.wp P ⟨d, .load ty x, t, p, af, g⟩ a w K Q := h
theorem at_st (h : Oper.wp P ⟨d, .store ty x y, t, p, af, g⟩ a w K Q) : Oper.wp P ⟨d, .store ty x y, t, p, af, g⟩ a w K Q := h
theorem at_al (h : Oper.wp P ⟨d, .alloc ty, t, p, af, g⟩ a w K Q) : Oper.wp P ⟨d, .alloc ty, t, p, af, g⟩ a w K Q := h
theorem at_bx (h : Oper.wp P ⟨d, .box ty x, t, p, af, g⟩ a w K Q) : Oper.wp P ⟨d, .box ty x, t, p, af, g⟩ a w K Q := h
end
section
variable {op : Oper} {K : Act → World → Prop} {a : Act} {w W : World} {L L' : List (Nat × List Value)} {Q : Exit → Act → World → Prop} {b o : Nat} {vs us : List Value} {ty : TypeId} {x y : Operand} {v : Value} {k : IntKind} {n : Int} {t : Bool}
/-- A variable's block. -/
theorem wpH_al (ho : op.op = .alloc ty) (hz : ZeroT P ty vs) (H : Heap W w L)
    (hk : ∀ b w', Heap W w' ((b, vs) :: L) → K (a.put op.dst (.pointer (some ⟨b, 0, none⟩))) w') : op.wp P a w K Q := by
  obtain ⟨z, hz, hc⟩ := hz.zero
  have hzr := (zero_of_info (P := P) hz).1
  unfold Oper.wp execOp
  simp only [ho, Instr.alloc, Sem.run_bind, hzr, newVar, newRow, Sem.run_pure, Result.andThen_ok, run_newObj, Oper.upon_value]
  refine hk _ _ ?_
  have := H.new z.cells ty
  rw [hc] at this
  rw [hc]
  simpa using this
/-- A parameter's block. -/
theorem wpH_bxA (ho : op.op = .box ty x) (hx : a.eval x = .agg vs.toArray) (H : Heap W w L)
    (hk : ∀ b w', Heap W w' ((b, vs) :: L) → K (a.put op.dst (.pointer (some ⟨b, 0, none⟩))) w') : op.wp P a w K Q := by
  unfold Oper.wp execOp
  simp only [ho, hx, Instr.box, Sem.run_bind, newVar, newRow, Sem.run_pure, Result.andThen_ok, run_newObj, Oper.upon_value]
  refine hk _ _ ?_
  have := H.new vs.toArray ty
  simpa [Value.cells] using this
theorem wpH_bxI (ho : op.op = .box ty x) (hx : a.eval x = .int k n) (H : Heap W w L)
    (hk : ∀ b w', Heap W w' ((b, [.int k n]) :: L) → K (a.put op.dst (.pointer (some ⟨b, 0, none⟩))) w') : op.wp P a w K Q := by
  unfold Oper.wp execOp
  simp only [ho, hx, Instr.box, Sem.run_bind, newVar, newRow, Sem.run_pure, Result.andThen_ok, run_newObj, Oper.upon_value]
  exact hk _ _ (H.new #[.int k n] ty)
/-- A whole row out of a block. -/
theorem wpH_ldA (ho : op.op = .load ty x) (hx : a.eval x = .pointer (some ⟨b, 0, none⟩)) (H : Heap W w L) (hf : Found L b vs) (ht : RowT P ty vs.length)
    (hk : K (a.put op.dst (.agg vs.toArray)) w) : op.wp P a w K Q := by
  obtain ⟨⟨d, hu, hd⟩, hs⟩ := ht
  exact wp_load_mid ty x ho b 0 hx vs d (H.found hf).2.c hu hd hs hk
/-- One cell out of a block. -/
theorem wpH_ld1 (ho : op.op = .load ty x) (hx : a.eval x = .pointer (some ⟨b, o, none⟩)) (H : Heap W w L) (hf : Found L b vs) (ht : OneT P ty) (hv : vs[o]? = some v)
    (hk : K (a.put op.dst v) w) : op.wp P a w K Q := by
  unfold Oper.wp execOp
  simp only [ho, hx, Instr.loadAt, Instr.sureAddr, loadVar, ht.agg, Sem.run_bind, Sem.run_pure, Result.andThen_ok, Bool.false_eq_true, if_false, run_load, (H.found hf).2.cell hv, Oper.upon_value]
  exact hk
/-- A whole row into a block. -/
theorem wpH_stA (ho : op.op = .store ty x y) (hx : a.eval x = .pointer (some ⟨b, 0, none⟩)) (hy : a.eval y = .agg us.toArray) (H : Heap W w L) (hf : Turned L b vs us L') (ht : RowT P ty us.length)
    (hl : us.length = vs.length) (h1 : us.toArray.all (·.oneCell') = true) (hk : ∀ w', Heap W w' L' → K (a.put op.dst undef) w') : op.wp P a w K Q := by
  have hO := (H.own _ hf.mem).2
  exact wp_store_mid ty x y ho b 0 us.toArray hx hy (by simpa [hl] using hO.there) (by simpa using ht.size) h1 (hk _ (H.turn hf (Turn.cells hO hl)))
/-- One cell into a block. -/
theorem wpH_st1 (ho : op.op = .store ty x y) (hx : a.eval x = .pointer (some ⟨b, o, none⟩)) (hy : a.eval y = v) (h1 : v.oneCell' = true) (hc : v.cells = #[v]) (H : Heap W w L) (ht : OneT P ty)
    (hg : Found L b vs) (hs : SetAt vs o v us) (hf : Turned L b vs us L') (hk : ∀ w', Heap W w' L' → K (a.put op.dst undef) w') : op.wp P a w K Q := by
  have hO := (H.own _ hf.mem).2
  have hcell : w.cell? ⟨b, o, none⟩ = some (vs[o]'hs.eq.2) := hO.cell (List.getElem?_eq_getElem hs.eq.2)
  obtain ⟨_, hi⟩ := ht
  cases hq : P.info? ty with
  | none => simp [hq] at hi
  | some i =>
    have hs1 : i.size = 1 := by simpa [hq] using hi
    unfold Oper.wp execOp
    have hrun : (Instr.storeAt ty (.pointer (some ⟨b, o, none⟩)) v).run P w = .ok () (w.setCell ⟨b, o, none⟩ v) := by
      simp [Instr.storeAt, Instr.sureAddr, storeVar, sizeOf, typeInfo, hq, hs1, hc, storeCells, run_store P _ _ v _ h1, hcell, hO.f, Addr.add_lit]
    simp only [ho, hx, hy, Sem.run_bind, hrun, Sem.run_pure, Result.andThen_ok, Oper.upon_skip]
    exact hk _ (H.turn hf (Turn.cell hO hs))
end
/-! One block that a pointer leads to, and nothing else. -/
section
variable {op : Oper} {K : Act → World → Prop} {a : Act} {w W : World} {Q : Exit → Act → World → Prop} {b o : Nat} {vs us : List Value} {ty : TypeId} {x y : Operand} {v : Value}
theorem wpH_ld1T (ho : op.op = .load ty x) (hx : a.eval x = .pointer (some ⟨b, o, none⟩)) (H : Turn W w b vs) (ht : OneT P ty) (hv : vs[o]? = some v)
    (hk : K (a.put op.dst v) w) : op.wp P a w K Q := by
  unfold Oper.wp execOp
  simp only [ho, hx, Instr.loadAt, Instr.sureAddr, loadVar, ht.agg, Sem.run_bind, Sem.run_pure, Result.andThen_ok, Bool.false_eq_true, if_false, run_load, H.here.cell hv, Oper.upon_value]
  exact hk
theorem wpH_st1T (ho : op.op = .store ty x y) (hx : a.eval x = .pointer (some ⟨b, o, none⟩)) (hy : a.eval y = v) (h1 : v.oneCell' = true) (hc : v.cells = #[v]) (H : Turn W w b vs) (ht : OneT P ty)
    (hs : SetAt vs o v us) (hk : ∀ w', Turn W w' b us → K (a.put op.dst undef) w') : op.wp P a w K Q := by
  have hO := H.here
  have hcell : w.cell? ⟨b, o, none⟩ = some (vs[o]'hs.eq.2) := hO.cell (List.getElem?_eq_getElem hs.eq.2)
  obtain ⟨_, hi⟩ := ht
  cases hq : P.info? ty with
  | none => simp [hq] at hi
  | some i =>
    have hs1 : i.size = 1 := by simpa [hq] using hi
    have hrun : (Instr.storeAt ty (.pointer (some ⟨b, o, none⟩)) v).run P w = .ok () (w.setCell ⟨b, o, none⟩ v) := by
      simp [Instr.storeAt, Instr.sureAddr, storeVar, sizeOf, typeInfo, hq, hs1, hc, storeCells, run_store P _ _ v _ h1, hcell, hO.f, Addr.add_lit]
    unfold Oper.wp execOp
    simp only [ho, hx, hy, Sem.run_bind, hrun, Sem.run_pure, Result.andThen_ok, Oper.upon_skip]
    exact hk _ (H.trans (Turn.cell hO hs))
end
/-! Results. -/
theorem loadVar_H {w W : World} {L : List (Nat × List Value)} {b : Nat} {vs : List Value} {ty : TypeId} (H : Heap W w L) (hf : Found L b vs) (ht : RowT P ty vs.length) : (loadVar ty ⟨b, 0, none⟩).run P w = .ok (.agg vs.toArray) w := by
  obtain ⟨⟨d, hu, hd⟩, hs⟩ := ht
  exact run_loadVar_mid w b 0 ty vs d (H.found hf).2.c hu hd hs
theorem results_0 {fn : Func} (hr : fn.results = #[]) {tmps : Array Value} {w : World} : (results fn tmps).run P w = .ok (.tuple #[]) w := by simp [results, hr]
theorem results_H2 {fn : Func} {p u : Tmp} {ty : TypeId} (hr : fn.results = #[.cell p ty, .tmp u]) {tmps : Array Value} {w W : World} {L : List (Nat × List Value)} {b : Nat} {vs : List Value} {v : Value} (H : Heap W w L) (hf : Found L b vs) (ht : RowT P ty vs.length)
    (hp : tmps.getD p undef = .pointer (some ⟨b, 0, none⟩)) (hv : tmps.getD u undef = v) : (results fn tmps).run P w = .ok (.tuple #[.agg vs.toArray, v]) w := by
  rw [results_cell_tmp hr, hp, hv]
  simp only [asAddr, Sem.run_pure, Result.andThen_ok, loadVar_H H hf ht]
theorem results_H1 {fn : Func} {p : Tmp} {ty : TypeId} (hr : fn.results = #[.cell p ty]) {tmps : Array Value} {w W : World} {L : List (Nat × List Value)} {b : Nat} {vs : List Value} (H : Heap W w L) (hf : Found L b vs) (ht : RowT P ty vs.length)
    (hp : tmps.getD p undef = .pointer (some ⟨b, 0, none⟩)) : (results fn tmps).run P w = .ok (.agg vs.toArray) w := by
  have hp' : tmps[p]?.getD undef = .pointer (some ⟨b, 0, none⟩) := by simpa using hp
  simp [results, hr, hp', asAddr, loadVar_H H hf ht]
end Go.Proofs.Ytpaalpnoppblaaa
