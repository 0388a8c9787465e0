/-
  A row of packets that grows by another one; what is taken, as lists. No conditions.
-/
import Derived.Test.YtpaalpnoppblaaaV21
import Derived.Laws.AppendOwnNone
namespace Go.Proofs.Ytpaalpnoppblaaa
open Go.RowKit Go.Maps
set_option linter.unusedVariables false
set_option maxRecDepth 8000
/-- One's own row of packets, grown by another row. -/
theorem pkt_append {w : World} {base b2 : Nat} {v u : Value} {n m : Nat} {S M : List Pt} (ty : TypeId) (hv : w.ownsRow base 57 4 v n (pcs S)) (hu : w.ownsRow b2 57 4 u m (pcs M)) (hb : base ≤ w.heap.size) (hn : n + m ≤ 1000000) :
    ∃ v' w', (Builtin.append_ #[42, 42] ty #[v, u]).run Try.prog w = .ok v' w' ∧ w'.ownsRow base 57 4 v' (n + m) (pcs (S ++ M)) ∧ w.grownBy w' v.ownBlock ∧
      (∀ g, v'.ownBlock = some g → v.ownBlock = some g ∨ w.heap.size ≤ g) := by
  obtain ⟨i0, hi, hz0, hz1, hz2⟩ := info_parts infoP
  rcases hu.2 with ⟨rfl, rfl⟩ | ⟨g, cap, cur, rfl, hbg, hg, hnc, hcm, hcs, htake⟩
  · have hM : M = [] := by
      have h1 := hu.1
      rw [pcs_length] at h1
      exact List.eq_nil_of_length_eq_zero (by omega)
    subst hM
    exact ⟨v, w, run_append_owned_none (w := w) base _ ty _ i0 4 Try.underlying42 hi v n _ hv, by simpa using hv, ⟨rfl, rfl, rfl, Nat.le_refl _, fun _ _ _ => rfl⟩, fun g h => .inl h⟩
  · have hl : (pcs M).length = m * 4 := hu.1
    have hnews : ∀ j u, (pcs M)[j]? = some u → w.cell? ((⟨g, 0, none⟩ : Addr).add j) = some u := hu.cells (g := g) rfl
    have hone : ∀ u ∈ pcs M, u.oneCell' = true := fun u hu => by
      unfold pcs at hu
      obtain ⟨p, hp, hu⟩ := List.mem_flatMap.1 hu
      exact pc_one p u hu
    obtain ⟨v', w', hr, h2, h3, h4⟩ := run_append_own (P := Try.prog) w base 42 ty 57 i0 (pv ⟨0, 0, 0, 0⟩) 4 32 Try.underlying42 hi hz0 hz1 hz2 rfl (by decide) v n (pcs S) hv ⟨g, 0, none⟩ m cap (pcs M) hl hnews hone (by unfold maxLen; omega) (by omega) hb
    refine ⟨v', w', hr, by rw [pcs_append]; exact h2, h3, fun g' hg' => ?_⟩
    have hvl : (pcs S).length = n * 4 := hv.1
    rcases hv.2 with ⟨rfl, rfl⟩ | ⟨gv, cv, curv, rfl, _, hgv, hncv, hcmv, hcsv, htv⟩
    · by_cases hm : m = 0
      · have := h4.2 ⟨rfl, hm⟩
        rw [this] at hg'
        cases hg'
      · have hr2 := run_append_nil (P := Try.prog) w 42 ty 57 i0 (pv ⟨0, 0, 0, 0⟩) Try.underlying42 hi hz0 ⟨g, 0, none⟩ m cap (pcs M) (by rw [hz1]; exact hl) hnews (by omega) (by omega) (by rw [hz2]; omega)
        rw [hr] at hr2
        simp only [Result.ok.injEq] at hr2
        rw [hr2.1] at hg'
        simp only [Value.ownBlock, Option.some.injEq] at hg'
        exact .inr (by omega)
    · by_cases hroom : n + m ≤ cv
      · have hfit : n * i0.size + (pcs M).length ≤ curv.size := by rw [hl, hcsv, hz1]; omega
        have hr2 := run_append_room (P := Try.prog) w 42 ty 57 i0 Try.underlying42 hi gv n cv curv hgv ⟨g, 0, none⟩ m cap (pcs M) (by rw [hz1]; exact hl) hnews hone hroom hfit
        rw [hr] at hr2
        simp only [Result.ok.injEq] at hr2
        rw [hr2.1] at hg'
        exact .inl hg'
      · have holds : ∀ j u, (pcs S)[j]? = some u → w.cell? ((⟨gv, 0, none⟩ : Addr).add j) = some u := hv.cells (g := gv) rfl
        have hr2 := run_append_grow (P := Try.prog) w 42 ty 57 i0 (pv ⟨0, 0, 0, 0⟩) Try.underlying42 hi hz0 ⟨gv, 0, none⟩ n cv (pcs S) (by rw [hz1]; exact hvl) holds ⟨g, 0, none⟩ m cap (pcs M) (by rw [hz1]; exact hl) hnews (by omega) (by omega) (by rw [hz2]; exact growslice_fits (by omega) (by omega))
        rw [hr] at hr2
        simp only [Result.ok.injEq] at hr2
        rw [hr2.1] at hg'
        simp only [Value.ownBlock, Option.some.injEq] at hg'
        exact .inr (by omega)
theorem own_lt {w : World} {base : Nat} {v : Value} {n : Nat} {xs : List Value} (h : w.ownsRow base 57 4 v n xs) {g : Nat} (hg : v.ownBlock = some g) : g < w.heap.size ∧ base ≤ g := by
  rcases h.2 with ⟨rfl, rfl⟩ | ⟨g', cap, cur, rfl, hb, hh, _⟩
  · cases hg
  · simp only [Value.ownBlock, Option.some.injEq] at hg
    subst hg
    exact ⟨(Array.getElem?_eq_some_iff.1 hh).1, hb⟩
theorem own_grown {w w1 : World} {base : Nat} {v : Value} {n : Nat} {xs : List Value} {row : Option Nat} (h : w.ownsRow base 57 4 v n xs) (k : w.grownBy w1 row) (hr : ∀ g, v.ownBlock = some g → row = some g → False) : w1.ownsRow base 57 4 v n xs := by
  refine ⟨h.1, ?_⟩
  rcases h.2 with h0 | ⟨g, cap, cur, e, hb, hg, r⟩
  · exact .inl h0
  · refine .inr ⟨g, cap, cur, e, hb, (k.block g (Array.getElem?_eq_some_iff.1 hg).1 (fun he => hr g (by rw [e]; rfl) he.symm)).trans hg, r⟩
/-- The law for the walk. -/
theorem wpL_append {w : World} {ops : Array Oper} {rest : List Oper} {o : Oper} {a : Act} {Q : Exit → Act → World → Prop} (hgd : o.guard = none) (s x : Operand)
    (ho : o.op = .call { callee := .builtin .append, args := #[s, x], argTypes := #[42, 42] })
    {base b2 : Nat} {v u : Value} {n m : Nat} {S M : List Pt} (hs : a.eval s = v) (hx : a.eval x = u) (hv : w.ownsRow base 57 4 v n (pcs S)) (hu : w.ownsRow b2 57 4 u m (pcs M)) (hb : base ≤ w.heap.size) (hn : n + m ≤ 1000000)
    (h : ∀ v' w', w'.ownsRow base 57 4 v' (n + m) (pcs (S ++ M)) → w.grownBy w' v.ownBlock → (∀ g, v'.ownBlock = some g → v.ownBlock = some g ∨ w.heap.size ≤ g) → wpList Try.prog ops Q rest (a.put o.dst v') w') : wpList Try.prog ops Q (o :: rest) a w := by
  refine wpList_plain hgd fun K hK => ?_
  obtain ⟨v', w', hrun, h2, h3, h4⟩ := pkt_append o.type hv hu hb hn
  unfold Oper.wp execOp
  simp only [ho, resolve, invoke, builtin, Sem.run_bind, Sem.run_pure, Result.andThen_ok, List.map_toArray, List.map_cons, List.map_nil, hs, hx, hrun]
  exact hK _ _ (h v' w' h2 h3 h4)
theorem own_lit (w : World) (p : Pt) (base : Nat) (hb : base ≤ w.heap.size) : (w.alloc (.cells #[.int .u64 p.seq, .int .i64 p.mi, .int .i64 p.size, .int .i64 p.sent] 57)).ownsRow base 57 4 (.slice (some ⟨w.heap.size, 0, none⟩) 1 1) 1 (pcs [p]) := by
  rw [pcs_one]
  exact World.ownsRow_lit w _ 1 hb (by unfold maxLen; omega) rfl
/-! ### As lists -/
theorem perm_without {L : List Pt} {x : Int} (hu : L.Pairwise (fun p q => p.seq < q.seq)) (hx : L.any (isq x) = true) : List.Perm L (foundP L x :: without L x) := by
  induction L with
  | nil => simp at hx
  | cons p L ih =>
    by_cases hp : isq x p = true
    · have hno : L.filter (fun p => !isq x p) = L := List.filter_eq_self.2 fun q hq => by
        have := (List.pairwise_cons.1 hu).1 q hq
        have e : p.seq = x := by simpa [isq] using hp
        simp [isq]; omega
      have e1 : foundP (p :: L) x = p := by simp [foundP, hp]
      unfold without
      rw [e1, List.filter_cons, hp]
      simp [hno]
    · have hp' : isq x p = false := by simpa using hp
      have hx' : L.any (isq x) = true := by simpa [hp'] using hx
      have := ih (List.pairwise_cons.1 hu).2 hx'
      have e1 : foundP (p :: L) x = foundP L x := by simp [foundP, hp']
      unfold without at this ⊢
      rw [e1, List.filter_cons, hp']
      simp only [Bool.not_false, if_true]
      exact (List.Perm.cons p this).trans (List.Perm.swap _ _ _)
theorem tkv_0 {s : Lg} {x : Int} (h : tkv s x = 0) : s.L.any (isq x) = true := by
  unfold tkv at h
  split at h
  · omega
  · split at h
    · assumption
    · omega
theorem tk_not {s : Lg} {x : Int} (h0 : tkv s x ≠ 0) : takenL s x = s ∧ tkp s x = ⟨0, 0, 0, 0⟩ := by
  constructor
  · unfold takenL; rw [if_neg h0]
  · unfold tkp; rw [if_neg h0]
theorem below_grown {w w1 W : World} {B B0 : Nat} (hb : Below B W w) (hB : B ≤ w.heap.size) (h0 : B ≤ B0) {v : Value} {n : Nat} {xs : List Value} (o : w.ownsRow B0 57 4 v n xs) (k : w.grownBy w1 v.ownBlock) : Below B W w1 :=
  hb.trans ⟨k.os, k.tape, k.output, k.size, fun i hi => k.block i (by omega) (fun e => by have := (own_lt o e.symm).2; omega)⟩
end Go.Proofs.Ytpaalpnoppblaaa
