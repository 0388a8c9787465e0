/-
  The reference's Send. No conditions.
-/
import Derived.Test.YtpaalpnoppblaaaY1
import Derived.Deep.RegionHeld3
namespace Go.Proofs.Ytpaalpnoppblaaa
open Go.RowKit Go.Maps
set_option linter.unusedVariables false
set_option maxRecDepth 8000
theorem step_append {w : World} {ops : Array Oper} {o : Oper} {a : Act} {K : Act → World → Prop} {Q : Exit → Act → World → Prop} {E : Prop} (hgd : o.guard = none) (s x : Operand)
    (ho : o.op = .call { callee := .builtin .append, args := #[s, x], argTypes := #[42, 42] })
    {base b2 : Nat} {v u : Value} {n m : Nat} {S M : List Pt} (hs : a.eval s = v) (hx : a.eval x = u) (hv : w.ownsRow base 57 4 v n (pcs S)) (hu : w.ownsRow b2 57 4 u m (pcs M)) (hb : base ≤ w.heap.size) (hn : n + m ≤ 1000000)
    (h : ∀ v' w', w'.ownsRow base 57 4 v' (n + m) (pcs (S ++ M)) → w.grownBy w' v.ownBlock → (∀ g, v'.ownBlock = some g → v.ownBlock = some g ∨ w.heap.size ≤ g) → K (a.put o.dst v') w') : if Region.wanted o (yielded ops a.tmps) = true then Oper.wp Try.prog o a w K Q else E := by
  have hw : Region.wanted o (yielded ops a.tmps) = true := by simp [Region.wanted, hgd]
  rw [if_pos hw]
  obtain ⟨v', w', hrun, h2, h3, h4⟩ := pkt_append o.type hv hu hb hn
  unfold Oper.wp execOp
  simp only [ho, resolve, invoke, builtin, Sem.run_bind, Sem.run_pure, Result.andThen_ok, List.map_toArray, List.map_cons, List.map_nil, hs, hx, hrun]
  exact h v' w' h2 h3 h4
theorem Ob.grown' {w w1 : World} {b : Nat} {vs : List Value} {row : Option Nat} (h : Ob w b vs) (k : w.grownBy w1 row) (hr : ∀ g, row = some g → g ≠ b) : Ob w1 b vs := by
  have F : Far (row.toList) w w1 := (Far.refl _ _).grown k (fun j e => by right; rw [e]; simp)
  exact h.far F (fun hm => by rw [Option.mem_toList] at hm; exact hr _ hm rfl)
theorem ref_no {s : Lg} {mi size at' : Int} (h : refv s mi size at' ≠ 0) : seqv s mi size at' = 0 ∧ sentL s mi size at' = s := by
  constructor
  · unfold seqv; rw [if_neg h]
  · unfold sentL; rw [if_neg h]
theorem rf_all (s : Lg) (mi size at' : Int) :
    (mi < 0 → refv s mi size at' = 1) ∧ (0 ≤ mi → size < 1 ∨ 9000 < size → refv s mi size at' = 9) ∧ (0 ≤ mi → 1 ≤ size → size ≤ 9000 → at' < s.last ∨ 1099511627776 < at' → refv s mi size at' = 10) ∧
    (0 ≤ mi → 1 ≤ size → size ≤ 9000 → s.last ≤ at' → at' ≤ 1099511627776 → (s.L.length : Int) = s.room → refv s mi size at' = 2) ∧
    (0 ≤ mi → 1 ≤ size → size ≤ 9000 → s.last ≤ at' → at' ≤ 1099511627776 → (s.L.length : Int) ≠ s.room → s.next = 18446744073709551615 → refv s mi size at' = 15) ∧
    (0 ≤ mi → 1 ≤ size → size ≤ 9000 → s.last ≤ at' → at' ≤ 1099511627776 → (s.L.length : Int) ≠ s.room → s.next ≠ 18446744073709551615 → refv s mi size at' = 0) := by
  unfold refv
  refine ⟨?_, ?_, ?_, ?_, ?_, ?_⟩
  all_goals
    intros
    repeat' split
    all_goals first | rfl | omega
theorem ref_no' {s : Lg} {mi size at' k : Int} (h : refv s mi size at' = k) (hk : k ≠ 0) : Hid (refv s mi size at' = k ∧ seqv s mi size at' = 0 ∧ sentL s mi size at' = s) := ⟨h, ref_no (by omega)⟩
/-- An append that the walk leaves shut: a fact of its run is taken as it stands. -/
def apx (ats : Array TypeId) (ty : TypeId) (args : Array Value) : Sem Value := Builtin.append_ ats ty args
theorem append_shut (ats : Array TypeId) (ty : TypeId) (args : Array Value) : Builtin.append_ ats ty args = apx ats ty args := rfl
theorem apx_run {ats : Array TypeId} {ty : TypeId} {args : Array Value} {w w' : World} {v : Value} (h : (Builtin.append_ ats ty args).run Try.prog w = .ok v w') : (apx ats ty args).run Try.prog w = .ok v w' := h
attribute [local go_sem ↓] append_shut
set_option maxRecDepth 8000 in
set_option maxHeartbeats 2000000 in
theorem rsend_any (B rb : Nat) (v : Value) (s : Lg) (hs : s.ok) (mi size at' : Int) (m0 : -9223372036854775808 ≤ mi) (m1 : mi ≤ 9223372036854775807) (s0 : -9223372036854775808 ≤ size) (s1 : size ≤ 9223372036854775807) (a0 : -9223372036854775808 ≤ at') (a1 : at' ≤ 9223372036854775807) (w : World) (H : RLed B rb w v s) :
    Calls Try.prog 52 #[.pointer (some ⟨rb, 0, none⟩), .int .i64 mi, .int .i64 size, .int .i64 at'] w fun e w' =>
      e = .returned (.tuple #[.int .u64 (seqv s mi size at'), .int .i64 (refv s mi size at')]) ∧ (∃ v', RLed B rb w' v' (sentL s mi size at') ∧ ∀ g, v'.ownBlock = some g → v.ownBlock = some g ∨ w.heap.size ≤ g) ∧ Far (rb :: v.ownBlock.toList) w w' := by
  have hlen := hs.len; have hr0 := hs.r0; have hr1 := hs.r1; have hl0 := hs.l0; have hn1 := hs.n1; have hf0 := hs.f0; have hfo := hs.fo; have hon := hs.on
  go_enter Try.func52, Try.ntmps52
  by_cases h1 : mi < 0
  · have E := ref_no' (s := s) (mi := mi) (size := size) (at' := at') (k := 1) (by have R := rf_all s mi size at'; exact R.1 (by omega)) (by omega)
    go_wp2_with fail
    go_ret2
    exact ⟨by rw [E.out.1, E.out.2.1]; rfl, ⟨v, by rw [E.out.2.2]; exact H, fun g e => .inl e⟩, Far.refl _ _⟩
  by_cases h2 : size < 1 ∨ 9000 < size
  · have E := ref_no' (s := s) (mi := mi) (size := size) (at' := at') (k := 9) (by have R := rf_all s mi size at'; exact R.2.1 (by omega) (by omega)) (by omega)
    go_wp2_with fail
    have c := size_any size w
    rw [show decide (1 ≤ size ∧ size ≤ 9000) = false from decide_eq_false (by omega)] at c
    refine c.mono ?_
    rintro e w' ⟨rfl, rfl⟩
    go_wp2_with fail
    go_ret2
    exact ⟨by rw [E.out.1, E.out.2.1]; rfl, ⟨v, by rw [E.out.2.2]; exact H, fun g e => .inl e⟩, Far.refl _ _⟩
  go_wp2_with fail
  have c := size_any size w
  rw [show decide (1 ≤ size ∧ size ≤ 9000) = true from decide_eq_true (by omega)] at c
  refine c.mono ?_
  rintro e w' ⟨rfl, rfl⟩
  clear c
  go_wp2_with fail
  obtain ⟨c0, c1, c2, c3, c4, fz, hlt⟩ := H.cells
  by_cases h3 : at' < s.last ∨ 1099511627776 < at'
  · have E := ref_no' (s := s) (mi := mi) (size := size) (at' := at') (k := 10) (by have R := rf_all s mi size at'; exact R.2.2.1 (by omega) (by omega) (by omega) (by omega)) (by omega)
    have c := time_any at' w'
    by_cases h4 : 0 ≤ at' ∧ at' ≤ 1099511627776
    · rw [show decide (0 ≤ at' ∧ at' ≤ 1099511627776) = true from decide_eq_true h4] at c
      refine c.mono ?_
      rintro e w2 ⟨rfl, rfl⟩
      have h5 : at' < s.last := by omega
      clear c
      go_wp2_with fail
      go_ret2
      exact ⟨by rw [E.out.1, E.out.2.1]; rfl, ⟨v, by rw [E.out.2.2]; exact H, fun g e => .inl e⟩, Far.refl _ _⟩
    · rw [show decide (0 ≤ at' ∧ at' ≤ 1099511627776) = false from decide_eq_false h4] at c
      refine c.mono ?_
      rintro e w2 ⟨rfl, rfl⟩
      clear c
      go_wp2_with fail
      go_ret2
      exact ⟨by rw [E.out.1, E.out.2.1]; rfl, ⟨v, by rw [E.out.2.2]; exact H, fun g e => .inl e⟩, Far.refl _ _⟩
  have c := time_any at' w'
  rw [show decide (0 ≤ at' ∧ at' ≤ 1099511627776) = true from decide_eq_true (by omega)] at c
  refine c.mono ?_
  rintro e w2 ⟨rfl, rfl⟩
  have h5 : ¬ at' < s.last := by omega
  clear c
  obtain ⟨ao, cc, rfl, PA⟩ := Pks.own H.row
  have hcap := PA.cap; have hmax := PA.max
  have hmx : maxLen = 9223372036854775807 := rfl
  go_wp2_with fail
  go_quiet (fail)
  have Hq := H.below (w1 := w2.drewN nq) ⟨rfl, rfl, rfl, Nat.le_refl _, fun _ _ => rfl⟩
  have Fq : Far (rb :: (Value.slice ao s.L.length cc).ownBlock.toList) w2 (w2.drewN nq) := (Far.refl _ _).drewN nq
  clear H PA c0 c1 c2 c3 c4 fz hlt
  generalize w2.drewN nq = W at *
  obtain ⟨c0, c1, c2, c3, c4, fz, hlt⟩ := Hq.cells
  by_cases h6 : (s.L.length : Int) = s.room
  · have E := ref_no' (s := s) (mi := mi) (size := size) (at' := at') (k := 2) (by have R := rf_all s mi size at'; exact R.2.2.2.1 (by omega) (by omega) (by omega) (by omega) (by omega) (by omega)) (by omega)
    have h7 : s.room ≤ (s.L.length : Int) := by omega
    clear h6
    go_wp2_with fail
    go_ret2
    exact ⟨by rw [E.out.1, E.out.2.1]; rfl, ⟨_, by rw [E.out.2.2]; exact Hq, fun g e => .inl e⟩, Fq⟩
  have h7 : ¬ s.room ≤ (s.L.length : Int) := by omega
  by_cases h8 : s.next = 18446744073709551615
  · have E := ref_no' (s := s) (mi := mi) (size := size) (at' := at') (k := 15) (by have R := rf_all s mi size at'; exact R.2.2.2.2.1 (by omega) (by omega) (by omega) (by omega) (by omega) (by omega) (by omega)) (by omega)
    go_wp2_with fail
    go_ret2
    exact ⟨by rw [E.out.1, E.out.2.1]; rfl, ⟨_, by rw [E.out.2.2]; exact Hq, fun g e => .inl e⟩, Fq⟩
  have E0 : Hid (refv s mi size at' = 0) := (rf_all s mi size at').2.2.2.2.2 (by omega) (by omega) (by omega) (by omega) (by omega) (by omega) (by omega)
  have E1 : Hid (seqv s mi size at' = s.next) := by unfold seqv; exact if_pos E0.out
  have E2 : Hid (sentL s mi size at' = { s with next := s.next + 1, last := at', L := s.L ++ [⟨s.next, mi, size, at'⟩] }) := by unfold sentL; exact if_pos E0.out
  have hn2 : s.next + 1 ≤ 18446744073709551615 := by omega
  have hgb : ∀ g, (Value.slice ao s.L.length cc).ownBlock = some g → g ≠ rb := fun g e => by have := (own_lt Hq.row e).2; have := Hq.lt; omega
  have OA := Hq.ob.far ((Far.refl [] W).alloc (.cells #[.int .u64 s.next, .int .i64 mi, .int .i64 size, .int .i64 at'] 57)) (by simp)
  have OD := OA.far ((Far.refl [] _).drew) (by simp)
  have f4 := fz 4
  have fA := OA.f 4
  have fD := OD.f 4
  have cA2 : (W.alloc (.cells #[.int .u64 s.next, .int .i64 mi, .int .i64 size, .int .i64 at'] 57)).cell? ⟨rb, 2, none⟩ = some (.int .u64 s.next) := OA.cell rfl
  have cA4 : (W.alloc (.cells #[.int .u64 s.next, .int .i64 mi, .int .i64 size, .int .i64 at'] 57)).cell? ⟨rb, 4, none⟩ = some (.slice ao s.L.length cc) := OA.cell rfl
  have ol := own_lit W ⟨s.next, mi, size, at'⟩ B Hq.sz
  have hsz := Hq.sz
  obtain ⟨v', w3, hrun, own', gr, inf⟩ := pkt_append 42 ((Hq.row.alloc (.cells #[.int .u64 s.next, .int .i64 mi, .int .i64 size, .int .i64 at'] 57)).drew) (ol.drew) (by simp; omega) (by omega)
  obtain ⟨a3, c3, rfl, P3⟩ := Pks.own own'
  replace hrun := apx_run hrun
  have O3 := OD.grown' gr hgb
  have q2 : w3.cell? ⟨rb, 2, none⟩ = some (.int .u64 s.next) := O3.cell rfl
  have q4 : w3.cell? ⟨rb, 4, none⟩ = some (.slice ao s.L.length cc) := O3.cell rfl
  have q3 : w3.cell? ⟨rb, 3, none⟩ = some (.int .i64 s.last) := O3.cell rfl
  have qf := O3.f
  have ql := O3.lt
  have T1 := Turn.cell O3 (o := 4) (v := .slice a3 (s.L.length + 1) c3) (us := [.int .i64 s.room, .int .u64 s.first, .int .u64 s.next, .int .i64 s.last, .slice a3 (s.L.length + 1) c3]) (by repeat (first | exact SetAt.z | apply SetAt.s))
  have T2 := Turn.cell T1.here (o := 3) (v := .int .i64 at') (us := [.int .i64 s.room, .int .u64 s.first, .int .u64 s.next, .int .i64 at', .slice a3 (s.L.length + 1) c3]) (by repeat (first | exact SetAt.z | apply SetAt.s))
  have T3 := Turn.cell T2.here (o := 2) (v := .int .u64 (s.next + 1)) (us := [.int .i64 s.room, .int .u64 s.first, .int .u64 (s.next + 1), .int .i64 at', .slice a3 (s.L.length + 1) c3]) (by repeat (first | exact SetAt.z | apply SetAt.s))
  have OB := T3.here
  have hrl := Hq.lt
  have F3 : Far [rb] w3 (((w3.setCell ⟨rb, 4, none⟩ (.slice a3 (s.L.length + 1) c3)).setCell ⟨rb, 3, none⟩ (.int .i64 at')).setCell ⟨rb, 2, none⟩ (.int .u64 (s.next + 1))) :=
    (((Far.refl _ _).setCell (.inr (by simp)) _ _).setCell (.inr (by simp)) _ _).setCell (.inr (by simp)) _ _
  have ownF := own_far own' F3 (by simp; omega)
  have FF : Far (rb :: (Value.slice ao s.L.length cc).ownBlock.toList) w2 (((w3.setCell ⟨rb, 4, none⟩ (.slice a3 (s.L.length + 1) c3)).setCell ⟨rb, 3, none⟩ (.int .i64 at')).setCell ⟨rb, 2, none⟩ (.int .u64 (s.next + 1))) :=
    (((Fq.alloc _).drew).grown gr (fun j e => .inr (by rw [e]; simp))).trans (F3.mono (by simp))
  have hs3 : B ≤ w3.heap.size := Nat.le_trans (by simp; omega) gr.size
  have hs4 := F3.size
  have INF : Hid (∀ q, (Value.slice a3 (s.L.length + 1) c3).ownBlock = some q → (Value.slice ao s.L.length cc).ownBlock = some q ∨ w2.heap.size ≤ q) := fun q e => (inf q e).imp id (fun h => by have := Fq.size; simp at h; omega)
  clear T1 T2 T3 F3 Fq own' gr inf OA OD ol P3 hgb
  go_wp2_with fail
  go_region
  all_goals
    go_wp2_with fail
    go_ret2
    exact ⟨by rw [E0.out, E1.out]; simp, ⟨_, by rw [E2.out]; exact ⟨OB, by simpa using ownF, hrl, by omega⟩, INF.out⟩, FF⟩
end Go.Proofs.Ytpaalpnoppblaaa
