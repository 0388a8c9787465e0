/-
  The program's books in memory; what refuses a time; what the end of a packet's way does. No conditions but the books' own.
-/
import Derived.Test.YtpaalpnoppblaaaZ2
import Derived.Test.YtpaalpnoppblaaaZ3
import Derived.Test.YtpaalpnoppblaaaU9
import Derived.Test.YtpaalpnoppblaaaHT
namespace Go.Proofs.Ytpaalpnoppblaaa
open Go.RowKit Go.Maps
set_option linter.unusedVariables false
set_option maxRecDepth 8000
/-- Where books lie. -/
structure Bp where
  bb : Nat
  lb : Nat
  mb : Nat
  ao : Option Addr
  g : Nat
  o : Nat
  c : Nat
def bcells (lb : Nat) (ao : Option Addr) (c : Nat) (s : Bk) : List Value := [.pointer (some ⟨lb, 0, none⟩), .int .i64 s.now, .int .i64 s.timeout, .slice ao s.L.length c, .int .i64 s.begun]
/-- Books in memory, with all their blocks in S. -/
structure Bks (w : World) (bb lb mb : Nat) (ao : Option Addr) (g o c : Nat) (S : List Nat) (s : Bk) : Prop where
  ob : Ob w bb (bcells lb ao c s)
  led : Led w lb mb s.l
  row : Mis w ao g o s.L.length c s.L
  n1 : bb ≠ lb
  n2 : bb ≠ mb
  ng : 0 < c → g ≠ bb ∧ g ≠ lb ∧ g ≠ mb ∧ g ∈ S
  m1 : bb ∈ S
  m2 : lb ∈ S
  m3 : mb ∈ S
  low : ∀ k ∈ S, k < w.heap.size
/-- Books somewhere. -/
def Bka (w : World) (bb : Nat) (S : List Nat) (s : Bk) : Prop := ∃ lb mb ao g o c, Bks w bb lb mb ao g o c S s
/-- Only blocks of S turned; those that are books' now were so, or are new. -/
structure Goes (S T : List Nat) (w w1 : World) : Prop where
  far : Far S w w1
  sub : ∀ k ∈ T, k ∈ S ∨ w.heap.size ≤ k
theorem Goes.refl (S : List Nat) (w : World) : Goes S S w w := ⟨Far.refl _ _, fun k h => .inl h⟩
theorem Goes.trans {S T U : List Nat} {w w1 w2 : World} (h : Goes S T w w1) (k : Goes T U w1 w2) : Goes S U w w2 := by
  refine ⟨⟨k.far.os.trans h.far.os, k.far.tape.trans h.far.tape, k.far.output.trans h.far.output, Nat.le_trans h.far.size k.far.size, fun i hi hS => (k.far.block i (Nat.lt_of_lt_of_le hi h.far.size) (fun hT => ?_)).trans (h.far.block i hi hS)⟩, fun i hi => ?_⟩
  · rcases h.sub i hT with h1 | h1
    · exact hS h1
    · omega
  · rcases k.sub i hi with h1 | h1
    · exact h.sub i h1
    · exact .inr (Nat.le_trans h.far.size h1)
section
variable {w w1 : World} {bb lb mb : Nat} {ao : Option Addr} {g o c : Nat} {S : List Nat} {s : Bk}
theorem Bks.far {T : List Nat} (h : Bks w bb lb mb ao g o c S s) (F : Far T w w1) (hT : ∀ k ∈ S, k ∉ T) : Bks w1 bb lb mb ao g o c S s :=
  ⟨h.ob.far F (hT _ h.m1), h.led.far F (hT _ h.m2) (hT _ h.m3), h.row.far F (fun hc => hT _ (h.ng hc).2.2.2), h.n1, h.n2, h.ng, h.m1, h.m2, h.m3, fun k hk => Nat.lt_of_lt_of_le (h.low k hk) F.size⟩
theorem Bks.below (h : Bks w bb lb mb ao g o c S s) (k : Below w.heap.size w w1) : Bks w1 bb lb mb ao g o c S s := h.far (Far.of_below k) (fun _ _ => by simp)
theorem Bka.far {T : List Nat} (h : Bka w bb S s) (F : Far T w w1) (hT : ∀ k ∈ S, k ∉ T) : Bka w1 bb S s := by
  obtain ⟨lb, mb, ao, g, o, c, h⟩ := h
  exact ⟨lb, mb, ao, g, o, c, h.far F hT⟩
theorem Bka.below (h : Bka w bb S s) (k : Below w.heap.size w w1) : Bka w1 bb S s := h.far (Far.of_below k) (fun _ _ => by simp)
theorem Bka.low (h : Bka w bb S s) : ∀ k ∈ S, k < w.heap.size := by
  obtain ⟨lb, mb, ao, g, o, c, h⟩ := h
  exact h.low
theorem Bka.mem (h : Bka w bb S s) : bb ∈ S := by
  obtain ⟨lb, mb, ao, g, o, c, h⟩ := h
  exact h.m1
theorem Bks.cells (h : Bks w bb lb mb ao g o c S s) : w.cell? ⟨bb, 0, none⟩ = some (.pointer (some ⟨lb, 0, none⟩)) ∧ w.cell? ⟨bb, 1, none⟩ = some (.int .i64 s.now) ∧ w.cell? ⟨bb, 2, none⟩ = some (.int .i64 s.timeout) ∧
    w.cell? ⟨bb, 3, none⟩ = some (.slice ao s.L.length c) ∧ w.cell? ⟨bb, 4, none⟩ = some (.int .i64 s.begun) ∧ (∀ o, w.frozen? ⟨bb, o, none⟩ = false) :=
  ⟨h.ob.cell rfl, h.ob.cell rfl, h.ob.cell rfl, h.ob.cell rfl, h.ob.cell rfl, h.ob.f⟩
/-- A clock's value out of books. -/
theorem Bks.clock (h : Bks w bb lb mb ao g o c S s) : (Instr.loadAt 71 (.pointer (some ⟨bb, 1, none⟩))).run Try.prog w = .ok (.agg #[.int .i64 s.now]) w := by
  refine run_loadAt_mid w bb 1 71 [.int .i64 s.now] _ (fun j v hv => ?_) Try.underlying71 rfl (by kernel_rfl)
  match j, hv with
  | 0, hv => cases hv; exact h.cells.2.1
/-- Books with another ledger, in the same blocks. -/
theorem Bks.ledger (h : Bks w bb lb mb ao g o c S s) {l : Lg} (F : Far [lb, mb] w w1) (H : Led w1 lb mb l) : Bks w1 bb lb mb ao g o c S { s with l := l } := by
  have n1 := h.n1; have n2 := h.n2
  refine ⟨h.ob.far F (by simp; exact ⟨n1, n2⟩), H, h.row.far F (fun hc => by have := h.ng hc; simp; exact ⟨this.2.1, this.2.2.1⟩), n1, n2, h.ng, h.m1, h.m2, h.m3, fun k hk => Nat.lt_of_lt_of_le (h.low k hk) F.size⟩
/-- An account turned in its place. -/
theorem Bks.put (h : Bks w bb lb mb ao g o c S s) {j : Nat} (hj : j < s.L.length) (m : Mi) : Bks (w.setCells g (o + j * 15) (listM m)) bb lb mb ao g o c S { s with L := s.L.set j m } ∧ Far [g] w (w.setCells g (o + j * 15) (listM m)) := by
  have hc : 0 < c := by have := h.row.cap; omega
  have hg := h.ng hc
  have F : Far [g] w (w.setCells g (o + j * 15) (listM m)) := (Far.refl _ _).setCells (.inr (by simp)) _ _
  have e : (bcells lb ao c { s with L := s.L.set j m }) = bcells lb ao c s := by simp [bcells]
  refine ⟨⟨by rw [e]; exact h.ob.far F (by simp; exact fun e => hg.1 e.symm), h.led.far F (by simp; exact fun e => hg.2.1 e.symm) (by simp; exact fun e => hg.2.2.1 e.symm), by have := h.row.put hj m; simpa using this, h.n1, h.n2, h.ng, h.m1, h.m2, h.m3, fun k hk => by rw [setCells_size]; exact h.low k hk⟩, F⟩
/-- Now turned. -/
theorem Bks.tick (h : Bks w bb lb mb ao g o c S s) (a : Int) : Bks (w.setCell ⟨bb, 1, none⟩ (.int .i64 a)) bb lb mb ao g o c S { s with now := a } ∧ Far [bb] w (w.setCell ⟨bb, 1, none⟩ (.int .i64 a)) := by
  have F : Far [bb] w (w.setCell ⟨bb, 1, none⟩ (.int .i64 a)) := (Far.refl _ _).setCell (.inr (by simp)) _ _
  have T := Turn.cell h.ob (o := 1) (v := .int .i64 a) (us := bcells lb ao c { s with now := a }) (by unfold bcells; repeat (first | exact SetAt.z | apply SetAt.s))
  exact ⟨⟨T.here, h.led.far F (by simp; exact h.n1.symm) (by simp; exact h.n2.symm), h.row.far F (fun hc => by simp; exact (h.ng hc).1), h.n1, h.n2, h.ng, h.m1, h.m2, h.m3, fun k hk => by rw [World.size_setCell]; exact h.low k hk⟩, F⟩
end
theorem early_any (now a : Int) (w : World) : Calls Try.prog 64 #[.agg #[.int .i64 now], .int .i64 a] w fun e w' => e = .returned (.bool (decide (a < now ∨ 1099511627776 < a))) ∧ Below w.heap.size w w' := by
  go_enter Try.func64, Try.ntmps64
  by_cases h1 : a < now
  · go_wp2
    go_ret
    exact ⟨by simp <;> omega, by go_grown⟩
  · by_cases h2 : 1099511627776 < a
    · go_wp2
      go_ret
      exact ⟨by simp <;> omega, by go_grown⟩
    · go_wp2
      go_ret
      exact ⟨by simp <;> omega, by go_grown⟩
theorem early_yes {s : Bk} {a : Int} (h : earlyP s a) (w : World) : Calls Try.prog 64 #[.agg #[.int .i64 s.now], .int .i64 a] w fun e w' => e = .returned (.bool true) ∧ Below w.heap.size w w' := by
  have := early_any s.now a w
  rwa [show decide (a < s.now ∨ 1099511627776 < a) = true from decide_eq_true h] at this
theorem early_no {s : Bk} {a : Int} (h : ¬ earlyP s a) (w : World) : Calls Try.prog 64 #[.agg #[.int .i64 s.now], .int .i64 a] w fun e w' => e = .returned (.bool false) ∧ Below w.heap.size w w' := by
  have := early_any s.now a w
  rwa [show decide (a < s.now ∨ 1099511627776 < a) = false from decide_eq_false h] at this
def hfn : Bool → Nat
  | true => 40
  | false => 41
/-- What an end does, as the program keeps it. -/
def hval (k : Bool) : Value := .func (.func (hfn k)) #[] #[]
def howE (k : Bool) (m : Mi) (p : Pt) (a : Int) : Int := if k then ackE m p.size p.sent a else loseE m p.size
set_option maxHeartbeats 1000000 in
theorem how_any (k : Bool) (m : Mi) (p : Pt) (a : Int) (x0 : -9223372036854775808 ≤ p.sent) (x1 : p.sent ≤ 9223372036854775807) (w : World) :
    Calls Try.prog (hfn k) #[.agg #[.int .i64 m.id, .int .i64 m.fr, .int .i64 m.to, .int .i64 m.se, .int .i64 m.ac, .int .i64 m.lo, .int .i64 m.pa, .int .i64 m.hi, .int .i64 m.dr, .int .i64 m.n, .int .i64 m.st, .int .i64 m.sr, .int .i64 m.tt, .int .i64 m.tr, .int .i64 m.rr], .agg #[.int .u64 p.seq, .int .i64 p.mi, .int .i64 p.size, .int .i64 p.sent], .int .i64 a] w fun e w' => e = .returned (.tuple #[.agg #[.int .i64 (howV k m p a).id, .int .i64 (howV k m p a).fr, .int .i64 (howV k m p a).to, .int .i64 (howV k m p a).se, .int .i64 (howV k m p a).ac, .int .i64 (howV k m p a).lo, .int .i64 (howV k m p a).pa, .int .i64 (howV k m p a).hi, .int .i64 (howV k m p a).dr, .int .i64 (howV k m p a).n, .int .i64 (howV k m p a).st, .int .i64 (howV k m p a).sr, .int .i64 (howV k m p a).tt, .int .i64 (howV k m p a).tr, .int .i64 (howV k m p a).rr], .int .i64 (howE k m p a)]) ∧ Below w.heap.size w w' := by
  have H := Heap.nil w
  cases k
  · have T := fun w => lose_any m p.size w
    show Calls Try.prog 41 _ w fun e w' => e = .returned (.tuple #[.agg #[.int .i64 (loseV m p.size).id, .int .i64 (loseV m p.size).fr, .int .i64 (loseV m p.size).to, .int .i64 (loseV m p.size).se, .int .i64 (loseV m p.size).ac, .int .i64 (loseV m p.size).lo, .int .i64 (loseV m p.size).pa, .int .i64 (loseV m p.size).hi, .int .i64 (loseV m p.size).dr, .int .i64 (loseV m p.size).n, .int .i64 (loseV m p.size).st, .int .i64 (loseV m p.size).sr, .int .i64 (loseV m p.size).tt, .int .i64 (loseV m p.size).tr, .int .i64 (loseV m p.size).rr], .int .i64 (loseE m p.size)]) ∧ Below w.heap.size w w'
    generalize loseV m p.size = V at *
    generalize loseE m p.size = E at *
    go_enter Try.func41, Try.ntmps41
    go_wp2_with (first | ((first | ((with_reducible refine at_plain ?_); intro K hK) | go_guarded); first | ((with_reducible refine at_ld ?_); first | (refine wpH_ldA rfl rfl H (by repeat (first | exact Found.here | apply Found.there)) (by first | exact row63 | exact row89 | exact row109 | exact row57) ?_) | (refine wpH_ld1 rfl rfl H (by repeat (first | exact Found.here | apply Found.there)) (by first | exact one3 | exact one4 | exact one26 | exact one22 | exact one91) (by rfl) ?_)) | ((with_reducible refine at_st ?_); first | (refine wpH_stA rfl rfl rfl H (by repeat (first | exact Turned.here | apply Turned.there)) (by first | exact row63 | exact row89 | exact row109 | exact row57) (by rfl) (by kernel_rfl) ?_; clear H; intro wN H) | (refine wpH_st1 (v := .int _ _) rfl rfl rfl rfl rfl H (by first | exact one3 | exact one4 | exact one26 | exact one22 | exact one91) (by repeat (first | exact Found.here | apply Found.there)) (by repeat (first | exact SetAt.z | apply SetAt.s)) (by repeat (first | exact Turned.here | apply Turned.there)) ?_; clear H; intro wN H)) | ((with_reducible refine at_al ?_); refine wpH_al rfl (by first | exact zero63 | exact zero89 | exact zero109 | exact zero57) H ?_; clear H; intro bN wN H) | ((with_reducible refine at_bx ?_); refine wpH_bxA rfl rfl H ?_; clear H; intro bN wN H)) | (go_at_call 62; refine (T _).mono ?_; rintro e wN ⟨rfl, hw⟩; replace H := H.call hw; clear hw) | (exact bodyPost_ret (results_H2 rfl H (by repeat (first | exact Found.here | apply Found.there)) (by first | exact row63 | exact row89 | exact row109 | exact row57) rfl rfl) rfl ⟨rfl, H.grown⟩))
  · have T := fun w => ack_any m p.size p.sent a x0 x1 w
    show Calls Try.prog 40 _ w fun e w' => e = .returned (.tuple #[.agg #[.int .i64 (ackV m p.size p.sent a).id, .int .i64 (ackV m p.size p.sent a).fr, .int .i64 (ackV m p.size p.sent a).to, .int .i64 (ackV m p.size p.sent a).se, .int .i64 (ackV m p.size p.sent a).ac, .int .i64 (ackV m p.size p.sent a).lo, .int .i64 (ackV m p.size p.sent a).pa, .int .i64 (ackV m p.size p.sent a).hi, .int .i64 (ackV m p.size p.sent a).dr, .int .i64 (ackV m p.size p.sent a).n, .int .i64 (ackV m p.size p.sent a).st, .int .i64 (ackV m p.size p.sent a).sr, .int .i64 (ackV m p.size p.sent a).tt, .int .i64 (ackV m p.size p.sent a).tr, .int .i64 (ackV m p.size p.sent a).rr], .int .i64 (ackE m p.size p.sent a)]) ∧ Below w.heap.size w w'
    generalize ackV m p.size p.sent a = V at *
    generalize ackE m p.size p.sent a = E at *
    go_enter Try.func40, Try.ntmps40
    go_wp2_with (first | ((first | ((with_reducible refine at_plain ?_); intro K hK) | go_guarded); first | ((with_reducible refine at_ld ?_); first | (refine wpH_ldA rfl rfl H (by repeat (first | exact Found.here | apply Found.there)) (by first | exact row63 | exact row89 | exact row109 | exact row57) ?_) | (refine wpH_ld1 rfl rfl H (by repeat (first | exact Found.here | apply Found.there)) (by first | exact one3 | exact one4 | exact one26 | exact one22 | exact one91) (by rfl) ?_)) | ((with_reducible refine at_st ?_); first | (refine wpH_stA rfl rfl rfl H (by repeat (first | exact Turned.here | apply Turned.there)) (by first | exact row63 | exact row89 | exact row109 | exact row57) (by rfl) (by kernel_rfl) ?_; clear H; intro wN H) | (refine wpH_st1 (v := .int _ _) rfl rfl rfl rfl rfl H (by first | exact one3 | exact one4 | exact one26 | exact one22 | exact one91) (by repeat (first | exact Found.here | apply Found.there)) (by repeat (first | exact SetAt.z | apply SetAt.s)) (by repeat (first | exact Turned.here | apply Turned.there)) ?_; clear H; intro wN H)) | ((with_reducible refine at_al ?_); refine wpH_al rfl (by first | exact zero63 | exact zero89 | exact zero109 | exact zero57) H ?_; clear H; intro bN wN H) | ((with_reducible refine at_bx ?_); refine wpH_bxA rfl rfl H ?_; clear H; intro bN wN H)) | (go_at_call 63; refine (T _).mono ?_; rintro e wN ⟨rfl, hw⟩; replace H := H.call hw; clear hw) | (exact bodyPost_ret (results_H2 rfl H (by repeat (first | exact Found.here | apply Found.there)) (by first | exact row63 | exact row89 | exact row109 | exact row57) rfl rfl) rfl ⟨rfl, H.grown⟩))
/-- Loads and stores of whole accounts and packets that the walk leaves shut: a fact of their run is taken as it stands. -/
def ldM (v : Value) : Sem Value := Instr.loadAt 63 v
def ldP (v : Value) : Sem Value := Instr.loadAt 57 v
def stM (v x : Value) : Sem Unit := Instr.storeAt 63 v x
theorem ldM_shut (v : Value) : Instr.loadAt 63 v = ldM v := rfl
theorem ldP_shut (v : Value) : Instr.loadAt 57 v = ldP v := rfl
theorem stM_shut (v x : Value) : Instr.storeAt 63 v x = stM v x := rfl
theorem ldM_run {w : World} {b o : Nat} {m : Mi} (h : w.rangeAt b o (listM m)) : (ldM (.pointer (some ⟨b, o, none⟩))).run Try.prog w = .ok (.agg #[.int .i64 m.id, .int .i64 m.fr, .int .i64 m.to, .int .i64 m.se, .int .i64 m.ac, .int .i64 m.lo, .int .i64 m.pa, .int .i64 m.hi, .int .i64 m.dr, .int .i64 m.n, .int .i64 m.st, .int .i64 m.sr, .int .i64 m.tt, .int .i64 m.tr, .int .i64 m.rr]) w := mi_run h
theorem stM_run {w : World} {b o : Nat} {m : Mi} (h : w.there b o 15) : (stM (.pointer (some ⟨b, o, none⟩)) (.agg #[.int .i64 m.id, .int .i64 m.fr, .int .i64 m.to, .int .i64 m.se, .int .i64 m.ac, .int .i64 m.lo, .int .i64 m.pa, .int .i64 m.hi, .int .i64 m.dr, .int .i64 m.n, .int .i64 m.st, .int .i64 m.sr, .int .i64 m.tt, .int .i64 m.tr, .int .i64 m.rr])).run Try.prog w = .ok () (w.setCells b o (listM m)) := mi_store h
theorem ldP_run {w : World} {b : Nat} {p : Pt} (h : Ob w b (pc p)) : (ldP (.pointer (some ⟨b, 0, none⟩))).run Try.prog w = .ok (.agg #[.int .u64 p.seq, .int .i64 p.mi, .int .i64 p.size, .int .i64 p.sent]) w :=
  run_loadAt_mid w b 0 57 _ _ h.c Try.underlying57 rfl (by kernel_rfl)
theorem below_drew {w w1 : World} (h : Below w.drew.heap.size w.drew w1) : Below w.heap.size w w1 := ⟨h.os, h.tape, h.output, h.size, h.block⟩
end Go.Proofs.Ytpaalpnoppblaaa
