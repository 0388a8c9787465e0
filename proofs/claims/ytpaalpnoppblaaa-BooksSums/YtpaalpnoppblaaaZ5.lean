/-
  The program's books: what the end of a packet's way does in its interval. No conditions but the books' own.
-/
import Derived.Test.YtpaalpnoppblaaaZ4
import Derived.Deep.RegionWith
import Derived.Deep.QuietTactic
namespace Go.Proofs.Ytpaalpnoppblaaa
open Go.RowKit Go.Maps
set_option linter.unusedVariables false
set_option maxRecDepth 8000
attribute [local go_sem ↓] ldM_shut ldP_shut stM_shut
set_option maxHeartbeats 40000000 in
theorem charge_any (k : Bool) (bb lb mb : Nat) (ao : Option Addr) (g o c : Nat) (S : List Nat) (s : Bk) (p : Pt) (a : Int) (x0 : -9223372036854775808 ≤ p.sent) (x1 : p.sent ≤ 9223372036854775807)
    (j : Nat) (hj : j < s.L.length) (q0 : Int) (hq : (s.L[0]'(Nat.zero_lt_of_lt hj)).id = q0) (hw : IntKind.i64.wrap (p.mi - q0) = (j : Int)) (w : World) (H : Bks w bb lb mb ao g o c S s) :
    Calls Try.prog 67 #[.pointer (some ⟨bb, 0, none⟩), .agg #[.int .u64 p.seq, .int .i64 p.mi, .int .i64 p.size, .int .i64 p.sent], .agg #[.int .i64 a, hval k]] w fun e w' =>
      e = .returned (.tuple #[]) ∧ Bks w' bb lb mb ao g o c S { s with L := s.L.set j (howV k s.L[j] p a) } ∧ Far [g] w w' := by
  have hv := H.row.value hj
  obtain ⟨rfl, hg⟩ := hv
  have HQ : Hid ((s.L[0]'(Nat.zero_lt_of_lt hj)).id = q0) := hq
  clear hq
  obtain ⟨m, hm⟩ : ∃ m, s.L[j] = m := ⟨_, rfl⟩
  rw [hm]
  have HM : Hid (s.L[j] = m) := hm
  clear hm
  have T := fun w => how_any k m p a x0 x1 w
  generalize howV k m p a = V at *
  generalize howE k m p a = E at *
  have hn : (s.L.length : Int) ≤ 9223372036854775807 := by have := H.row.cap; have := H.row.max; unfold maxLen at this; omega
  cases k
  · rw [show hval false = .func (.func 41) #[] #[] from rfl]
    rw [show hfn false = 41 from rfl] at T
    go_enter Try.func67, Try.ntmps67
    go_upto_region 1 with fail
    have BW : Below w.heap.size w ((w.alloc (.cells #[.int .u64 p.seq, .int .i64 p.mi, .int .i64 p.size, .int .i64 p.sent] 57)).alloc (.cells #[.int .i64 a, .func (.func 41) #[] #[]] 87)) := by go_grown
    have PB := (Ob.fresh w #[.int .u64 p.seq, .int .i64 p.mi, .int .i64 p.size, .int .i64 p.sent] 57).far ((Far.refl [] _).alloc (.cells #[.int .i64 a, .func (.func 41) #[] #[]] 87)) (by simp)
    have EB := Ob.fresh (w.alloc (.cells #[.int .u64 p.seq, .int .i64 p.mi, .int .i64 p.size, .int .i64 p.sent] 57)) #[.int .i64 a, .func (.func 41) #[] #[]] 87
    rw [World.size_alloc] at EB
    have H1 := H.below BW
    generalize ((w.alloc (.cells #[.int .u64 p.seq, .int .i64 p.mi, .int .i64 p.size, .int .i64 p.sent] 57)).alloc (.cells #[.int .i64 a, .func (.func 41) #[] #[]] 87)) = W at *
    obtain ⟨c0, c1, c2, c3, c4, fz⟩ := H1.cells
    have e0 : W.cell? ⟨g, o, none⟩ = some (.int .i64 q0) := by have := H1.row.els 0 (by omega) 0 _ rfl; rw [HQ.out] at this; simpa using this
    have pc1 : W.cell? ⟨w.heap.size, 1, none⟩ = some (.int .i64 p.mi) := PB.cell rfl
    have BF : Far [] w W := Far.of_below BW
    generalize w.heap.size = pb at *
    go_quiet (fail)
    have H2 := H1.below (w1 := W.drewN nq) ⟨rfl, rfl, rfl, Nat.le_refl _, fun _ _ => rfl⟩
    have PB2 := PB.far ((Far.refl [] W).drewN nq) (by simp)
    have EB2 := EB.far ((Far.refl [] W).drewN nq) (by simp)
    have BW2 : Far [] w (W.drewN nq) := BF.drewN nq
    clear H1 PB EB BW BF c0 c1 c2 c3 c4 fz e0 pc1 hw
    generalize W.drewN nq = W2 at *
    obtain ⟨VM, hVM⟩ : ∃ x : Value, x = .agg #[.int .i64 m.id, .int .i64 m.fr, .int .i64 m.to, .int .i64 m.se, .int .i64 m.ac, .int .i64 m.lo, .int .i64 m.pa, .int .i64 m.hi, .int .i64 m.dr, .int .i64 m.n, .int .i64 m.st, .int .i64 m.sr, .int .i64 m.tt, .int .i64 m.tr, .int .i64 m.rr] := ⟨_, rfl⟩
    obtain ⟨VN, hVN⟩ : ∃ x : Value, x = .agg #[.int .i64 V.id, .int .i64 V.fr, .int .i64 V.to, .int .i64 V.se, .int .i64 V.ac, .int .i64 V.lo, .int .i64 V.pa, .int .i64 V.hi, .int .i64 V.dr, .int .i64 V.n, .int .i64 V.st, .int .i64 V.sr, .int .i64 V.tt, .int .i64 V.tr, .int .i64 V.rr] := ⟨_, rfl⟩
    obtain ⟨VP, hVP⟩ : ∃ x : Value, x = Value.agg #[.int .u64 p.seq, .int .i64 p.mi, .int .i64 p.size, .int .i64 p.sent] := ⟨_, rfl⟩
    have hM : (ldM (.pointer (some ⟨g, o + j * 15, none⟩))).run Try.prog W2.drew = .ok VM W2.drew := by
      rw [hVM]; exact ldM_run (by have := H2.row.els j hj; rw [HM.out] at this; exact this)
    have hP : (ldP (.pointer (some ⟨pb, 0, none⟩))).run Try.prog W2.drew = .ok VP W2.drew := by
      rw [hVP]; exact ldP_run (PB2.far (Far.refl [] _).drew (by simp))
    have f0 : W2.cell? ⟨pb + 1, 0, none⟩ = some (.int .i64 a) := EB2.cell rfl
    have f1 : W2.cell? ⟨pb + 1, 1, none⟩ = some (.func (.func 41) #[] #[]) := EB2.cell rfl
    have hST : ∀ w3 : World, Below W2.drew.heap.size W2.drew w3 → (stM (.pointer (some ⟨g, o + j * 15, none⟩)) VN).run Try.prog w3 = .ok () (w3.setCells g (o + j * 15) (listM V)) := fun w3 hb => by
      rw [hVN]; exact stM_run ((H2.below (w1 := w3) (below_drew hb)).row.there' hj)
    rw [← hVM, ← hVN, ← hVP] at T
    have hEnd : ∀ w3 : World, Below W2.drew.heap.size W2.drew w3 → Bks (w3.setCells g (o + j * 15) (listM V)) bb lb mb (some ⟨g, o, none⟩) g o c S { s with L := s.L.set j V } ∧ Far [g] w (w3.setCells g (o + j * 15) (listM V)) := fun w3 hb => by
      have h3 := (H2.below (w1 := w3) (below_drew hb)).put hj V
      exact ⟨h3.1, ((BW2.below (w2 := w3) (below_drew hb)).mono (by simp)).trans h3.2⟩
    have HE : Hid (∀ w3 : World, Below W2.drew.heap.size W2.drew w3 → Bks (w3.setCells g (o + j * 15) (listM V)) bb lb mb (some ⟨g, o, none⟩) g o c S { s with L := s.L.set j V } ∧ Far [g] w (w3.setCells g (o + j * 15) (listM V))) := hEnd
    clear hEnd H2 H PB2 EB2 hVM hVN hVP BW2
    go_upto_region 2 with fail
    go_region_with (first | (go_at_call 41; refine (T _).mono ?_; rintro e w3 ⟨rfl, hw3⟩; have hst := hST w3 hw3))
    all_goals have HEE := HE.out _ hw3
    all_goals go_wp2_with fail
    all_goals (first | exact bodyPost_ret (results_0 rfl) rfl ⟨rfl, HEE⟩ | exact bodyPost_end (results_0 rfl) rfl ⟨rfl, HEE⟩)
  · rw [show hval true = .func (.func 40) #[] #[] from rfl]
    rw [show hfn true = 40 from rfl] at T
    go_enter Try.func67, Try.ntmps67
    go_upto_region 1 with fail
    have BW : Below w.heap.size w ((w.alloc (.cells #[.int .u64 p.seq, .int .i64 p.mi, .int .i64 p.size, .int .i64 p.sent] 57)).alloc (.cells #[.int .i64 a, .func (.func 40) #[] #[]] 87)) := by go_grown
    have PB := (Ob.fresh w #[.int .u64 p.seq, .int .i64 p.mi, .int .i64 p.size, .int .i64 p.sent] 57).far ((Far.refl [] _).alloc (.cells #[.int .i64 a, .func (.func 40) #[] #[]] 87)) (by simp)
    have EB := Ob.fresh (w.alloc (.cells #[.int .u64 p.seq, .int .i64 p.mi, .int .i64 p.size, .int .i64 p.sent] 57)) #[.int .i64 a, .func (.func 40) #[] #[]] 87
    rw [World.size_alloc] at EB
    have H1 := H.below BW
    generalize ((w.alloc (.cells #[.int .u64 p.seq, .int .i64 p.mi, .int .i64 p.size, .int .i64 p.sent] 57)).alloc (.cells #[.int .i64 a, .func (.func 40) #[] #[]] 87)) = W at *
    obtain ⟨c0, c1, c2, c3, c4, fz⟩ := H1.cells
    have e0 : W.cell? ⟨g, o, none⟩ = some (.int .i64 q0) := by have := H1.row.els 0 (by omega) 0 _ rfl; rw [HQ.out] at this; simpa using this
    have pc1 : W.cell? ⟨w.heap.size, 1, none⟩ = some (.int .i64 p.mi) := PB.cell rfl
    have BF : Far [] w W := Far.of_below BW
    generalize w.heap.size = pb at *
    go_quiet (fail)
    have H2 := H1.below (w1 := W.drewN nq) ⟨rfl, rfl, rfl, Nat.le_refl _, fun _ _ => rfl⟩
    have PB2 := PB.far ((Far.refl [] W).drewN nq) (by simp)
    have EB2 := EB.far ((Far.refl [] W).drewN nq) (by simp)
    have BW2 : Far [] w (W.drewN nq) := BF.drewN nq
    clear H1 PB EB BW BF c0 c1 c2 c3 c4 fz e0 pc1 hw
    generalize W.drewN nq = W2 at *
    obtain ⟨VM, hVM⟩ : ∃ x : Value, x = .agg #[.int .i64 m.id, .int .i64 m.fr, .int .i64 m.to, .int .i64 m.se, .int .i64 m.ac, .int .i64 m.lo, .int .i64 m.pa, .int .i64 m.hi, .int .i64 m.dr, .int .i64 m.n, .int .i64 m.st, .int .i64 m.sr, .int .i64 m.tt, .int .i64 m.tr, .int .i64 m.rr] := ⟨_, rfl⟩
    obtain ⟨VN, hVN⟩ : ∃ x : Value, x = .agg #[.int .i64 V.id, .int .i64 V.fr, .int .i64 V.to, .int .i64 V.se, .int .i64 V.ac, .int .i64 V.lo, .int .i64 V.pa, .int .i64 V.hi, .int .i64 V.dr, .int .i64 V.n, .int .i64 V.st, .int .i64 V.sr, .int .i64 V.tt, .int .i64 V.tr, .int .i64 V.rr] := ⟨_, rfl⟩
    obtain ⟨VP, hVP⟩ : ∃ x : Value, x = Value.agg #[.int .u64 p.seq, .int .i64 p.mi, .int .i64 p.size, .int .i64 p.sent] := ⟨_, rfl⟩
    have hM : (ldM (.pointer (some ⟨g, o + j * 15, none⟩))).run Try.prog W2.drew = .ok VM W2.drew := by
      rw [hVM]; exact ldM_run (by have := H2.row.els j hj; rw [HM.out] at this; exact this)
    have hP : (ldP (.pointer (some ⟨pb, 0, none⟩))).run Try.prog W2.drew = .ok VP W2.drew := by
      rw [hVP]; exact ldP_run (PB2.far (Far.refl [] _).drew (by simp))
    have f0 : W2.cell? ⟨pb + 1, 0, none⟩ = some (.int .i64 a) := EB2.cell rfl
    have f1 : W2.cell? ⟨pb + 1, 1, none⟩ = some (.func (.func 40) #[] #[]) := EB2.cell rfl
    have hST : ∀ w3 : World, Below W2.drew.heap.size W2.drew w3 → (stM (.pointer (some ⟨g, o + j * 15, none⟩)) VN).run Try.prog w3 = .ok () (w3.setCells g (o + j * 15) (listM V)) := fun w3 hb => by
      rw [hVN]; exact stM_run ((H2.below (w1 := w3) (below_drew hb)).row.there' hj)
    rw [← hVM, ← hVN, ← hVP] at T
    have hEnd : ∀ w3 : World, Below W2.drew.heap.size W2.drew w3 → Bks (w3.setCells g (o + j * 15) (listM V)) bb lb mb (some ⟨g, o, none⟩) g o c S { s with L := s.L.set j V } ∧ Far [g] w (w3.setCells g (o + j * 15) (listM V)) := fun w3 hb => by
      have h3 := (H2.below (w1 := w3) (below_drew hb)).put hj V
      exact ⟨h3.1, ((BW2.below (w2 := w3) (below_drew hb)).mono (by simp)).trans h3.2⟩
    have HE : Hid (∀ w3 : World, Below W2.drew.heap.size W2.drew w3 → Bks (w3.setCells g (o + j * 15) (listM V)) bb lb mb (some ⟨g, o, none⟩) g o c S { s with L := s.L.set j V } ∧ Far [g] w (w3.setCells g (o + j * 15) (listM V))) := hEnd
    clear hEnd H2 H PB2 EB2 hVM hVN hVP BW2
    go_upto_region 2 with fail
    go_region_with (first | (go_at_call 40; refine (T _).mono ?_; rintro e w3 ⟨rfl, hw3⟩; have hst := hST w3 hw3))
    all_goals have HEE := HE.out _ hw3
    all_goals go_wp2_with fail
    all_goals (first | exact bodyPost_ret (results_0 rfl) rfl ⟨rfl, HEE⟩ | exact bodyPost_end (results_0 rfl) rfl ⟨rfl, HEE⟩)
end Go.Proofs.Ytpaalpnoppblaaa
