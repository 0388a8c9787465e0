/-
  The program's ledger: its small functions, what it refuses, a packet sent. No conditions but a ledger's own.
-/
import Derived.Test.YtpaalpnoppblaaaV14
import Derived.BigGuard
import Derived.BigCall
import Derived.CellFam
import Derived.Deep.Draws
import Derived.Deep.QuietTactic
import Derived.Deep.CutRange
import Derived.Deep.DeepCutAuto
import Derived.RegionTactic
namespace Go.Proofs.Ytpaalpnoppblaaa
open Go.RowKit Go.Maps
set_option linter.unusedVariables false
/-! Operations on the map, as equations. -/
theorem zeroP (w : World) : (zeroValue 57).run Try.prog w = .ok (pv ⟨0, 0, 0, 0⟩) w :=
  (zero_of_info (P := Try.prog) (t := 57) (v := pv ⟨0, 0, 0, 0⟩) (n := 4) (by kernel_rfl)).1 w
theorem wf64 {k : Int} (h0 : 0 ≤ k) (h1 : k ≤ 18446744073709551615) : (Lit.int .u64 k).wf = true := by
  simp [Lit.wf, IntKind.min, IntKind.max, IntKind.signed, IntKind.bits]; omega
/-- What a look-up finds. -/
def foundP (L : List Pt) (k : Int) : Pt := (L.find? (isq k)).getD ⟨0, 0, 0, 0⟩
theorem found_held {L : List Pt} {D : DataW Pt} (hh : ∀ x, has D (.int .u64 x) = L.any (isq x)) (ha : ∀ p ∈ L, ∀ z, D.atKey (.int .u64 p.seq) z = .held p) (k : Int) : D.atKey (.int .u64 k) (.held ⟨0, 0, 0, 0⟩) = .held (foundP L k) := by
  unfold foundP
  cases hf : L.find? (isq k) with
  | some p =>
    have h1 := List.find?_some hf
    have h2 := List.mem_of_find?_eq_some hf
    have e : p.seq = k := by simpa [isq] using h1
    rw [← e]; exact ha p h2 _
  | none =>
    have : L.any (isq k) = false := by
      rw [Bool.eq_false_iff]; intro h
      obtain ⟨q, hq, h3⟩ := List.any_eq_true.1 h
      exact absurd h3 (by simpa using List.find?_eq_none.1 hf q hq)
    exact atKey_of_not_has (by rw [hh]; exact this) _
set_option maxRecDepth 8000 in
theorem look_run {w : World} {mb : Nat} {L : List Pt} (M : MapOf w mb L) {k : Int} (h0 : 0 ≤ k) (h1 : k ≤ 18446744073709551615) :
    (Instr.lookup 91 (.map (some mb)) (.int .u64 k) true).run Try.prog w = .ok (.tuple #[.agg #[.int .u64 (foundP L k).seq, .int .i64 (foundP L k).mi, .int .i64 (foundP L k).size, .int .i64 (foundP L k).sent], .bool (L.any (isq k))]) w := by
  obtain ⟨D, hD, hh, ha, hz⟩ := M
  obtain ⟨v, ps, hrun, hv⟩ := hD.look_ok KT Try.underlying91 (zeroP w) (pR_mk _) (keyOf_int_mk Try.underlying22 (wf64 h0 h1))
  rw [found_held hh ha] at hv
  obtain ⟨p, rfl, e⟩ := pR_inv hv
  have e' : foundP L k = p := by injection e with e1 e2; injection e1
  rw [hrun, hh, ← e']
  rfl
set_option maxRecDepth 8000 in
theorem look1_run {w : World} {mb : Nat} {L : List Pt} (M : MapOf w mb L) {k : Int} (h0 : 0 ≤ k) (h1 : k ≤ 18446744073709551615) :
    (Instr.lookup 91 (.map (some mb)) (.int .u64 k) false).run Try.prog w = .ok (.agg #[.int .u64 (foundP L k).seq, .int .i64 (foundP L k).mi, .int .i64 (foundP L k).size, .int .i64 (foundP L k).sent]) w := by
  obtain ⟨D, hD, hh, ha, hz⟩ := M
  obtain ⟨v, ps, hrun, hv⟩ := hD.lookup KT Try.underlying91 (zeroP w) (pR_mk _) (keyOf_int_mk Try.underlying22 (wf64 h0 h1))
  rw [found_held hh ha] at hv
  obtain ⟨p, rfl, e⟩ := pR_inv hv
  have e' : foundP L k = p := by injection e with e1 e2; injection e1
  rw [hrun, ← e']
  rfl
theorem len_run {w : World} {mb : Nat} {L : List Pt} (M : MapOf w mb L) (ty : TypeId) : (Builtin.len_ #[91] ty #[.map (some mb)]).run Try.prog w = .ok (.int .i64 L.length) w := by
  obtain ⟨D, hD, hh, ha, hz⟩ := M
  have := hD.len Try.underlying91 ty
  rw [hz] at this; exact this
theorem put_run {w : World} {mb : Nat} {L : List Pt} (M : MapOf w mb L) (hl : L.length ≤ 1048576) (p : Pt) (h0 : 0 ≤ p.seq) (h1 : p.seq ≤ 18446744073709551615) (hn : L.any (isq p.seq) = false) :
    ∃ w', (Instr.mapUpdate 91 (.map (some mb)) (.int .u64 p.seq) (.agg #[.int .u64 p.seq, .int .i64 p.mi, .int .i64 p.size, .int .i64 p.sent])).run Try.prog w = .ok () w' ∧ MapOf w' mb (L ++ [p]) ∧ w.grownBy w' (some mb) := by
  obtain ⟨D, hD, hh, ha, hz⟩ := M
  obtain ⟨w', hrun, ho, hg⟩ := hD.update KT Try.underlying91 (by unfold maxLen; omega) (keyOf_int_mk Try.underlying22 (wf64 h0 h1)) (pR_mk p)
  exact ⟨w', hrun, MapOf.put (w := w) p hh ha hz (hD.tidy KT) hn ho, hg⟩
theorem del_run {w : World} {mb : Nat} {L : List Pt} (M : MapOf w mb L) (hu : L.Pairwise (fun p q => p.seq < q.seq)) {k : Int} (h0 : 0 ≤ k) (h1 : k ≤ 18446744073709551615) (hx : L.any (isq k) = true) (ty : TypeId) :
    ∃ w', (Builtin.delete_ #[91, 22] ty #[.map (some mb), .int .u64 k]).run Try.prog w = .ok (.tuple #[]) w' ∧ MapOf w' mb (without L k) ∧ w.grownBy w' (some mb) := by
  obtain ⟨D, hD, hh, ha, hz⟩ := M
  obtain ⟨w', hrun, ho, hg⟩ := hD.drop KT Try.underlying91 (keyOf_int_mk Try.underlying22 (wf64 h0 h1)) ty
  exact ⟨w', hrun, MapOf.del (w := w) k hu hh ha hz (hD.tidy KT) hx ho, hg.grown⟩
theorem MapOf.drewN {w : World} {mb : Nat} {L : List Pt} (h : MapOf w mb L) (q : Nat) : MapOf (w.drewN q) mb L := h
theorem MapOf.drew {w : World} {mb : Nat} {L : List Pt} (h : MapOf w mb L) : MapOf w.drew mb L := h
theorem Led.drewN {w : World} {lb mb : Nat} {s : Lg} (h : Led w lb mb s) (q : Nat) : Led (w.drewN q) lb mb s := h.far ((Far.refl [] w).drewN q) (by simp) (by simp)
/-- A ledger's cells, as a walk reads them. -/
theorem Led.cells {w : World} {lb mb : Nat} {s : Lg} (h : Led w lb mb s) : w.cell? ⟨lb, 0, none⟩ = some (.int .i64 s.room) ∧ w.cell? ⟨lb, 1, none⟩ = some (.map (some mb)) ∧ w.cell? ⟨lb, 2, none⟩ = some (.int .u64 s.first) ∧
    w.cell? ⟨lb, 3, none⟩ = some (.int .u64 s.next) ∧ w.cell? ⟨lb, 4, none⟩ = some (.int .u64 s.oldest) ∧ w.cell? ⟨lb, 5, none⟩ = some (.int .i64 s.last) ∧ (∀ o, w.frozen? ⟨lb, o, none⟩ = false) :=
  ⟨h.ob.cell rfl, h.ob.cell rfl, h.ob.cell rfl, h.ob.cell rfl, h.ob.cell rfl, h.ob.cell rfl, h.ob.f⟩
set_option maxHeartbeats 400000 in
theorem lwithin_any (n a b : Int) (w : World) : Calls Try.prog 46 #[.int .i64 n, .int .i64 a, .int .i64 b] w fun e w' => e = .returned (.bool (decide (a ≤ n ∧ n ≤ b))) ∧ w' = w := by
  go_enter Try.func46, Try.ntmps46
  by_cases h : a ≤ n
  · go_wp2
    go_ret
    exact ⟨by simp [h], rfl⟩
  · have h' : decide (a ≤ n) = false := decide_eq_false h
    go_wp2
    go_ret
    exact ⟨by simp <;> omega, rfl⟩
set_option maxHeartbeats 400000 in
theorem free_any (lb mb : Nat) (s : Lg) (hs : s.ok) (w : World) (H : Led w lb mb s) : Calls Try.prog 32 #[.pointer (some ⟨lb, 0, none⟩)] w fun e w' => e = .returned (.int .i64 (s.room - s.L.length)) ∧ ∃ q, w' = w.drewN q := by
  obtain ⟨c0, c1, c2, c3, c4, c5, f⟩ := H.cells
  have hl : ∀ q ty, (Builtin.len_ #[91] ty #[.map (some mb)]).run Try.prog (w.drewN q) = .ok (.int .i64 s.L.length) (w.drewN q) := fun q ty => len_run (H.map.drewN q) ty
  have hr0 := hs.r0; have hr1 := hs.r1; have hlen := hs.len
  go_enter Try.func32, Try.ntmps32
  go_wp2_with fail
  go_quiet (fail)
  go_wp2_with fail
  go_ret
  exact ⟨rfl, _, rfl⟩
end Go.Proofs.Ytpaalpnoppblaaa
