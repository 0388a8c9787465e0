/-
  The program's books: intervals told; room; what each of its calls answers. No conditions but the books' own.
-/
import Derived.Test.YtpaalpnoppblaaaZ7
import Derived.Test.YtpaalpnoppblaaaZ8
import Derived.Test.YtpaalpnoppblaaaZ10
import Derived.Test.YtpaalpnoppblaaaZ11
import Derived.Test.YtpaalpnoppblaaaZ6b
namespace Go.Proofs.Ytpaalpnoppblaaa
open Go.RowKit Go.Maps
set_option linter.unusedVariables false
set_option maxRecDepth 8000
set_option maxHeartbeats 1000000 in
/-- A copy of the intervals. -/
theorem clone_any (ao : Option Addr) (g o n c : Nat) (L : List Mi) (hn : n ≤ 999999) (w : World) (h : Mis w ao g o n c L) :
    Calls Try.prog 31 #[.slice ao n c] w fun e w' => ∃ ao' g' o' c', e = .returned (.slice ao' n c') ∧ Mis w' ao' g' o' n c' L ∧ Below w.heap.size w w' := by
  have hnil : ∀ W, (binOp .eql 36 (.slice ao n c) (.slice none 0 0)).run Try.prog W = .ok (.bool ao.isNone) W := fun W => by
    exact Lib.run_eql_slice_nil W 36 63 ao n c 0 0 Try.underlying36
  go_enter Try.func31, Try.ntmps31
  cases ao with
  | none =>
    have hc : c = 0 := by
      rcases Nat.eq_zero_or_pos c with h0 | h0
      · exact h0
      · have := h.addr h0; cases this
    have hn0 : n = 0 := by have := h.cap; omega
    subst hc
    subst hn0
    have hnil2 : ∀ W, (binOp .eql 36 (.slice none 0 0) (.slice none 0 0)).run Try.prog W = .ok (.bool true) W := hnil
    clear hnil
    go_wp2_with fail
    go_ret
    exact ⟨none, g, o, 0, rfl, h, by go_grown⟩
  | some b =>
    have FA : Far [] w (w.alloc (.cells #[] 63)) := (Far.refl _ _).alloc _
    have hA := h.far FA (by simp)
    have hN : Mis (w.alloc (.cells #[] 63)) (some ⟨w.heap.size, 0, none⟩) w.heap.size 0 0 0 [] :=
      ⟨rfl, Nat.le_refl _, by unfold maxLen; omega, fun h => absurd h (by omega), fun h => absurd h (by omega), fun i h => absurd h (Nat.not_lt_zero i), fun j hj => absurd hj (by omega)⟩
    have hlen := h.len
    have hnil2 : ∀ W, (binOp .eql 36 (.slice (some b) n c) (.slice none 0 0)).run Try.prog W = .ok (.bool false) W := hnil
    clear hnil
    go_wp2_with (at_builtin; refine wpM_append rfl _ _ rfl rfl rfl hN hA.src hlen (by omega) ?_; intro ao' g' o' c' w' hM hF hg)
    go_ret
    rw [if_neg (by omega)] at hF
    have hB := Far.to_below (FA.trans hF)
    rw [Nat.zero_add] at hM
    exact ⟨ao', g', o', c', rfl, hM, hB⟩
section
variable (bb : Nat) (S : List Nat) (s : Bk) (hf : Fit s)
include hf
theorem mis_any (w : World) (HB : Bka w bb S s) : Calls Try.prog 11 #[.pointer (some ⟨bb, 0, none⟩)] w fun e w' => ∃ ao g o c, e = .returned (.slice ao s.L.length c) ∧ Mis w' ao g o s.L.length c s.L ∧ Below w.heap.size w w' := by
  obtain ⟨lb, mb, ao, g, o, c, HB⟩ := HB
  obtain ⟨c0, c1, c2, c3, c4, fz⟩ := HB.cells
  have hlen := hf.len
  go_enter Try.func11, Try.ntmps11
  go_wp2_with fail
  refine (clone_any ao g o s.L.length c s.L (by omega) _ HB.row).mono ?_
  rintro e w1 ⟨ao', g', o', c', rfl, hM, hB⟩
  go_wp2_with fail
  go_ret
  exact ⟨ao', g', o', c', rfl, hM, hB⟩
theorem bfree_any (w : World) (HB : Bka w bb S s) : Calls Try.prog 12 #[.pointer (some ⟨bb, 0, none⟩)] w fun e w' => e = .returned (.int .i64 (s.l.room - s.l.L.length)) ∧ Below w.heap.size w w' := by
  obtain ⟨lb, mb, ao, g, o, c, HB⟩ := HB
  obtain ⟨c0, c1, c2, c3, c4, fz⟩ := HB.cells
  go_enter Try.func12, Try.ntmps12
  go_wp2_with fail
  refine (free_any lb mb s.l hf.ok _ HB.led).mono ?_
  rintro e w1 ⟨rfl, q, rfl⟩
  go_wp2_with fail
  go_ret
  exact ⟨rfl, rfl, rfl, rfl, Nat.le_refl _, fun _ _ => rfl⟩
theorem Begin_any (a : Int) (a0 : -9223372036854775808 ≤ a) (a1 : a ≤ 9223372036854775807) (hb : s.begun ≤ 4611686018427387904) (w : World) (HB : Bka w bb S s) :
    Calls Try.prog 15 #[.pointer (some ⟨bb, 0, none⟩), .int .i64 a] w fun e w' => e = .returned (.tuple #[.int .i64 (bgV s a), .int .i64 (bgE s a)]) ∧ ∃ S', Bka w' bb S' (bgL s a) ∧ Goes S S' w w' := by
  obtain ⟨lb, mb, ao, g, o, c, HB⟩ := HB
  go_enter Try.func15, Try.ntmps15
  go_wp2_with fail
  refine (begin_any bb lb mb ao g o c S s hf a a0 a1 hb _ HB).mono ?_
  rintro e w1 ⟨rfl, hr⟩
  go_wp2_with fail
  go_ret2
  exact ⟨rfl, hr⟩
theorem Send_any (z a : Int) (z0 : -9223372036854775808 ≤ z) (z1 : z ≤ 9223372036854775807) (a0 : -9223372036854775808 ≤ a) (a1 : a ≤ 9223372036854775807) (w : World) (HB : Bka w bb S s) :
    Calls Try.prog 16 #[.pointer (some ⟨bb, 0, none⟩), .int .i64 z, .int .i64 a] w fun e w' => e = .returned (.tuple #[.int .u64 (sdV s z a), .int .i64 (sdE s z a)]) ∧ Bka w' bb S (sdL s z a) ∧ Far S w w' := by
  obtain ⟨lb, mb, ao, g, o, c, HB⟩ := HB
  go_enter Try.func16, Try.ntmps16
  go_wp2_with fail
  refine (bsend_any bb lb mb ao g o c S s hf z a z0 z1 a0 a1 _ HB).mono ?_
  rintro e w1 ⟨rfl, hr⟩
  go_wp2_with fail
  go_ret2
  exact ⟨rfl, hr⟩
theorem Take_any (w : World) (HB : Bka w bb S s) : Calls Try.prog 20 #[.pointer (some ⟨bb, 0, none⟩)] w fun e w' => e = .returned (.tuple #[.agg #[.int .i64 (tkM s).id, .int .i64 (tkM s).fr, .int .i64 (tkM s).to, .int .i64 (tkM s).se, .int .i64 (tkM s).ac, .int .i64 (tkM s).lo, .int .i64 (tkM s).pa, .int .i64 (tkM s).hi, .int .i64 (tkM s).dr, .int .i64 (tkM s).n, .int .i64 (tkM s).st, .int .i64 (tkM s).sr, .int .i64 (tkM s).tt, .int .i64 (tkM s).tr, .int .i64 (tkM s).rr], .bool (tkB s)]) ∧ Bka w' bb S (tkL s) ∧ Far S w w' := by
  obtain ⟨lb, mb, ao, g, o, c, HB⟩ := HB
  exact btake_any bb lb mb ao g o c S s hf w HB
theorem Expire_any (a : Int) (a0 : -9223372036854775808 ≤ a) (a1 : a ≤ 9223372036854775807) (w : World) (HB : Bka w bb S s) :
    Calls Try.prog 19 #[.pointer (some ⟨bb, 0, none⟩), .int .i64 a] w fun e w' =>
      ∃ v, e = .returned (.tuple #[v, .int .i64 (exE s a)]) ∧ w'.ownsRow w.heap.size 57 4 v (exP s a).length (pcs (exP s a)) ∧ (∃ o, Bka w' bb S (exL s a o) ∧ Fit (exL s a o)) ∧ Far S w w' := by
  obtain ⟨lb, mb, ao, g, o, c, HB⟩ := HB
  go_enter Try.func19, Try.ntmps19
  go_wp2_with fail
  have T := bexpire_any bb lb mb ao g o c S s hf a a0 a1 w HB
  rw [show hval false = .func (.func 41) #[] #[] from rfl] at T
  refine T.mono ?_
  rintro e w1 ⟨v, rfl, hr⟩
  go_wp2_with fail
  go_ret2
  exact ⟨v, rfl, hr⟩
end
set_option maxHeartbeats 1000000 in
theorem Ack_any (bb : Nat) (S : List Nat) (s : Bk) (hf : Fit s) (x a : Int) (x0 : 0 ≤ x) (x1 : x ≤ 18446744073709551615) (a0 : -9223372036854775808 ≤ a) (a1 : a ≤ 9223372036854775807) (w : World) (HB : Bka w bb S s) :
    Calls Try.prog 17 #[.pointer (some ⟨bb, 0, none⟩), .int .u64 x, .int .i64 a] w fun e w' =>
      e = .returned (.tuple #[.agg #[.int .u64 (stP s x a).seq, .int .i64 (stP s x a).mi, .int .i64 (stP s x a).size, .int .i64 (stP s x a).sent], .int .i64 (stE s x a)]) ∧ Bka w' bb S (stL true s x a) ∧ Far S w w' := by
  obtain ⟨lb, mb, ao, g, o, c, HB⟩ := HB
  go_enter Try.func17, Try.ntmps17
  have FA : Far [] w (w.alloc (.cells #[.int .u64 0, .int .i64 0, .int .i64 0, .int .i64 0] 57)) := (Far.refl _ _).alloc _
  have PB := Ob.fresh w #[.int .u64 0, .int .i64 0, .int .i64 0, .int .i64 0] 57
  have T := settle_any true bb lb mb ao g o c S s hf x a x0 x1 a0 a1 _ (HB.far FA (by simp))
  rw [show hval true = .func (.func 40) #[] #[] from rfl] at T
  have hlow := HB.low
  have hn : ∀ q ∈ S, q ≠ w.heap.size := fun q hq e => by have := hlow q hq; omega
  go_wp2_with fail
  refine T.mono ?_
  rintro e w1 ⟨rfl, HB1, F1⟩
  obtain ⟨y, hy⟩ : ∃ y, stE s x a = y := ⟨_, rfl⟩
  obtain ⟨P, hP⟩ : ∃ P, stP s x a = P := ⟨_, rfl⟩
  have HY : Hid (stE s x a = y ∧ stP s x a = P) := ⟨hy, hP⟩
  rw [hy, hP]
  clear hy hP
  have PB1 : Ob w1 w.heap.size (pc ⟨0, 0, 0, 0⟩) := PB.far F1 (fun hm => hn _ hm rfl)
  have z0 : w1.cell? ⟨w.heap.size, 0, none⟩ = some (.int .u64 0) := PB1.cell rfl
  have z1 : w1.cell? ⟨w.heap.size, 1, none⟩ = some (.int .i64 0) := PB1.cell rfl
  have z2 : w1.cell? ⟨w.heap.size, 2, none⟩ = some (.int .i64 0) := PB1.cell rfl
  have z3 : w1.cell? ⟨w.heap.size, 3, none⟩ = some (.int .i64 0) := PB1.cell rfl
  have zf := PB1.f
  have OP := PB1.putP P
  have HB2 := HB1.far (w1 := w1.putP w.heap.size P) ((Far.refl [w.heap.size] _).putP (.inr (by simp)) _) (fun q hq => by simp; exact hn q hq)
  have F2 : Far S w (w1.putP w.heap.size P) := ((FA.mono (by simp)).trans F1).putP (.inl (Nat.le_refl _)) _
  clear HB1 PB PB1 F1 FA HB T
  go_wp2_with fail
  exact bodyPost_ret (results_P2 (q := P) (v := .int .i64 y) rfl OP rfl rfl) rfl ⟨by rw [HY.out.1, HY.out.2], HB2, F2⟩
set_option maxHeartbeats 1000000 in
theorem Lose_any (bb : Nat) (S : List Nat) (s : Bk) (hf : Fit s) (x a : Int) (x0 : 0 ≤ x) (x1 : x ≤ 18446744073709551615) (a0 : -9223372036854775808 ≤ a) (a1 : a ≤ 9223372036854775807) (w : World) (HB : Bka w bb S s) :
    Calls Try.prog 18 #[.pointer (some ⟨bb, 0, none⟩), .int .u64 x, .int .i64 a] w fun e w' =>
      e = .returned (.tuple #[.agg #[.int .u64 (stP s x a).seq, .int .i64 (stP s x a).mi, .int .i64 (stP s x a).size, .int .i64 (stP s x a).sent], .int .i64 (stE s x a)]) ∧ Bka w' bb S (stL false s x a) ∧ Far S w w' := by
  obtain ⟨lb, mb, ao, g, o, c, HB⟩ := HB
  go_enter Try.func18, Try.ntmps18
  have FA : Far [] w (w.alloc (.cells #[.int .u64 0, .int .i64 0, .int .i64 0, .int .i64 0] 57)) := (Far.refl _ _).alloc _
  have PB := Ob.fresh w #[.int .u64 0, .int .i64 0, .int .i64 0, .int .i64 0] 57
  have T := settle_any false bb lb mb ao g o c S s hf x a x0 x1 a0 a1 _ (HB.far FA (by simp))
  rw [show hval false = .func (.func 41) #[] #[] from rfl] at T
  have hlow := HB.low
  have hn : ∀ q ∈ S, q ≠ w.heap.size := fun q hq e => by have := hlow q hq; omega
  go_wp2_with fail
  refine T.mono ?_
  rintro e w1 ⟨rfl, HB1, F1⟩
  obtain ⟨y, hy⟩ : ∃ y, stE s x a = y := ⟨_, rfl⟩
  obtain ⟨P, hP⟩ : ∃ P, stP s x a = P := ⟨_, rfl⟩
  have HY : Hid (stE s x a = y ∧ stP s x a = P) := ⟨hy, hP⟩
  rw [hy, hP]
  clear hy hP
  have PB1 : Ob w1 w.heap.size (pc ⟨0, 0, 0, 0⟩) := PB.far F1 (fun hm => hn _ hm rfl)
  have z0 : w1.cell? ⟨w.heap.size, 0, none⟩ = some (.int .u64 0) := PB1.cell rfl
  have z1 : w1.cell? ⟨w.heap.size, 1, none⟩ = some (.int .i64 0) := PB1.cell rfl
  have z2 : w1.cell? ⟨w.heap.size, 2, none⟩ = some (.int .i64 0) := PB1.cell rfl
  have z3 : w1.cell? ⟨w.heap.size, 3, none⟩ = some (.int .i64 0) := PB1.cell rfl
  have zf := PB1.f
  have OP := PB1.putP P
  have HB2 := HB1.far (w1 := w1.putP w.heap.size P) ((Far.refl [w.heap.size] _).putP (.inr (by simp)) _) (fun q hq => by simp; exact hn q hq)
  have F2 : Far S w (w1.putP w.heap.size P) := ((FA.mono (by simp)).trans F1).putP (.inl (Nat.le_refl _)) _
  clear HB1 PB PB1 F1 FA HB T
  go_wp2_with fail
  exact bodyPost_ret (results_P2 (q := P) (v := .int .i64 y) rfl OP rfl rfl) rfl ⟨by rw [HY.out.1, HY.out.2], HB2, F2⟩
end Go.Proofs.Ytpaalpnoppblaaa
