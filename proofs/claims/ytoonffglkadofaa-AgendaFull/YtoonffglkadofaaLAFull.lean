/-
  AgendaFull: for any number and event an agenda takes as many as it has room for, and one more when one was told. No conditions.
-/
import Derived.Test.YtoonffglkadofaaGF
import Derived.Test.YtoonffglkadofaaGX
import Derived.Test.YtoonffglkadofaaRows
import Derived.WalkKit
import Derived.ProofKit
import Derived.OpenShut
import Derived.ChangeOld
import Derived.Below
import Derived.Lib.SmallJoins
namespace Go.Proofs.Ytoonffglkadofaa
open Go.RowKit
set_option linter.unusedVariables false
attribute [local go_sem] Later.cell Later.frozen
/-- So many of one event, as they were put. -/
def xr (x : Ev) : Nat → List Ent
  | 0 => []
  | i + 1 => xr x i ++ [⟨x, i⟩]
theorem xr_len (x : Ev) (n : Nat) : (es (xr x n)).length = n := by
  induction n with
  | zero => rfl
  | succ n ih => show (es (xr x n ++ [⟨x, n⟩])).length = _; rw [es_put, List.length_append, ih]; rfl
theorem xr_all (x : Ev) (n : Nat) : ∀ i, i < n → evp (es (xr x n)) i = x := by
  induction n with
  | zero => intro i h; omega
  | succ n ih =>
    intro i h
    show evp (es (xr x n ++ [⟨x, n⟩])) i = x
    rw [es_put]
    have hl := xr_len x n
    by_cases e : i = n
    · subst e
      simp only [evp, List.getD]
      rw [List.getElem?_append_right (by omega), hl]
      simp
    · have := ih i (by omega)
      simp only [evp, List.getD] at this ⊢
      rw [List.getElem?_append_left (by omega)]
      exact this
theorem xr_me (x : Ev) {n : Nat} (h : 0 < n) : me (es (xr x n)) 0 = x := by
  have := (mi_spec (l := es (xr x n)) (by rw [xr_len]; exact h)).1
  rw [xr_len] at this
  exact xr_all x n _ this
set_option maxHeartbeats 1000000 in
set_option maxRecDepth 100000 in
theorem full_no (m : Int) (x : Ev) (hm : m < 1 ∨ 65536 < m) (w : World) : Calls Try.prog 6 #[.int .i64 m, .agg #[.int .i64 x.a, .int .i64 x.k, .int .i64 x.o, .int .u64 x.s]] w fun e w' => e = .returned (.bool true) ∧ Below w.heap.size w w' := by
  go_enter Try.func6, Try.ntmps6
  go_wp2_with fail
  refine (new_no m hm _).mono ?_
  rintro e w1 ⟨rfl, hw1⟩
  have hB : Below w.heap.size w w1 := Below.call (by go_grown) (by simp <;> omega) hw1
  clear hw1
  go_wp2_with fail
  refine (noted_any _).mono ?_
  rintro e w2 ⟨rfl, hw2⟩
  replace hB := Below.call hB hB.size hw2
  go_wp2
  go_ret
  exact ⟨rfl, hB⟩
set_option maxHeartbeats 1000000 in
set_option maxRecDepth 100000 in
theorem full_big (m : Int) (x : Ev) (h1 : 200 < m) (h2 : m ≤ 65536) (w : World) : Calls Try.prog 6 #[.int .i64 m, .agg #[.int .i64 x.a, .int .i64 x.k, .int .i64 x.o, .int .u64 x.s]] w fun e w' => e = .returned (.bool true) ∧ Below w.heap.size w w' := by
  go_enter Try.func6, Try.ntmps6
  go_wp2_with fail
  refine (new_yes m (by omega) h2 _).mono ?_
  rintro e w1 ⟨rfl, hs1, A, hw1⟩
  have hB : Below w.heap.size w w1 := Below.call (by go_grown) (by simp <;> omega) hw1
  clear hw1 A
  go_wp2_with fail
  refine (noted_any _).mono ?_
  rintro e w2 ⟨rfl, hw2⟩
  replace hB := Below.call hB hB.size hw2
  go_wp2
  go_ret
  exact ⟨rfl, hB⟩
set_option maxHeartbeats 1000000 in
set_option maxRecDepth 100000 in
theorem full_yes (m : Nat) (x : Ev) (bx : x.Bd) (h1 : 1 ≤ m) (h2 : m ≤ 200) (w : World) : Calls Try.prog 6 #[.int .i64 m, .agg #[.int .i64 x.a, .int .i64 x.k, .int .i64 x.o, .int .u64 x.s]] w fun e w' => e = .returned (.bool true) ∧ Below w.heap.size w w' := by
  have hm1 : ¬ (200 : Int) < m := by omega
  go_enter Try.func6, Try.ntmps6
  go_wp2_with fail
  refine (new_yes m (by omega) (by omega) _).mono ?_
  rintro e w1 ⟨rfl, hs1, A, hw1⟩
  have X : At4 w1 w.heap.size (.int .i64 x.a) (.int .i64 x.k) (.int .i64 x.o) (.int .u64 x.s) := At4.of hw1 (At4.fresh _ _ _ _ _ _)
  have hB : Below w.heap.size w w1 := Below.call (by go_grown) (by simp <;> omega) hw1
  simp only [World.size_alloc] at A hs1
  clear hw1
  go_wp2_with fail
  go_loopw [7] (fun v7 wr => ∃ (i : Nat) (ao : Option Addr) (c : Nat) (L : List Ent), i ≤ m ∧ v7 = .int .i64 i ∧ At4 wr w.heap.size (.int .i64 x.a) (.int .i64 x.k) (.int .i64 x.o) (.int .u64 x.s) ∧ Ag wr (w.heap.size + 1) ((w.heap.size + 1) + 1) m i (.slice ao i c) i L (xr x i) ∧ Below w.heap.size w wr) (fun v7 _ => m - (intOf v7).toNat)
  case atStart => exact ⟨0, none, 0, [], by omega, rfl, X, A, hB⟩
  case round =>
    obtain ⟨i, ao, c, L, hi, rfl, X, A, hB⟩ := hrel
    obtain ⟨x0, x1, x2, x3, _, _, _, _, xl⟩ := id X
    by_cases him : i < m
    · have hi2 : (i : Int) < m := by omega
      have hT : Hid (((i + 1 : Nat) : Int) = (i : Int) + 1) := by show _ = _; omega
      go_wp2_with fail
      refine (put_room (w.heap.size + 1) ((w.heap.size + 1) + 1) m i ao i c L (xr x i) x (by omega) (by omega) (by omega) (by omega) _ A).mono ?_
      rintro e w2 ⟨rfl, ao2, c2, L2, A2, _, F2⟩
      have X2 := A.keep4 F2 X (by omega) (fun g h => by have := (A.own.lt g h).1; omega)
      replace hB := A.step hB hB.size (by omega) F2
      replace A2 : Ag w2 (w.heap.size + 1) ((w.heap.size + 1) + 1) m ((i + 1 : Nat) : Int) (.slice ao2 (i + 1) c2) (i + 1) L2 (xr x (i + 1)) := by rw [hT.out]; exact A2
      clear A X F2 x0 x1 x2 x3 xl
      go_wp2_with fail
      refine (len_any (w.heap.size + 1) ((w.heap.size + 1) + 1) m _ _ (i + 1) L2 _ (by omega) _ A2).mono ?_
      rintro e w3 ⟨rfl, hw3⟩
      replace X2 := At4.of hw3 X2
      replace A2 := A2.below hw3
      replace hB := Below.call hB hB.size hw3
      clear hw3
      go_wp2_with fail
      go_roundw
      case rel => exact ⟨i + 1, ao2, c2, L2, by omega, by go_num, X2, A2, hB⟩
      case measure => simp [intOf]; omega
    · obtain rfl : i = m := by omega
      have hme := xr_me x (n := i) (by omega)
      have hnx : nxb (es (xr x i)) x.a = true := by unfold nxb; rw [xr_len, hme]; simp; omega
      have NX := fun W A => next_yes (w.heap.size + 1) ((w.heap.size + 1) + 1) i i ao i c L (xr x i) x.a (by omega) hnx W A
      rw [hme] at NX
      clear hme hnx
      generalize (xr x i).eraseIdx (mi (es (xr x i))) = R2 at *
      generalize xr x i = R at *
      go_wp2_with fail
      refine (put_full (w.heap.size + 1) ((w.heap.size + 1) + 1) i i (.slice ao i c) i L R x (by omega) rfl _ A).mono ?_
      rintro e w2 ⟨rfl, hw2⟩
      replace X := At4.of hw2 X
      replace A := A.below hw2
      replace hB := Below.call hB hB.size hw2
      clear hw2 x0 x1 x2 x3 xl
      obtain ⟨x0, x1, x2, x3, _, _, _, _, xl⟩ := id X
      go_wp2_with fail
      refine (NX _ A).mono ?_
      rintro e w3 ⟨rfl, L3, A3, F3⟩
      replace X := A.keep4 F3 X (by omega) (fun g h => by have := (A.own.lt g h).1; omega)
      replace hB := A.step hB hB.size (by omega) F3
      have hg : ∀ g, (Value.slice ao (i - 1) c).ownBlock = some g → (w.heap.size + 1) + 1 ≤ g ∧ g < w3.heap.size := A3.own.lt
      replace X := X.alloc (.cells #[.int .i64 x.a, .int .i64 x.k, .int .i64 x.o, .int .u64 x.s] 32)
      have Y := At4.fresh w3 (.int .i64 x.a) (.int .i64 x.k) (.int .i64 x.o) (.int .u64 x.s) 32
      have l3 := A3.lt
      replace A3 := A3.alloc (.cells #[.int .i64 x.a, .int .i64 x.k, .int .i64 x.o, .int .u64 x.s] 32)
      have hs3 := hB.size
      replace hB : Below w.heap.size w (w3.alloc (.cells #[.int .i64 x.a, .int .i64 x.k, .int .i64 x.o, .int .u64 x.s] 32)) := by go_grown
      clear A F3 NX x0 x1 x2 x3 xl
      have x0 := X.c0; have x1 := X.c1; have x2 := X.c2; have x3 := X.c3
      go_wp2_with fail
      refine (put_room (w.heap.size + 1) ((w.heap.size + 1) + 1) i i ao (i - 1) c L3 R2 x (by omega) (by omega) (by omega) (by omega) _ A3).mono ?_
      rintro e w4 ⟨rfl, ao4, c4, L4, A4, _, F4⟩
      replace X := A3.keep4 F4 X (by omega) (fun g h => by have := hg g h; omega)
      replace Y := A3.keep4 F4 Y (by omega) (fun g h => by have := hg g h; omega)
      replace hB := A3.step hB hB.size (by omega) F4
      clear A3 F4 x0 x1 x2 x3 hg
      go_wp2_with fail
      refine (noted_any _).mono ?_
      rintro e w5 ⟨rfl, hw5⟩
      replace X := At4.of hw5 X
      replace Y := At4.of hw5 Y
      replace A4 := A4.below hw5
      replace hB := Below.call hB hB.size hw5
      have hi1 : i - 1 + 1 = i := by omega
      rw [hi1] at A4
      obtain ⟨x0, x1, x2, x3, _, _, _, _, xl⟩ := id X
      obtain ⟨y0, y1, y2, y3, _, _, _, _, yl⟩ := id Y
      clear hw5
      go_wp2_with fail
      refine (len_any (w.heap.size + 1) ((w.heap.size + 1) + 1) i _ _ i L4 _ (by omega) _ A4).mono ?_
      rintro e w6 ⟨rfl, hw6⟩
      replace hB := Below.call hB hB.size hw6
      clear hw6 A4 X Y
      go_wp2
      go_ret
      exact ⟨rfl, hB⟩
theorem walk_full (m : Int) (x : Ev) (m0 : -9223372036854775808 ≤ m) (m1 : m ≤ 9223372036854775807) (bx : x.Bd) (w : World) : Calls Try.prog 6 #[.int .i64 m, .agg #[.int .i64 x.a, .int .i64 x.k, .int .i64 x.o, .int .u64 x.s]] w fun e w' => e = .returned (.bool true) ∧ Below w.heap.size w w' := by
  by_cases h1 : m < 1 ∨ 65536 < m
  · exact full_no m x h1 w
  · by_cases h2 : 200 < m
    · exact full_big m x h2 (by omega) w
    · obtain ⟨k, rfl⟩ : ∃ k : Nat, m = k := ⟨m.toNat, by omega⟩
      exact full_yes k x bx (by omega) (by omega) w
end Go.Proofs.Ytoonffglkadofaa
namespace Go.Proofs.Ytoonffglkadofaa.agendaFull
open Go.ChangeShapes Go.WideShapes Go.ChangeAt Go.RowKit Go.Joins
set_option linter.unusedVariables false

theorem own : ownKnob Try.prog.godebug = none := by kernel_rfl
theorem laidOut : laidOutB Try.prog = true := by kernel_rfl
theorem word_of {x : Int} (h : (Lit.int .u64 x).wf = true) : 0 ≤ x ∧ x ≤ 18446744073709551615 := by
  simp [Lit.wf, IntKind.min, IntKind.max, IntKind.signed, IntKind.bits] at h
  exact ⟨by omega, by omega⟩
theorem int_of {x : Int} (h : (Lit.int .i64 x).wf = true) : -9223372036854775808 ≤ x ∧ x ≤ 9223372036854775807 := by
  simp [Lit.wf, IntKind.min, IntKind.max, IntKind.signed, IntKind.bits] at h
  exact ⟨by omega, by omega⟩

set_option maxRecDepth 100000 in
theorem lifted (os : Os) (started : os.Started) (H : Type) (enc : TypeId × Value → H) :
    ReturnsInHanded {} Try.checked os 6 .any (Rows.agendaFullSpec.pre6 enc Try.prog Try.f6 Rows.agendaFullRow.domain false) (Rows.agendaFullSpec.post enc Try.prog Try.f6 false true false false) := by
  refine returnsInHanded_of_change (C := Try.checked) own started (by kernel_rfl) Try.func6
    (ChangeSpec.witness6 (enc := enc) (C := Try.checked) false ⟨#[], #[.int .i64 0, .agg #[.int .i64 0, .int .i64 0, .int .i64 0, .int .u64 0]], []⟩ 8 (by kernel_rfl) (by kernel_rfl) (by kernel_rfl) (by kernel_rfl)) ?_
  intro W base args ds gs before hval0 hW hcnd _
  have hval : ∀ (j : Nat) t v, Try.f6.params[j]? = some t → args[j]? = some v → Value.okWide Try.prog W .any base t v := hval0
  have hW' := hW
  obtain ⟨p, q, hA0, hV, rfl, hfz, hnd⟩ := hW
  have hA : DataW.TrodAll enc Try.prog W 0 (fun _ => true) true Try.f6.params.toList args.toList ds p := hA0
  rw [Try.params6] at hA hval
  obtain ⟨v0, vs0, d0, ds0, p0, q0, hargs, rfl, rfl, h0, r0⟩ := trodAll_cons hA
  obtain ⟨v1, vs1, d1, ds1, p1, q1, rfl, rfl, rfl, h1, r1⟩ := trodAll_cons r0
  obtain ⟨rfl, rfl, rfl⟩ := trodAll_nil r1
  obtain rfl : args = #[v0, v1] := by cases args; simp_all
  obtain ⟨rfl, rfl⟩ := trodVars_none hV
  obtain ⟨a0, rfl, rfl, rfl, w0⟩ := open_int Try.underlying3 (hval 0 3 v0 rfl rfl) h0
  have k1 := h1
  have lt1 : ∀ x ∈ p1, x.block < W.heap.size := by obtain ⟨m, hm⟩ := k1; exact DataW.trod_lt m _ _ _ hm
  obtain ⟨x1, bx1, rfl⟩ := open_event (hval 1 32 v1 rfl rfl) h1
  clear hA0 hval0
  refine (walk_full a0 x1 (int_of w0).1 (int_of w0).2 bx1 W).mono fun e W' ⟨he, bel⟩ => ?_
  subst he
  exact ⟨_, rfl, _, _, _, [], _, [], hW', trodAll_mk1 (shut_bool Try.underlying4 _), (trodAll_cons_mk (shut_int Try.underlying3 w0) (trodAll_cons_mk (Below.trod laidOut (by kernel_rfl) (of_decide_eq_true (by kernel_rfl)) k1 bel lt1) trodAll_mk0)), rfl, bel.frame _, fun h => by cases h⟩

theorem over : Rows.agendaFullRow.holds Try.pinned (OpenSpec.ofChange Rows.agendaFullSpec) :=
  OpenClaim.holds_of_wide 6 Try.f6 rfl rfl rfl rfl rfl rfl rfl ⟨rfl, rfl, rfl, rfl, rfl⟩ rfl rfl rfl rfl rfl (by kernel_rfl) Try.func6 (by kernel_rfl)
    (of_decide_eq_true (by kernel_rfl)) (by unfold Func.isWrapper; first | (rw [if_pos (by decide +kernel)]; kernel_rfl) | (rw [if_neg (by decide +kernel)]; exact ⟨rfl, rfl⟩))
    (fun os started H enc _ => lifted os started H enc)
theorem proved : Rows.AgendaFullSaid := over
#print axioms proved
end Go.Proofs.Ytoonffglkadofaa.agendaFull
