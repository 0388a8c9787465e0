/-
  ScriptDoes: for any number, bytes, steps and step the program answers as the reference does. No conditions.
-/
import Derived.Test.YtmiljpfljnjkpaaJ9
import Derived.Test.YtmiljpfljnjkpaaJB
import Derived.Test.YtmiljpfljnjkpaaJA
import Derived.ChangeMaps5
import Derived.Deep.RegionHeld3
import Derived.Deep.CutRange
import Derived.Deep.DeepCutAuto
import Derived.Test.YtmiljpfljnjkpaaRows
import Derived.WalkKit
import Derived.ProofKit
import Derived.OpenShut
import Derived.ChangeOld
import Derived.Below
import Derived.Lib.SmallJoins
namespace Go.Proofs.Ytmiljpfljnjkpaa
open Go.RowKit
set_option linter.unusedVariables false
attribute [local go_sem] Later.cell Later.frozen
theorem encv_two (f : Nat → Stp) (n q : Nat) : ∃ t er, encv f n q = .tuple #[.string t, .int .i64 er] := by
  unfold encv
  by_cases h : q = n
  · rw [if_pos h]; exact ⟨_, _, rfl⟩
  · rw [if_neg h]; exact ⟨_, _, rfl⟩
theorem rcount_row (ao : Option Addr) (n c : Nat) (f : Nat → Stp) (hn : n ≤ 10000) (w : World) (E : Ops w ao n c f) :
    Calls Try.prog 20 #[.slice ao n c] w fun e w' => e = .returned (.agg #[.int .i64 (cn f n 0), .int .i64 (cn f n 1), .int .i64 (cn f n 2), .int .i64 (cn f n 3), .int .i64 (cn f n 4), .int .i64 (cn f n 5), .int .i64 (cn f n 6), .int .i64 (cn f n 7)]) ∧ Below w.heap.size w w' := rcount_any ao n c f hn w E
set_option maxHeartbeats 4000000 in
set_option maxRecDepth 100000 in
theorem does_yes (m : Int) (s : ByteArray) (ao : Option Addr) (n c : Nat) (Z : Nat → Stp) (x : Stp) (hs : s.size ≤ 2000) (hn : n ≤ 1000) (w : World) (E : Ops w ao n c Z) :
    Calls Try.prog 3 #[.int .i64 m, .string s, .slice ao n c, .agg #[.int .i64 x.k, .int .i64 x.h, .int .i64 x.v]] w fun e w' => e = .returned (.bool true) ∧ Below w.heap.size w w' := by
  have d1 : decide ((2000 : Int) < s.size) = false := decide_eq_false (by omega)
  have d2 : decide ((1000 : Int) < n) = false := decide_eq_false (by omega)
  obtain ⟨q, q1, q2, q3⟩ := first_bad Z n
  have EN := fun w E => encode_any ao n c q Z (by omega) q1 q2 q3 w E
  have RE := fun w E => rencode_any ao n c q Z (by omega) q1 q2 q3 w E
  obtain ⟨t, er, he⟩ := encv_two Z n q
  rw [he] at EN RE
  have DE := fun w => decode_any m s (by omega) w
  have RD := fun w => rdecode_any m s (by omega) w
  have hn2 : dn s ≤ 1000 := by unfold dn; omega
  obtain ⟨v, hv⟩ : ∃ v, isb m x = v := ⟨_, rfl⟩
  have IS := fun w => is_any m x v hv w
  have RI := fun w => ris_any m x v hv w
  have SP := fun w => span_any x w
  have RS := fun w => rspan_any x w
  have SZ := fun w => size_any x w
  have RZ := fun w => rsize_any x w
  have CN := fun w E => count_row ao n c Z (by omega) w E
  have RC := fun w E => rcount_row ao n c Z (by omega) w E
  have X0 := At3.fresh w (.int .i64 x.k) (.int .i64 x.h) (.int .i64 x.v) 24
  have E0 := E.alloc (.cells #[.int .i64 x.k, .int .i64 x.h, .int .i64 x.v] 24)
  have hB0 : Below w.heap.size w (w.alloc (.cells #[.int .i64 x.k, .int .i64 x.h, .int .i64 x.v] 24)) := by go_grown
  generalize spn x = sp at *
  generalize siz x = sz at *
  generalize dc m s = f at *
  generalize dn s = n2 at *
  generalize cn Z n 0 = x0 at *
  generalize cn Z n 1 = x1 at *
  generalize cn Z n 2 = x2 at *
  generalize cn Z n 3 = x3 at *
  generalize cn Z n 4 = x4 at *
  generalize cn Z n 5 = x5 at *
  generalize cn Z n 6 = x6 at *
  generalize cn Z n 7 = x7 at *
  have EQ := fun w => eq8_same x0 x1 x2 x3 x4 x5 x6 x7 w
  clear q1 q2 q3 he hv
  obtain ⟨k, h, u⟩ := x
  dsimp only at *
  go_enter Try.func3, Try.ntmps3
  go_wp2_with fail
  refine (EN _ E0).mono ?_
  rintro e w1 ⟨rfl, hw1⟩
  have E1 := E0.below hw1
  have X1 := At3.of hw1 X0
  have hB1 := Below.call hB0 hB0.size hw1
  clear hw1 EN E0 X0 hB0
  go_wp2_with fail
  refine (RE _ E1).mono ?_
  rintro e w2 ⟨rfl, hw2⟩
  have E2 := E1.below hw2
  have X2 := At3.of hw2 X1
  have hB2 := Below.call hB1 hB1.size hw2
  clear hw2 RE E1 X1 hB1 E
  go_upto_region 5 with fail
  refine wp_forget (fun W => At3 W w.heap.size (.int .i64 k) (.int .i64 h) (.int .i64 u) ∧ Ops W ao n c Z ∧ Below w.heap.size w W) ⟨X2, E2, hB2⟩ ?_
  clear X2 E2 hB2
  rintro W ⟨X, E, hB⟩
  have c0 : ∀ w', Below W.heap.size W w' → w'.cell? ⟨w.heap.size, 0, none⟩ = some (.int .i64 k) := fun w' h => (X.of h).c0
  have c1 : ∀ w', Below W.heap.size W w' → w'.cell? ⟨w.heap.size, 1, none⟩ = some (.int .i64 h) := fun w' h => (X.of h).c1
  have c2 : ∀ w', Below W.heap.size W w' → w'.cell? ⟨w.heap.size, 2, none⟩ = some (.int .i64 u) := fun w' h => (X.of h).c2
  go_cut [57] (fun v57 wc => v57 = .bool false ∧ Below W.heap.size W wc)
  case first =>
    go_wp2_with fail
    go_region_held3 (fun w' => Below W.heap.size W w') (first | assumption | go_grown) (first
      | (go_at_call 10; refine (DE _).mono ?_; rintro e w3 ⟨⟨a3, c3, rfl, own3⟩, hw3⟩; have g3 : Below W.heap.size W w3 := below_thru (W := W) (by go_grown) hw3; have F3 := Ops.own own3)
      | (go_at_call 11; refine (RD _).mono ?_; rintro e w4 ⟨⟨a4, c4, rfl, own4⟩, hw4⟩; have g4 : Below W.heap.size W w4 := below_thru (W := W) (by assumption) hw4; have F4 := Ops.own own4; have G4 := F3.below hw4)
      | (go_at_call 9; refine (same_any a3 a4 n2 c3 c4 f _ G4 F4).mono ?_; rintro e w5 ⟨rfl, hw5⟩; have g5 : Below W.heap.size W w5 := below_thru (W := W) (by assumption) hw5)
      | (go_at_call 12; refine (IS _).mono ?_; rintro e w6 ⟨rfl, hw6⟩; have g6 : Below W.heap.size W w6 := below_thru (W := W) (by assumption) hw6)
      | (go_at_call 13; refine (RI _).mono ?_; rintro e w7 ⟨rfl, hw7⟩; have g7 : Below W.heap.size W w7 := below_thru (W := W) (by assumption) hw7))
    go_wp2_with fail
    go_meet
    case rel => exact ⟨rfl, g7⟩
  case rest =>
    obtain ⟨rfl, hW⟩ := hcut
    replace X := X.of hW
    replace E := E.below hW
    replace hB := Below.call hB hB.size hW
    clear hW c0 c1 c2 DE RD IS RI
    go_upto_region 7 with fail
    have c0 : ∀ w', Below wc.heap.size wc w' → w'.cell? ⟨w.heap.size, 0, none⟩ = some (.int .i64 k) := fun w' h => (X.of h).c0
    have c1 : ∀ w', Below wc.heap.size wc w' → w'.cell? ⟨w.heap.size, 1, none⟩ = some (.int .i64 h) := fun w' h => (X.of h).c1
    have c2 : ∀ w', Below wc.heap.size wc w' → w'.cell? ⟨w.heap.size, 2, none⟩ = some (.int .i64 u) := fun w' h => (X.of h).c2
    go_wp2_with fail
    go_region_held3 (fun w' => Below wc.heap.size wc w') (first | assumption | go_grown) (first
      | (go_at_call 14; refine (scripted_any _).mono ?_; rintro e w3 ⟨rfl, hw3⟩; have g3 : Below wc.heap.size wc w3 := below_thru (W := wc) (by go_grown) hw3)
      | (go_at_call 15; refine (SP _).mono ?_; rintro e w4 ⟨rfl, hw4⟩; have g4 : Below wc.heap.size wc w4 := below_thru (W := wc) (by assumption) hw4)
      | (go_at_call 16; refine (RS _).mono ?_; rintro e w5 ⟨rfl, hw5⟩; have g5 : Below wc.heap.size wc w5 := below_thru (W := wc) (by assumption) hw5)
      | (go_at_call 17; refine (SZ _).mono ?_; rintro e w6 ⟨rfl, hw6⟩; have g6 : Below wc.heap.size wc w6 := below_thru (W := wc) (by assumption) hw6)
      | (go_at_call 18; refine (RZ _).mono ?_; rintro e w7 ⟨rfl, hw7⟩; have g7 : Below wc.heap.size wc w7 := below_thru (W := wc) (by assumption) hw7)
      | (go_at_call 19; refine (CN _ (E.below (by assumption))).mono ?_; rintro e w8 ⟨rfl, hw8⟩; have g8 : Below wc.heap.size wc w8 := below_thru (W := wc) (by assumption) hw8)
      | (go_at_call 20; refine (RC _ (E.below (by assumption))).mono ?_; rintro e w9 ⟨rfl, hw9⟩; have g9 : Below wc.heap.size wc w9 := below_thru (W := wc) (by assumption) hw9))
    replace hB := Below.call hB hB.size g9
    clear X E c0 c1 c2
    go_wp2_with fail
    go_ret
    exact ⟨rfl, hB⟩
theorem does_no (m : Int) (s : ByteArray) (ao : Option Addr) (n c : Nat) (x : Stp) (h : 2000 < s.size ∨ 1000 < n) (w : World) : Calls Try.prog 3 #[.int .i64 m, .string s, .slice ao n c, .agg #[.int .i64 x.k, .int .i64 x.h, .int .i64 x.v]] w fun e w' => e = .returned (.bool true) ∧ Below w.heap.size w w' := by
  have hg : Below w.heap.size w (w.alloc (.cells #[.int .i64 x.k, .int .i64 x.h, .int .i64 x.v] 24)) := by go_grown
  by_cases h1 : 2000 < s.size
  · have hs2 : (2000 : Int) < s.size := by omega
    go_enter Try.func3, Try.ntmps3
    go_wp2
    go_ret
    exact ⟨rfl, hg⟩
  · have hs3 : decide ((2000 : Int) < s.size) = false := decide_eq_false (by omega)
    have hn2 : (1000 : Int) < n := by omega
    go_enter Try.func3, Try.ntmps3
    go_wp2
    go_ret
    exact ⟨rfl, hg⟩
theorem walk_does (m : Int) (s : ByteArray) (ao : Option Addr) (n c : Nat) (Z : Nat → Stp) (x : Stp) (m0 : -9223372036854775808 ≤ m) (m1 : m ≤ 9223372036854775807) (hs : s.size ≤ maxLen) (bx : x.Bd) (w : World) (hz : OpsIn w ao n c Z) :
    Calls Try.prog 3 #[.int .i64 m, .string s, .slice ao n c, .agg #[.int .i64 x.k, .int .i64 x.h, .int .i64 x.v]] w fun e w' => e = .returned (.bool true) ∧ Below w.heap.size w w' := by
  by_cases h : 2000 < s.size ∨ 1000 < n
  · exact does_no m s ao n c x h w
  · exact does_yes m s ao n c Z x (by omega) (by omega) w hz.ops
end Go.Proofs.Ytmiljpfljnjkpaa
namespace Go.Proofs.Ytmiljpfljnjkpaa.scriptDoes
open Go.ChangeShapes Go.WideShapes Go.ChangeAt Go.RowKit Go.Joins
set_option linter.unusedVariables false

theorem own : ownKnob Try.prog.godebug = none := by kernel_rfl
theorem laidOut : laidOutB Try.prog = true := by kernel_rfl
theorem word_of {x : Int} (h : (Lit.int .u64 x).wf = true) : 0 ≤ x ∧ x ≤ 18446744073709551615 := by
  simp [Lit.wf, IntKind.min, IntKind.max, IntKind.signed, IntKind.bits] at h
  exact ⟨by omega, by omega⟩
theorem int_of {x : Int} (h : (Lit.int .i64 x).wf = true) : -9223372036854775808 ≤ x ∧ x ≤ 9223372036854775807 := by
  simp [Lit.wf, IntKind.min, IntKind.max, IntKind.signed, IntKind.bits] at h
  exact ⟨by omega, by omega⟩

set_option maxRecDepth 100000 in
theorem lifted (os : Os) (started : os.Started) (H : Type) (enc : TypeId × Value → H) :
    ReturnsInHanded {} Try.checked os 3 .any (Rows.scriptDoesSpec.pre6 enc Try.prog Try.f3 Rows.scriptDoesRow.domain false) (Rows.scriptDoesSpec.post enc Try.prog Try.f3 false true false false) := by
  refine returnsInHanded_of_change (C := Try.checked) own started (by kernel_rfl) Try.func3
    (ChangeSpec.witness6 (enc := enc) (C := Try.checked) false ⟨#[], #[.int .i64 0, .string ⟨#[]⟩, .slice none 0 0, .agg #[.int .i64 0, .int .i64 0, .int .i64 0]], []⟩ 8 (by kernel_rfl) (by kernel_rfl) (by kernel_rfl) (by kernel_rfl)) ?_
  intro W base args ds gs before hval0 hW hcnd _
  have hval : ∀ (j : Nat) t v, Try.f3.params[j]? = some t → args[j]? = some v → Value.okWide Try.prog W .any base t v := hval0
  have hW' := hW
  obtain ⟨p, q, hA0, hV, rfl, hfz, hnd⟩ := hW
  have hA : DataW.TrodAll enc Try.prog W 0 (fun _ => true) true Try.f3.params.toList args.toList ds p := hA0
  rw [Try.params3] at hA hval
  obtain ⟨v0, vs0, d0, ds0, p0, q0, hargs, rfl, rfl, h0, r0⟩ := trodAll_cons hA
  obtain ⟨v1, vs1, d1, ds1, p1, q1, rfl, rfl, rfl, h1, r1⟩ := trodAll_cons r0
  obtain ⟨v2, vs2, d2, ds2, p2, q2, rfl, rfl, rfl, h2, r2⟩ := trodAll_cons r1
  obtain ⟨v3, vs3, d3, ds3, p3, q3, rfl, rfl, rfl, h3, r3⟩ := trodAll_cons r2
  obtain ⟨rfl, rfl, rfl⟩ := trodAll_nil r3
  obtain rfl : args = #[v0, v1, v2, v3] := by cases args; simp_all
  obtain ⟨rfl, rfl⟩ := trodVars_none hV
  obtain ⟨a0, rfl, rfl, rfl, w0⟩ := open_int Try.underlying3 (hval 0 3 v0 rfl rfl) h0
  obtain ⟨s_1, rfl, rfl, rfl, hs_1⟩ := Go.ChangeMaps.open_string Try.underlying9 (hval 1 9 v1 rfl rfl) h1
  have k2 := h2
  have lt2 : ∀ x ∈ p2, x.block < W.heap.size := by obtain ⟨m, hm⟩ := k2; exact DataW.trod_lt m _ _ _ hm
  obtain ⟨ao_2, n_2, c_2, Z_2, rfl, hz2⟩ := open_ops (hval 2 22 v2 rfl rfl) h2
  have k3 := h3
  have lt3 : ∀ x ∈ p3, x.block < W.heap.size := by obtain ⟨m, hm⟩ := k3; exact DataW.trod_lt m _ _ _ hm
  obtain ⟨x3, bx3, rfl⟩ := open_op (hval 3 24 v3 rfl rfl) h3
  clear hA0 hval0
  refine (walk_does a0 s_1 ao_2 n_2 c_2 Z_2 x3 (int_of w0).1 (int_of w0).2 hs_1 bx3 W hz2).mono fun e W' ⟨he, bel⟩ => ?_
  subst he
  exact ⟨_, rfl, _, _, _, [], _, [], hW', trodAll_mk1 (shut_bool Try.underlying4 _), (trodAll_cons_mk (shut_int Try.underlying3 w0) (trodAll_cons_mk (Go.ChangeMaps.shut_string Try.underlying9 hs_1) (trodAll_cons_mk (Below.trod laidOut (by kernel_rfl) (of_decide_eq_true (by kernel_rfl)) k2 bel lt2) (trodAll_cons_mk (Below.trod laidOut (by kernel_rfl) (of_decide_eq_true (by kernel_rfl)) k3 bel lt3) trodAll_mk0)))), rfl, bel.frame _, fun h => by cases h⟩

theorem over : Rows.scriptDoesRow.holds Try.pinned (OpenSpec.ofChange Rows.scriptDoesSpec) :=
  OpenClaim.holds_of_wide 3 Try.f3 rfl rfl rfl rfl rfl rfl rfl ⟨rfl, rfl, rfl, rfl, rfl⟩ rfl rfl rfl rfl rfl (by kernel_rfl) Try.func3 (by kernel_rfl)
    (of_decide_eq_true (by kernel_rfl)) (by unfold Func.isWrapper; first | (rw [if_pos (by decide +kernel)]; kernel_rfl) | (rw [if_neg (by decide +kernel)]; exact ⟨rfl, rfl⟩))
    (fun os started H enc _ => lifted os started H enc)
theorem proved : Rows.ScriptDoesSaid := over
#print axioms proved
end Go.Proofs.Ytmiljpfljnjkpaa.scriptDoes
