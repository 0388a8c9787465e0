/-
  ScriptJoins: for any number and two rows of bytes, of which the first ones are threes, steps of both behind one another are steps behind one another, and as many of each kind. No conditions.
-/
import Derived.Test.YtmiljpfljnjkpaaJB
import Derived.Test.YtmiljpfljnjkpaaJA
import Derived.ChangeMaps5
import Derived.Test.YtmiljpfljnjkpaaRows
import Derived.WalkKit
import Derived.ProofKit
import Derived.OpenShut
import Derived.ChangeOld
import Derived.Below
import Derived.Lib.SmallJoins
namespace Go.Proofs.Ytmiljpfljnjkpaa
open Go.RowKit
set_option linter.unusedVariables false
attribute [local go_sem] Later.cell Later.frozen
section
attribute [local go_sem ↓] append_shut
set_option maxHeartbeats 4000000 in
set_option maxRecDepth 100000 in
theorem joins_yes (m : Int) (a b : ByteArray) (p : Nat) (ha : a.size ≤ 2000) (hb : b.size ≤ 2000) (hp : a.size = 3 * p) (w : World) : Calls Try.prog 6 #[.int .i64 m, .string a, .string b] w fun e w' => e = .returned (.bool true) ∧ Below w.heap.size w w' := by
  have d1 : decide ((2000 : Int) < a.size) = false := decide_eq_false (by omega)
  have d2 : decide ((2000 : Int) < b.size) = false := decide_eq_false (by omega)
  have d3 : (a.size : Int) % 3 = 0 := by omega
  have hsum : ¬ a.size + b.size > 9223372036854775807 := by omega
  have DA := fun w => decode_any m a (by omega) w
  have DB := fun w => decode_any m b (by omega) w
  have DZ := fun w => decode_any m (a ++ b) (by rw [ByteArray.size_append]; omega) w
  obtain ⟨q, hq⟩ : ∃ q, dn b = q := ⟨_, rfl⟩
  have hq2 : q ≤ 1000 := by rw [← hq]; unfold dn; omega
  have hp2 : p ≤ 1000 := by omega
  rw [dn_app a b p hp, hq] at DZ
  rw [dn_thirds hp] at DA
  rw [hq] at DB
  have RJ := rw3_join m a b p q hp
  have CJ : Hid (∀ j, cn (dc m (a ++ b)) (p + q) j = cn (dc m a) p j + cn (dc m b) q j) := cn_join m a b p q hp
  have SA : sm (dc m (a ++ b)) (p + q) 8 = ((p + q : Nat) : Int) := sm_all _ _ (fun i _ => by have := dc_bd m (a ++ b) i; exact ⟨this.1, this.2.1⟩)
  generalize dc m (a ++ b) = fz at *
  generalize dc m a = fa at *
  generalize dc m b = fb at *
  go_enter Try.func6, Try.ntmps6
  go_wp2_with fail
  refine (DA _).mono ?_
  rintro e w1 ⟨⟨a1, c1, rfl, own1⟩, hB1⟩
  obtain ⟨a2, c2, w2, hr2, own2, hg2⟩ := oapp_all (L := []) (M := rw3 fa p) (n := 0) 22 (World.ownsRow_nil w1 w.heap.size 24 3) hB1.size (by omega) (by omega) own1
  rw [Nat.zero_add] at hr2 own2
  rw [List.nil_append] at own2
  have hB2 : Below w.heap.size w w2 := Below.grown hB1 hg2 hB1.size (fun k hk => by cases hk)
  clear own1 hg2 hB1
  go_wp2_with fail
  refine (DB _).mono ?_
  rintro e w3 ⟨⟨a3, c3, rfl, own3⟩, hw3⟩
  have hB3 := Below.call hB2 hB2.size hw3
  have own2b := own_below own2 hw3
  obtain ⟨a4, c4, w4, hr4, own4, hg4⟩ := oapp_all (L := rw3 fa p) (M := rw3 fb q) (n := p) 22 own2b hB3.size (by omega) (by omega) own3
  rw [RJ] at own4
  have hB4 : Below w.heap.size w w4 := Below.grown hB3 hg4 hB3.size (fun k hk => (own2b.lt k hk).1)
  have E4 := Ops.own own4
  obtain ⟨N, hN⟩ : ∃ N, Hid (p + q = N) := ⟨_, rfl⟩
  have hN2 : N ≤ 2000 := by have := hN.out; omega
  rw [hN.out] at E4 hr4 CJ SA DZ
  clear own2 own2b own3 own4 hg4 hB3 hB2 hw3 RJ
  go_wp2_with fail
  refine (DA _).mono ?_
  rintro e w5 ⟨⟨a5, c5, rfl, own5⟩, hw5⟩
  have E5 := E4.below hw5
  have hB5 := Below.call hB4 hB4.size hw5
  have F5 := Ops.own own5
  clear E4 hB4 hw5 own5
  go_wp2_with fail
  refine (count_row a5 p c5 fa (by omega) _ F5).mono ?_
  rintro e w6 ⟨rfl, hw6⟩
  have E6 := E5.below hw6
  have hB6 := Below.call hB5 hB5.size hw6
  have X6 := Cells.fresh_cn w6 33 fa p
  obtain ⟨O6, hO6⟩ : ∃ O, O = (Obj.cells #[.int .i64 (cn fa p 0), .int .i64 (cn fa p 1), .int .i64 (cn fa p 2), .int .i64 (cn fa p 3), .int .i64 (cn fa p 4), .int .i64 (cn fa p 5), .int .i64 (cn fa p 6), .int .i64 (cn fa p 7)] 33) := ⟨_, rfl⟩
  have E6b := E6.alloc O6
  have hs6 := hB6.size
  have hB6b : Below w.heap.size w (w6.alloc O6) := by go_grown
  rw [hO6] at E6b hB6b
  clear hO6 E5 hB5 hw6 F5 E6 DA
  go_wp2_with fail
  refine (DB _).mono ?_
  rintro e w7 ⟨⟨a7, c7, rfl, own7⟩, hw7⟩
  have E7 := E6b.below hw7
  have X7 := X6.of hw7
  have hB7 := Below.call hB6b hB6b.size hw7
  have F7 := Ops.own own7
  clear E6b X6 hB6 hB6b hw7 own7 DB
  go_wp2_with fail
  refine (count_row a7 q c7 fb (by omega) _ F7).mono ?_
  rintro e w8 ⟨rfl, hw8⟩
  have X8 := (X7.of hw8).alloc (.cells #[.int .i64 (cn fb q 0), .int .i64 (cn fb q 1), .int .i64 (cn fb q 2), .int .i64 (cn fb q 3), .int .i64 (cn fb q 4), .int .i64 (cn fb q 5), .int .i64 (cn fb q 6), .int .i64 (cn fb q 7)] 33)
  have E8 := (E7.below hw8).alloc (.cells #[.int .i64 (cn fb q 0), .int .i64 (cn fb q 1), .int .i64 (cn fb q 2), .int .i64 (cn fb q 3), .int .i64 (cn fb q 4), .int .i64 (cn fb q 5), .int .i64 (cn fb q 6), .int .i64 (cn fb q 7)] 33)
  have Y8 := Cells.fresh_cn w8 33 fb q
  have hB8 := Below.call hB7 hB7.size hw8
  have hs8 := hB8.size
  have hB8b : Below w.heap.size w (w8.alloc (.cells #[.int .i64 (cn fb q 0), .int .i64 (cn fb q 1), .int .i64 (cn fb q 2), .int .i64 (cn fb q 3), .int .i64 (cn fb q 4), .int .i64 (cn fb q 5), .int .i64 (cn fb q 6), .int .i64 (cn fb q 7)] 33)) := by go_grown
  have lt6 : w6.heap.size < w8.heap.size := (X7.of hw8).lt (by omega)
  clear E7 X7 hB7 hw8 F7 hB8
  go_wp2_with fail
  refine (count_row a4 N c4 fz (by omega) _ E8).mono ?_
  rintro e w9 ⟨rfl, hw9⟩
  have X9 := (X8.of hw9).alloc (.cells #[.int .i64 (cn fz N 0), .int .i64 (cn fz N 1), .int .i64 (cn fz N 2), .int .i64 (cn fz N 3), .int .i64 (cn fz N 4), .int .i64 (cn fz N 5), .int .i64 (cn fz N 6), .int .i64 (cn fz N 7)] 33)
  have Y9 := (Y8.of hw9).alloc (.cells #[.int .i64 (cn fz N 0), .int .i64 (cn fz N 1), .int .i64 (cn fz N 2), .int .i64 (cn fz N 3), .int .i64 (cn fz N 4), .int .i64 (cn fz N 5), .int .i64 (cn fz N 6), .int .i64 (cn fz N 7)] 33)
  have E9 := (E8.below hw9).alloc (.cells #[.int .i64 (cn fz N 0), .int .i64 (cn fz N 1), .int .i64 (cn fz N 2), .int .i64 (cn fz N 3), .int .i64 (cn fz N 4), .int .i64 (cn fz N 5), .int .i64 (cn fz N 6), .int .i64 (cn fz N 7)] 33)
  have Z9 := Cells.fresh_cn w9 33 fz N
  have hB9 := Below.call hB8b hB8b.size hw9
  have hs9 := hB9.size
  have hB9b : Below w.heap.size w (w9.alloc (.cells #[.int .i64 (cn fz N 0), .int .i64 (cn fz N 1), .int .i64 (cn fz N 2), .int .i64 (cn fz N 3), .int .i64 (cn fz N 4), .int .i64 (cn fz N 5), .int .i64 (cn fz N 6), .int .i64 (cn fz N 7)] 33)) := by go_grown
  clear X8 Y8 E8 hB8b hw9 hB9
  go_upto_region 9 with fail
  refine wp_forget (fun W => Cells W w6.heap.size 8 (fun j => cn fa p j) ∧ Cells W w8.heap.size 8 (fun j => cn fb q j) ∧ Cells W w9.heap.size 8 (fun j => cn fz N j) ∧ Ops W a4 N c4 fz ∧ Below w.heap.size w W) ⟨X9, Y9, Z9, E9, hB9b⟩ ?_
  clear X9 Y9 Z9 E9 hB9b
  rintro W ⟨X, Y, Z, E, hB⟩
  go_wp2_with fail
  go_loopw [11, 12] (fun v11 v12 wr => ∃ i : Nat, i ≤ 8 ∧ v12 = .int .i64 i ∧ v11 = .int .i64 (sm fz N i) ∧ Below W.heap.size W wr) (fun _ v12 _ => 8 - (intOf v12).toNat)
  case atStart => exact ⟨0, by omega, rfl, rfl, Below.refl _ _⟩
  case round =>
    obtain ⟨i, hi, rfl, rfl, hW⟩ := hrel
    by_cases hin : i < 8
    · have hin2 : (i : Int) < 8 := by omega
      have x0 := (X.of hW).cell i hin
      have y0 := (Y.of hW).cell i hin
      have z0 := (Z.of hW).cell i hin
      have ex := cn_rg fa p i
      have ey := cn_rg fb q i
      have es := sm_rg fz N i
      have e8 : (i : Int) * N ≤ 8 * N := Int.mul_le_mul_of_nonneg_right (by omega) (by omega)
      have ez := CJ.out i
      have hsm : Hid (sm fz N (i + 1) = sm fz N i + cn fz N i) := rfl
      rw [ez] at z0 hsm
      clear X Y Z E CJ SA ez
      generalize cn fa p i = x at *
      generalize cn fb q i = y at *
      generalize sm fz N i = u at *
      have k1 : IntKind.i64.wrap (x + y) = x + y := by rw [IntKind.wrap_i64]; omega
      clear e8
      have u0 := es.1
      have u1 : u ≤ 16000 := by
        have h8 : (i : Int) * N ≤ 8 * 2000 := Int.mul_le_mul (by omega) (by omega) (by omega) (by omega)
        omega
      clear es
      go_wp2_with fail
      go_quiet (fail)
      all_goals go_wp2_with fail
      all_goals go_roundw
      case rel => exact ⟨i + 1, by omega, by go_num, by rw [hsm.out], Below.drewN hW _⟩
      case measure => simp [intOf]; omega
    · obtain rfl : i = 8 := by omega
      rw [SA]
      replace E := E.below hW
      replace hB := Below.call hB hB.size hW
      clear X Y Z hW CJ SA
      go_wp2_with fail
      refine (scripted_any _).mono ?_
      rintro e w10 ⟨rfl, hw10⟩
      replace E := E.below hw10
      replace hB := Below.call hB hB.size hw10
      clear hw10
      go_wp2_with fail
      refine (DZ _).mono ?_
      rintro e w11 ⟨⟨a11, c11, rfl, own11⟩, hw11⟩
      replace E := E.below hw11
      replace hB := Below.call hB hB.size hw11
      have F := Ops.own own11
      clear hw11 own11 DZ
      go_wp2_with fail
      refine (same_any a11 a4 N c11 c4 fz _ F E).mono ?_
      rintro e w12 ⟨rfl, hw12⟩
      replace hB := Below.call hB hB.size hw12
      clear hw12 F E
      go_wp2_with fail
      go_ret
      exact ⟨rfl, hB⟩
end
theorem joins_no (m : Int) (a b : ByteArray) (h : 2000 < a.size ∨ 2000 < b.size ∨ ¬ a.size % 3 = 0) (w : World) : Calls Try.prog 6 #[.int .i64 m, .string a, .string b] w fun e w' => e = .returned (.bool true) ∧ Below w.heap.size w w' := by
  by_cases h1 : 2000 < a.size
  · have d1 : (2000 : Int) < a.size := by omega
    go_enter Try.func6, Try.ntmps6
    go_wp2_with fail
    refine (scripted_any _).mono ?_
    rintro e w1 ⟨rfl, hw1⟩
    go_wp2
    go_ret
    exact ⟨rfl, hw1⟩
  · have d1 : decide ((2000 : Int) < a.size) = false := decide_eq_false (by omega)
    by_cases h2 : 2000 < b.size
    · have d2 : (2000 : Int) < b.size := by omega
      go_enter Try.func6, Try.ntmps6
      go_wp2_with fail
      refine (scripted_any _).mono ?_
      rintro e w1 ⟨rfl, hw1⟩
      go_wp2
      go_ret
      exact ⟨rfl, hw1⟩
    · have d2 : decide ((2000 : Int) < b.size) = false := decide_eq_false (by omega)
      obtain ⟨r, hr⟩ : ∃ r, (a.size : Int) % 3 = r := ⟨_, rfl⟩
      have hr2 : (r != 0) = true := by simp; omega
      go_enter Try.func6, Try.ntmps6
      go_wp2_with fail
      refine (scripted_any _).mono ?_
      rintro e w1 ⟨rfl, hw1⟩
      go_wp2
      go_ret
      exact ⟨rfl, hw1⟩
theorem walk_joins (m : Int) (a b : ByteArray) (m0 : -9223372036854775808 ≤ m) (m1 : m ≤ 9223372036854775807) (ha : a.size ≤ maxLen) (hb : b.size ≤ maxLen) (w : World) : Calls Try.prog 6 #[.int .i64 m, .string a, .string b] w fun e w' => e = .returned (.bool true) ∧ Below w.heap.size w w' := by
  by_cases h : 2000 < a.size ∨ 2000 < b.size ∨ ¬ a.size % 3 = 0
  · exact joins_no m a b h w
  · exact joins_yes m a b (a.size / 3) (by omega) (by omega) (by omega) w
end Go.Proofs.Ytmiljpfljnjkpaa
namespace Go.Proofs.Ytmiljpfljnjkpaa.scriptJoins
open Go.ChangeShapes Go.WideShapes Go.ChangeAt Go.RowKit Go.Joins
set_option linter.unusedVariables false

theorem own : ownKnob Try.prog.godebug = none := by kernel_rfl
theorem laidOut : laidOutB Try.prog = true := by kernel_rfl
theorem word_of {x : Int} (h : (Lit.int .u64 x).wf = true) : 0 ≤ x ∧ x ≤ 18446744073709551615 := by
  simp [Lit.wf, IntKind.min, IntKind.max, IntKind.signed, IntKind.bits] at h
  exact ⟨by omega, by omega⟩
theorem int_of {x : Int} (h : (Lit.int .i64 x).wf = true) : -9223372036854775808 ≤ x ∧ x ≤ 9223372036854775807 := by
  simp [Lit.wf, IntKind.min, IntKind.max, IntKind.signed, IntKind.bits] at h
  exact ⟨by omega, by omega⟩

set_option maxRecDepth 100000 in
theorem lifted (os : Os) (started : os.Started) (H : Type) (enc : TypeId × Value → H) :
    ReturnsInHanded {} Try.checked os 6 .any (Rows.scriptJoinsSpec.pre6 enc Try.prog Try.f6 Rows.scriptJoinsRow.domain false) (Rows.scriptJoinsSpec.post enc Try.prog Try.f6 false true false false) := by
  refine returnsInHanded_of_change (C := Try.checked) own started (by kernel_rfl) Try.func6
    (ChangeSpec.witness6 (enc := enc) (C := Try.checked) false ⟨#[], #[.int .i64 0, .string ⟨#[]⟩, .string ⟨#[]⟩], []⟩ 8 (by kernel_rfl) (by kernel_rfl) (by kernel_rfl) (by kernel_rfl)) ?_
  intro W base args ds gs before hval0 hW hcnd _
  have hval : ∀ (j : Nat) t v, Try.f6.params[j]? = some t → args[j]? = some v → Value.okWide Try.prog W .any base t v := hval0
  have hW' := hW
  obtain ⟨p, q, hA0, hV, rfl, hfz, hnd⟩ := hW
  have hA : DataW.TrodAll enc Try.prog W 0 (fun _ => true) true Try.f6.params.toList args.toList ds p := hA0
  rw [Try.params6] at hA hval
  obtain ⟨v0, vs0, d0, ds0, p0, q0, hargs, rfl, rfl, h0, r0⟩ := trodAll_cons hA
  obtain ⟨v1, vs1, d1, ds1, p1, q1, rfl, rfl, rfl, h1, r1⟩ := trodAll_cons r0
  obtain ⟨v2, vs2, d2, ds2, p2, q2, rfl, rfl, rfl, h2, r2⟩ := trodAll_cons r1
  obtain ⟨rfl, rfl, rfl⟩ := trodAll_nil r2
  obtain rfl : args = #[v0, v1, v2] := by cases args; simp_all
  obtain ⟨rfl, rfl⟩ := trodVars_none hV
  obtain ⟨a0, rfl, rfl, rfl, w0⟩ := open_int Try.underlying3 (hval 0 3 v0 rfl rfl) h0
  obtain ⟨s_1, rfl, rfl, rfl, hs_1⟩ := Go.ChangeMaps.open_string Try.underlying9 (hval 1 9 v1 rfl rfl) h1
  obtain ⟨s_2, rfl, rfl, rfl, hs_2⟩ := Go.ChangeMaps.open_string Try.underlying9 (hval 2 9 v2 rfl rfl) h2
  clear hA0 hval0
  refine (walk_joins a0 s_1 s_2 (int_of w0).1 (int_of w0).2 hs_1 hs_2 W).mono fun e W' ⟨he, bel⟩ => ?_
  subst he
  exact ⟨_, rfl, _, _, _, [], _, [], hW', trodAll_mk1 (shut_bool Try.underlying4 _), (trodAll_cons_mk (shut_int Try.underlying3 w0) (trodAll_cons_mk (Go.ChangeMaps.shut_string Try.underlying9 hs_1) (trodAll_cons_mk (Go.ChangeMaps.shut_string Try.underlying9 hs_2) trodAll_mk0))), rfl, bel.frame _, fun h => by cases h⟩

theorem over : Rows.scriptJoinsRow.holds Try.pinned (OpenSpec.ofChange Rows.scriptJoinsSpec) :=
  OpenClaim.holds_of_wide 6 Try.f6 rfl rfl rfl rfl rfl rfl rfl ⟨rfl, rfl, rfl, rfl, rfl⟩ rfl rfl rfl rfl rfl (by kernel_rfl) Try.func6 (by kernel_rfl)
    (of_decide_eq_true (by kernel_rfl)) (by unfold Func.isWrapper; first | (rw [if_pos (by decide +kernel)]; kernel_rfl) | (rw [if_neg (by decide +kernel)]; exact ⟨rfl, rfl⟩))
    (fun os started H enc _ => lifted os started H enc)
theorem proved : Rows.ScriptJoinsSaid := over
#print axioms proved
end Go.Proofs.Ytmiljpfljnjkpaa.scriptJoins
