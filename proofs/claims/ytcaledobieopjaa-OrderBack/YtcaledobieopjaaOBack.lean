/-
  OrderBack: for any order of four trials and any two numbers, of each order with two trials up and two down Four of Rank is it, all others are refused, and orders of two numbers are not the same. No conditions.
-/
import Derived.Test.YtcaledobieopjaaO10
import Derived.Test.YtcaledobieopjaaOA
import Derived.Test.YtcaledobieopjaaRows
import Derived.WalkKit
import Derived.ProofKit
import Derived.OpenShut
import Derived.ChangeOld
import Derived.Below
import Derived.Lib.SmallJoins
namespace Go.Proofs.Ytcaledobieopjaa
open Go.RowKit
set_option linter.unusedVariables false
/-- How many of the first j trials go up. -/
def upsTo (a b c d : Bool) (j : Nat) : Int := match j with | 0 => 0 | 1 => a.toInt | 2 => a.toInt + b.toInt | 3 => a.toInt + b.toInt + c.toInt | _ => upsN a b c d
theorem bool_int (b : Bool) : 0 ≤ b.toInt ∧ b.toInt ≤ 1 := by cases b <;> decide
theorem four_pair {k l : Int} (k0 : 0 ≤ k) (k1 : k ≤ 5) (l0 : 0 ≤ l) (l1 : l ≤ 5) (w : World) : (Op.equalIn 10000 22 (.agg #[.bool (up0 k), .bool (up1 k), .bool (up2 k), .bool (up3 k)]) (.agg #[.bool (up0 l), .bool (up1 l), .bool (up2 l), .bool (up3 l)])).run Try.prog w = .ok (decide (k = l)) w := by
  rw [eq4]
  congr 1
  rw [decide_eq_decide]
  exact ⟨fun h => up_inj k0 k1 l0 l1 h.1 h.2.1 h.2.2.1 h.2.2.2, fun h => by subst h; simp⟩
/-- What is left behind the count, and what it leaves true. -/
structure Told (a b c d : Bool) (u n e y : Int) (b0 b1 b2 b3 : Bool) : Prop where
  yes : e = 0 → u = 2 ∧ b0 = a ∧ b1 = b ∧ b2 = c ∧ b3 = d
  no : e ≠ 0 → u ≠ 2 ∧ n = 0
theorem told (a b c d : Bool) : Told a b c d (upsN a b c d) (rankv a b c d) (rankE a b c d) 0 (up0 (rankv a b c d)) (up1 (rankv a b c d)) (up2 (rankv a b c d)) (up3 (rankv a b c d)) := by
  obtain ⟨h1, h2, h3, h4, h5, h6⟩ := rank_ups a b c d
  exact ⟨fun e => ⟨h1.1 e, h6 e⟩, fun e => ⟨fun h => e (h1.2 h), h3 e⟩⟩
set_option maxHeartbeats 8000000 in
set_option maxRecDepth 100000 in
theorem walk_back (a b c d : Bool) (k l : Int) (k0 : -9223372036854775808 ≤ k) (k1 : k ≤ 9223372036854775807) (l0 : -9223372036854775808 ≤ l) (l1 : l ≤ 9223372036854775807) (w : World) :
    Calls Try.prog 4 #[.agg #[.bool a, .bool b, .bool c, .bool d], .int .i64 k, .int .i64 l] w fun e w' => e = .returned (.bool true) ∧ Below w.heap.size w w' := by
  have xa := bool_int a
  have xb := bool_int b
  have xc := bool_int c
  have xd := bool_int d
  have R := fun w => rank_any a b c d w
  obtain ⟨_, e2, _, n0, n1, _⟩ := rank_ups a b c d
  have F := fun w => four_in (rankv a b c d) n0 n1 w
  have TT := told a b c d
  have UE : Hid (upsTo a b c d 4 = upsN a b c d) := rfl
  generalize up0 (rankv a b c d) = b0 at *
  generalize up1 (rankv a b c d) = b1 at *
  generalize up2 (rankv a b c d) = b2 at *
  generalize up3 (rankv a b c d) = b3 at *
  generalize rankv a b c d = n at *
  generalize rankE a b c d = e at *
  generalize upsN a b c d = u at *
  have FK := fun w => four_any k w
  have FL := fun w => four_any l w
  go_enter Try.func4, Try.ntmps4
  go_wp2
  go_loopw [7, 8] (fun u' i' wr => ∃ j : Nat, j ≤ 4 ∧ i' = .int .i64 j ∧ u' = .int .i64 (upsTo a b c d j) ∧ At4 wr w.heap.size (.bool a) (.bool b) (.bool c) (.bool d) ∧ Below w.heap.size w wr) (fun _ i' _ => 4 - (intOf i').toNat)
  case atStart => exact ⟨0, by omega, rfl, rfl, by constructor <;> simp [go_sem], by go_grown⟩
  case round =>
    obtain ⟨j, hj, rfl, rfl, A, hb⟩ := hrel
    by_cases h4 : j < 4
    · obtain ⟨a0, a1, a2, a3, fa, fb, fc, fd, al⟩ := id A
      have hj4 : j = 0 ∨ j = 1 ∨ j = 2 ∨ j = 3 := by omega
      clear R F TT FK FL UE
      rcases hj4 with rfl | rfl | rfl | rfl
      · rw [show upsTo a b c d 0 = 0 from rfl]
        cases a
        · go_wp2
          go_roundw
          case rel => exact ⟨1, by omega, rfl, rfl, A, hb⟩
          case measure => simp [intOf]
        · go_wp2
          go_roundw
          case rel => exact ⟨1, by omega, rfl, rfl, A, hb⟩
          case measure => simp [intOf]
      · have e1 : upsTo a b c d 1 = a.toInt := rfl
        have e2 : upsTo a b c d 2 = a.toInt + b.toInt := rfl
        generalize upsTo a b c d 1 = v1 at *
        have E2 : Hid (upsTo a b c d 2 = a.toInt + b.toInt) := e2
        have E1 : Hid (v1 = a.toInt) := e1
        have hv : 0 ≤ v1 ∧ v1 ≤ 3 := by omega
        clear e1 e2
        cases b
        · go_wp2
          go_roundw
          case rel => exact ⟨2, by omega, rfl, by rw [E2.out, E1.out]; simp, A, hb⟩
          case measure => simp [intOf]
        · go_wp2
          go_roundw
          case rel => exact ⟨2, by omega, rfl, by rw [E2.out, E1.out]; simp, A, hb⟩
          case measure => simp [intOf]
      · have e1 : upsTo a b c d 2 = a.toInt + b.toInt := rfl
        have e2 : upsTo a b c d 3 = a.toInt + b.toInt + c.toInt := rfl
        generalize upsTo a b c d 2 = v1 at *
        have E2 : Hid (upsTo a b c d 3 = a.toInt + b.toInt + c.toInt) := e2
        have E1 : Hid (v1 = a.toInt + b.toInt) := e1
        have hv : 0 ≤ v1 ∧ v1 ≤ 3 := by omega
        clear e1 e2
        cases c
        · go_wp2
          go_roundw
          case rel => exact ⟨3, by omega, rfl, by rw [E2.out, E1.out]; simp, A, hb⟩
          case measure => simp [intOf]
        · go_wp2
          go_roundw
          case rel => exact ⟨3, by omega, rfl, by rw [E2.out, E1.out]; simp, A, hb⟩
          case measure => simp [intOf]
      · have e1 : upsTo a b c d 3 = a.toInt + b.toInt + c.toInt := rfl
        have e2 : upsTo a b c d 4 = a.toInt + b.toInt + c.toInt + d.toInt := rfl
        generalize upsTo a b c d 3 = v1 at *
        have E2 : Hid (upsTo a b c d 4 = a.toInt + b.toInt + c.toInt + d.toInt) := e2
        have E1 : Hid (v1 = a.toInt + b.toInt + c.toInt) := e1
        have hv : 0 ≤ v1 ∧ v1 ≤ 3 := by omega
        clear e1 e2
        cases d
        · go_wp2
          go_roundw
          case rel => exact ⟨4, by omega, rfl, by rw [E2.out, E1.out]; simp, A, hb⟩
          case measure => simp [intOf]
        · go_wp2
          go_roundw
          case rel => exact ⟨4, by omega, rfl, by rw [E2.out, E1.out]; simp, A, hb⟩
          case measure => simp [intOf]
    · obtain rfl : j = 4 := by omega
      rw [UE.out]
      clear UE xa xb xc xd
      by_cases he : e = 0
      · obtain ⟨rfl, rfl, rfl, rfl, rfl⟩ := TT.yes he
        subst he
        clear TT
        obtain ⟨a0, a1, a2, a3, fa, fb, fc, fd, al⟩ := id A
        go_wp2_with fail
        refine (R _).mono ?_
        rintro e w1 ⟨rfl, hw1⟩
        have g1 := Below.call hb hb.size hw1
        have A1 := At4.of hw1 A
        clear R A hb hw1 a0 a1 a2 a3 fa fb fc fd al
        go_wp2_with fail
        refine (F _).mono ?_
        rintro e w2 ⟨rfl, hw2⟩
        have g2 := Below.call g1 g1.size hw2
        have A2 := At4.of hw2 A1
        clear F A1 g1 hw2
        have hs2 := A2.lt
        have G2 := g2.size
        obtain ⟨a0, a1, a2, a3, fa, fb, fc, fd, al⟩ := id A2
        have heq0 := eq4_same b0 b1 b2 b3
        clear A2
        have EK : Hid ((k < 0 ∧ fourE k = 1) ∨ (5 < k ∧ fourE k = 1) ∨ (0 ≤ k ∧ k ≤ 5 ∧ fourE k = 0)) := by
          show _ ∨ _ ∨ _
          unfold fourE; split <;> omega
        have EL : Hid (((l < 0 ∨ 5 < l) ∧ fourE l = 1) ∨ (0 ≤ l ∧ l ≤ 5 ∧ fourE l = 0)) := by
          show _ ∨ _
          unfold fourE; split <;> omega
        have EP : Hid (0 ≤ k → k ≤ 5 → 0 ≤ l → l ≤ 5 → ∀ w, (Op.equalIn 10000 22 (.agg #[.bool (up0 k), .bool (up1 k), .bool (up2 k), .bool (up3 k)]) (.agg #[.bool (up0 l), .bool (up1 l), .bool (up2 l), .bool (up3 l)])).run Try.prog w = .ok (decide (k = l)) w) := fun x0 x1 x2 x3 w => four_pair x0 x1 x2 x3 w
        generalize up0 k = kb0 at *
        generalize up1 k = kb1 at *
        generalize up2 k = kb2 at *
        generalize up3 k = kb3 at *
        generalize up0 l = lb0 at *
        generalize up1 l = lb1 at *
        generalize up2 l = lb2 at *
        generalize up3 l = lb3 at *
        generalize fourE k = ek at *
        generalize fourE l = el at *
        go_wp2_with fail
        refine (FK _).mono ?_
        rintro e w3 ⟨rfl, hw3⟩
        have g3 : Below w.heap.size w w3 := Below.call (by go_grown) (by simp; omega) hw3
        clear FK g2 hw3 heq0 a0 a1 a2 a3 fa fb fc fd al hs2 G2
        go_wp2_with fail
        refine (FL _).mono ?_
        rintro e w4 ⟨rfl, hw4⟩
        have G3 := g3.size
        have g4 : Below w.heap.size w w4 := Below.call (by go_grown) (by simp; omega) hw4
        have K : At4 w4 w3.heap.size (.bool kb0) (.bool kb1) (.bool kb2) (.bool kb3) := At4.of hw4 (At4.fresh _ _ _ _ _ _)
        clear FL g3 hw4 G3
        generalize w3.heap.size = x3 at *
        go_wp2_with fail
        refine (ordered_any _).mono ?_
        rintro e w5 ⟨rfl, hw5⟩
        have G4 := g4.size
        have g5 : Below w.heap.size w w5 := Below.call (by go_grown) (by simp; omega) hw5
        have K5 := At4.of hw5 (K.alloc _)
        have L5 : At4 w5 w4.heap.size (.bool lb0) (.bool lb1) (.bool lb2) (.bool lb3) := At4.of hw5 (At4.fresh _ _ _ _ _ _)
        clear K g4 hw5 G4
        generalize w4.heap.size = x4 at *
        obtain ⟨a0, a1, a2, a3, fa, fb, fc, fd, al⟩ := id K5
        obtain ⟨c0, c1, c2, c3, ga, gb, gc, gd, cl⟩ := id L5
        rcases EK.out with ⟨h1, rfl⟩ | ⟨h1, rfl⟩ | ⟨h1, h2, rfl⟩
        · clear EK EL EP K5 L5
          go_wp2
          go_ret
          exact ⟨rfl, g5⟩
        · have h2 : decide (k ≤ 5) = false := by simp; omega
          clear EK EL EP K5 L5
          go_wp2
          go_ret
          exact ⟨rfl, g5⟩
        · rcases EL.out with ⟨h3, rfl⟩ | ⟨h3, h4, rfl⟩
          · clear EK EL EP K5 L5
            go_wp2
            go_ret
            exact ⟨rfl, g5⟩
          · have heq := EP.out h1 h2 h3 h4
            clear EK EL EP K5 L5
            by_cases hkl : k = l
            · subst hkl
              simp only [decide_true] at heq
              go_wp2
              go_ret
              exact ⟨rfl, g5⟩
            · have hd : (k == l) = false := by simpa using hkl
              rw [decide_eq_false hkl] at heq
              go_wp2
              go_ret
              exact ⟨rfl, g5⟩
      · obtain ⟨hu, rfl⟩ := TT.no he
        obtain rfl : e = 14 := by omega
        clear TT
        obtain ⟨a0, a1, a2, a3, fa, fb, fc, fd, al⟩ := id A
        go_wp2_with fail
        refine (R _).mono ?_
        rintro e w1 ⟨rfl, hw1⟩
        have g1 := Below.call hb hb.size hw1
        have A1 := At4.of hw1 A
        clear R A hb hw1 a0 a1 a2 a3 fa fb fc fd al
        go_wp2_with fail
        refine (F _).mono ?_
        rintro e w2 ⟨rfl, hw2⟩
        have g2 := Below.call g1 g1.size hw2
        have A2 := At4.of hw2 A1
        clear F A1 g1 hw2
        have hs2 := A2.lt
        have G2 := g2.size
        obtain ⟨a0, a1, a2, a3, fa, fb, fc, fd, al⟩ := id A2
        clear A2
        have EK : Hid ((k < 0 ∧ fourE k = 1) ∨ (5 < k ∧ fourE k = 1) ∨ (0 ≤ k ∧ k ≤ 5 ∧ fourE k = 0)) := by
          show _ ∨ _ ∨ _
          unfold fourE; split <;> omega
        have EL : Hid (((l < 0 ∨ 5 < l) ∧ fourE l = 1) ∨ (0 ≤ l ∧ l ≤ 5 ∧ fourE l = 0)) := by
          show _ ∨ _
          unfold fourE; split <;> omega
        have EP : Hid (0 ≤ k → k ≤ 5 → 0 ≤ l → l ≤ 5 → ∀ w, (Op.equalIn 10000 22 (.agg #[.bool (up0 k), .bool (up1 k), .bool (up2 k), .bool (up3 k)]) (.agg #[.bool (up0 l), .bool (up1 l), .bool (up2 l), .bool (up3 l)])).run Try.prog w = .ok (decide (k = l)) w) := fun x0 x1 x2 x3 w => four_pair x0 x1 x2 x3 w
        generalize up0 k = kb0 at *
        generalize up1 k = kb1 at *
        generalize up2 k = kb2 at *
        generalize up3 k = kb3 at *
        generalize up0 l = lb0 at *
        generalize up1 l = lb1 at *
        generalize up2 l = lb2 at *
        generalize up3 l = lb3 at *
        generalize fourE k = ek at *
        generalize fourE l = el at *
        go_wp2_with fail
        refine (FK _).mono ?_
        rintro e w3 ⟨rfl, hw3⟩
        have g3 : Below w.heap.size w w3 := Below.call (by go_grown) (by simp; omega) hw3
        clear FK g2 hw3 a0 a1 a2 a3 fa fb fc fd al hs2 G2
        go_wp2_with fail
        refine (FL _).mono ?_
        rintro e w4 ⟨rfl, hw4⟩
        have G3 := g3.size
        have g4 : Below w.heap.size w w4 := Below.call (by go_grown) (by simp; omega) hw4
        have K : At4 w4 w3.heap.size (.bool kb0) (.bool kb1) (.bool kb2) (.bool kb3) := At4.of hw4 (At4.fresh _ _ _ _ _ _)
        clear FL g3 hw4 G3
        generalize w3.heap.size = x3 at *
        go_wp2_with fail
        refine (ordered_any _).mono ?_
        rintro e w5 ⟨rfl, hw5⟩
        have G4 := g4.size
        have g5 : Below w.heap.size w w5 := Below.call (by go_grown) (by simp; omega) hw5
        have K5 := At4.of hw5 (K.alloc _)
        have L5 : At4 w5 w4.heap.size (.bool lb0) (.bool lb1) (.bool lb2) (.bool lb3) := At4.of hw5 (At4.fresh _ _ _ _ _ _)
        clear K g4 hw5 G4
        generalize w4.heap.size = x4 at *
        obtain ⟨a0, a1, a2, a3, fa, fb, fc, fd, al⟩ := id K5
        obtain ⟨c0, c1, c2, c3, ga, gb, gc, gd, cl⟩ := id L5
        rcases EK.out with ⟨h1, rfl⟩ | ⟨h1, rfl⟩ | ⟨h1, h2, rfl⟩
        · clear EK EL EP K5 L5
          go_wp2
          go_ret
          exact ⟨rfl, g5⟩
        · have h2 : decide (k ≤ 5) = false := by simp; omega
          clear EK EL EP K5 L5
          go_wp2
          go_ret
          exact ⟨rfl, g5⟩
        · rcases EL.out with ⟨h3, rfl⟩ | ⟨h3, h4, rfl⟩
          · clear EK EL EP K5 L5
            go_wp2
            go_ret
            exact ⟨rfl, g5⟩
          · have heq := EP.out h1 h2 h3 h4
            clear EK EL EP K5 L5
            by_cases hkl : k = l
            · subst hkl
              simp only [decide_true] at heq
              go_wp2
              go_ret
              exact ⟨rfl, g5⟩
            · have hd : (k == l) = false := by simpa using hkl
              rw [decide_eq_false hkl] at heq
              go_wp2
              go_ret
              exact ⟨rfl, g5⟩
end Go.Proofs.Ytcaledobieopjaa
namespace Go.Proofs.Ytcaledobieopjaa.orderBack
open Go.ChangeShapes Go.WideShapes Go.ChangeAt Go.RowKit Go.Joins
set_option linter.unusedVariables false

theorem own : ownKnob Try.prog.godebug = none := by kernel_rfl
theorem laidOut : laidOutB Try.prog = true := by kernel_rfl
theorem word_of {x : Int} (h : (Lit.int .u64 x).wf = true) : 0 ≤ x ∧ x ≤ 18446744073709551615 := by
  simp [Lit.wf, IntKind.min, IntKind.max, IntKind.signed, IntKind.bits] at h
  exact ⟨by omega, by omega⟩
theorem int_of {x : Int} (h : (Lit.int .i64 x).wf = true) : -9223372036854775808 ≤ x ∧ x ≤ 9223372036854775807 := by
  simp [Lit.wf, IntKind.min, IntKind.max, IntKind.signed, IntKind.bits] at h
  exact ⟨by omega, by omega⟩

set_option maxRecDepth 100000 in
theorem lifted (os : Os) (started : os.Started) (H : Type) (enc : TypeId × Value → H) :
    ReturnsInHanded {} Try.checked os 4 .any (Rows.orderBackSpec.pre6 enc Try.prog Try.f4 Rows.orderBackRow.domain false) (Rows.orderBackSpec.post enc Try.prog Try.f4 false true false false) := by
  refine returnsInHanded_of_change (C := Try.checked) own started (by kernel_rfl) Try.func4
    (ChangeSpec.witness6 (enc := enc) (C := Try.checked) false ⟨#[], #[.agg #[.bool false, .bool false, .bool false, .bool false], .int .i64 0, .int .i64 0], []⟩ 8 (by kernel_rfl) (by kernel_rfl) (by kernel_rfl) (by kernel_rfl)) ?_
  intro W base args ds gs before hval0 hW hcnd _
  have hval : ∀ (j : Nat) t v, Try.f4.params[j]? = some t → args[j]? = some v → Value.okWide Try.prog W .any base t v := hval0
  have hW' := hW
  obtain ⟨p, q, hA0, hV, rfl, hfz, hnd⟩ := hW
  have hA : DataW.TrodAll enc Try.prog W 0 (fun _ => true) true Try.f4.params.toList args.toList ds p := hA0
  rw [Try.params4] at hA hval
  obtain ⟨v0, vs0, d0, ds0, p0, q0, hargs, rfl, rfl, h0, r0⟩ := trodAll_cons hA
  obtain ⟨v1, vs1, d1, ds1, p1, q1, rfl, rfl, rfl, h1, r1⟩ := trodAll_cons r0
  obtain ⟨v2, vs2, d2, ds2, p2, q2, rfl, rfl, rfl, h2, r2⟩ := trodAll_cons r1
  obtain ⟨rfl, rfl, rfl⟩ := trodAll_nil r2
  obtain rfl : args = #[v0, v1, v2] := by cases args; simp_all
  obtain ⟨rfl, rfl⟩ := trodVars_none hV
  have k0 := h0
  have lt0 : ∀ x ∈ p0, x.block < W.heap.size := by obtain ⟨m, hm⟩ := k0; exact DataW.trod_lt m _ _ _ hm
  obtain ⟨ba_0, bb_0, bc_0, bd_0, rfl⟩ := open_four (hval 0 22 v0 rfl rfl) h0
  obtain ⟨a1, rfl, rfl, rfl, w1⟩ := open_int Try.underlying3 (hval 1 3 v1 rfl rfl) h1
  obtain ⟨a2, rfl, rfl, rfl, w2⟩ := open_int Try.underlying3 (hval 2 3 v2 rfl rfl) h2
  clear hA0 hval0
  refine (walk_back ba_0 bb_0 bc_0 bd_0 a1 a2 (int_of w1).1 (int_of w1).2 (int_of w2).1 (int_of w2).2 W).mono fun e W' ⟨he, bel⟩ => ?_
  subst he
  exact ⟨_, rfl, _, _, _, [], _, [], hW', trodAll_mk1 (shut_bool Try.underlying4 _), (trodAll_cons_mk (Below.trod laidOut (by kernel_rfl) (of_decide_eq_true (by kernel_rfl)) k0 bel lt0) (trodAll_cons_mk (shut_int Try.underlying3 w1) (trodAll_cons_mk (shut_int Try.underlying3 w2) trodAll_mk0))), rfl, bel.frame _, fun h => by cases h⟩

theorem over : Rows.orderBackRow.holds Try.pinned (OpenSpec.ofChange Rows.orderBackSpec) :=
  OpenClaim.holds_of_wide 4 Try.f4 rfl rfl rfl rfl rfl rfl rfl ⟨rfl, rfl, rfl, rfl, rfl⟩ rfl rfl rfl rfl rfl (by kernel_rfl) Try.func4 (by kernel_rfl)
    (of_decide_eq_true (by kernel_rfl)) (by unfold Func.isWrapper; first | (rw [if_pos (by decide +kernel)]; kernel_rfl) | (rw [if_neg (by decide +kernel)]; exact ⟨rfl, rfl⟩))
    (fun os started H enc _ => lifted os started H enc)
theorem proved : Rows.OrderBackSaid := over
#print axioms proved
end Go.Proofs.Ytcaledobieopjaa.orderBack
