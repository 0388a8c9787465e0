/-
  ScriptBack: for any number, steps and bytes what was encoded is decoded again, and what was decoded, encoded and decoded again is the same. No conditions.
-/
import Derived.Test.YtmiljpfljnjkpaaJ9
import Derived.Test.YtmiljpfljnjkpaaJA
import Derived.ChangeMaps5
import Derived.Test.YtmiljpfljnjkpaaRows
import Derived.WalkKit
import Derived.ProofKit
import Derived.OpenShut
import Derived.ChangeOld
import Derived.Below
import Derived.Lib.SmallJoins
namespace Go.Proofs.Ytmiljpfljnjkpaa
open Go.RowKit
set_option linter.unusedVariables false
attribute [local go_sem] Later.cell Later.frozen
/-- Whether all of the first so many steps may be. -/
def gd (m : Int) (f : Nat → Stp) : Nat → Bool
  | 0 => true
  | i + 1 => gd m f i && isb m (f i)
theorem gd_all {m : Int} {f : Nat → Stp} {n : Nat} (h : gd m f n = true) : ∀ i, i < n → isb m (f i) = true := by
  induction n with
  | zero => intro i h; omega
  | succ n ih =>
    have h2 : (gd m f n && isb m (f n)) = true := h
    rw [Bool.and_eq_true] at h2
    intro i hi
    by_cases e : i < n
    · exact ih h2.1 i e
    · obtain rfl : i = n := by omega
      exact h2.2
theorem back_decode (m : Int) (f : Nat → Stp) (n : Nat) (hn : n ≤ 1000) (h : ∀ i, i < n → isb m (f i) = true) (w : World) :
    Calls Try.prog 10 #[.int .i64 m, .string (bs f n)] w fun e w' => (∃ ao c, e = .returned (.slice ao n c) ∧ Ops w' ao n c f) ∧ Below w.heap.size w w' := by
  refine (decode_any m (bs f n) (by rw [bs_size]; omega) w).mono ?_
  rintro e w' ⟨⟨ao, c, he, own⟩, hw⟩
  rw [bs_dn] at he own
  exact ⟨⟨ao, c, he, (Ops.own own).ext (fun i hi => dc_bs m f n i hi (h i hi))⟩, hw⟩
theorem ops_decode (m : Int) (s : ByteArray) (hs : s.size ≤ 20000) (w : World) :
    Calls Try.prog 10 #[.int .i64 m, .string s] w fun e w' => (∃ ao c, e = .returned (.slice ao (dn s) c) ∧ Ops w' ao (dn s) c (dc m s)) ∧ Below w.heap.size w w' := by
  refine (decode_any m s hs w).mono ?_
  rintro e w' ⟨⟨ao, c, he, own⟩, hw⟩
  exact ⟨⟨ao, c, he, Ops.own own⟩, hw⟩
set_option maxHeartbeats 4000000 in
set_option maxRecDepth 100000 in
theorem back_yes (m : Int) (ao : Option Addr) (n c : Nat) (Z : Nat → Stp) (s : ByteArray) (hs : s.size ≤ 2000) (hn : n ≤ 1000) (w : World) (E : Ops w ao n c Z) :
    Calls Try.prog 5 #[.int .i64 m, .slice ao n c, .string s] w fun e w' => e = .returned (.bool true) ∧ Below w.heap.size w w' := by
  have hs2 : ¬ (2000 : Int) < s.size := by omega
  have hn2 : ¬ (1000 : Int) < n := by omega
  have hs3 : decide ((2000 : Int) < s.size) = false := decide_eq_false hs2
  have hn3 : decide ((1000 : Int) < n) = false := decide_eq_false hn2
  have hcap := E.cap
  have hmax := E.max
  have hmx : maxLen = 9223372036854775807 := rfl
  go_enter Try.func5, Try.ntmps5
  go_wp2_with fail
  go_loopw [7, 8] (fun v7 v8 wr => ∃ i : Nat, i ≤ n ∧ v8 = .int .i64 i ∧ v7 = .bool (gd m Z i) ∧ Below w.heap.size w wr) (fun _ v8 _ => n - (intOf v8).toNat)
  case atStart => exact ⟨0, Nat.zero_le _, rfl, rfl, Below.refl _ _⟩
  case round =>
    obtain ⟨i, hi, rfl, rfl, hB⟩ := hrel
    by_cases hin : i < n
    · have hin2 : (i : Int) < n := by omega
      obtain ⟨b, o, rfl, hbl, hc⟩ := (E.below hB).at' (by omega)
      obtain ⟨a0, a1, a2⟩ := hc i hin
      clear hc E
      have hg1 : Hid (gd m Z (i + 1) = (gd m Z i && isb m (Z i))) := rfl
      cases hg : gd m Z i
      · have hg2 : Hid (gd m Z (i + 1) = false) := by show _ = _; rw [hg1.out, hg]; rfl
        clear hg1 hg
        go_wp2_with fail
        go_roundw
        case rel => exact ⟨i + 1, by omega, by go_num, by rw [hg2.out], hB⟩
        case measure => simp [intOf]; omega
      · obtain ⟨v, hv⟩ : ∃ v, isb m (Z i) = v := ⟨_, rfl⟩
        have hg2 : Hid (gd m Z (i + 1) = v) := by show _ = _; rw [hg1.out, hg, hv]; rfl
        have IS := is_any m (Z i) v hv
        clear hg1 hg hv
        generalize (Z i).k = k at *
        generalize (Z i).h = h at *
        generalize (Z i).v = u at *
        go_wp2_with fail
        refine (IS _).mono ?_
        rintro e w4 ⟨rfl, hw4⟩
        replace hB := Below.call hB hB.size hw4
        clear hw4 IS
        go_wp2_with fail
        go_roundw
        case rel => exact ⟨i + 1, by omega, by go_num, by rw [hg2.out], hB⟩
        case measure => simp [intOf]; omega
    · have e : n = i := by omega
      subst e
      have hn1 := hn
      obtain ⟨q, q1, q2, q3⟩ := first_bad Z n
      have EN := fun w E => encode_any ao n c q Z (by omega) q1 q2 q3 w E
      have DS := fun w => ops_decode m s (by omega) w
      have hn22 : dn s ≤ 1000 := by unfold dn; omega
      have EN2 := fun w a d E => encode_any a (dn s) d (dn s) (dc m s) (by omega) (Nat.le_refl _) (fun j _ => isb_64 (dc_is m s j)) (fun h => absurd h (Nat.lt_irrefl _)) w E
      have DT2 := fun w => back_decode m (dc m s) (dn s) hn22 (fun i _ => dc_is m s i) w
      rw [encv_yes] at EN2
      generalize bs (dc m s) (dn s) = t2 at *
      generalize dc m s = f at *
      generalize dn s = n2 at *
      cases hg : gd m Z n
      · by_cases hqn : q = n
        · subst hqn
          rw [encv_yes] at EN
          generalize bs Z q = t at *
          clear q1 q2 q3 hg
          go_wp2_with fail
          refine (EN _ (E.below hB)).mono ?_
          rintro e w2 ⟨rfl, hw2⟩
          replace hB := Below.call hB hB.size hw2
          clear hw2 EN
          go_wp2_with fail
          refine (DS _).mono ?_
          rintro e w5 ⟨⟨a5, c5, rfl, E5⟩, hw5⟩
          replace hB := Below.call hB hB.size hw5
          clear hw5 DS
          go_wp2_with fail
          refine (EN2 _ _ _ E5).mono ?_
          rintro e w6 ⟨rfl, hw6⟩
          replace E5 := E5.below hw6
          replace hB := Below.call hB hB.size hw6
          clear hw6 EN2
          go_wp2_with fail
          refine (scripted_any _).mono ?_
          rintro e w7 ⟨rfl, hw7⟩
          replace E5 := E5.below hw7
          replace hB := Below.call hB hB.size hw7
          clear hw7
          go_wp2_with fail
          refine (DT2 _).mono ?_
          rintro e w8 ⟨⟨a8, c8, rfl, E8⟩, hw8⟩
          replace E5 := E5.below hw8
          replace hB := Below.call hB hB.size hw8
          clear hw8 DT2
          go_wp2_with fail
          refine (same_any a8 a5 n2 c8 c5 f _ E8 E5).mono ?_
          rintro e w9 ⟨rfl, hw9⟩
          replace hB := Below.call hB hB.size hw9
          clear hw9 E8 E5
          go_wp2_with fail
          go_ret
          exact ⟨rfl, hB⟩
        · rw [encv_no (by omega)] at EN
          clear q1 q2 q3 hg hqn
          go_wp2_with fail
          refine (EN _ (E.below hB)).mono ?_
          rintro e w2 ⟨rfl, hw2⟩
          replace hB := Below.call hB hB.size hw2
          clear hw2 EN
          go_wp2_with fail
          refine (DS _).mono ?_
          rintro e w5 ⟨⟨a5, c5, rfl, E5⟩, hw5⟩
          replace hB := Below.call hB hB.size hw5
          clear hw5 DS
          go_wp2_with fail
          refine (EN2 _ _ _ E5).mono ?_
          rintro e w6 ⟨rfl, hw6⟩
          replace E5 := E5.below hw6
          replace hB := Below.call hB hB.size hw6
          clear hw6 EN2
          go_wp2_with fail
          refine (scripted_any _).mono ?_
          rintro e w7 ⟨rfl, hw7⟩
          replace E5 := E5.below hw7
          replace hB := Below.call hB hB.size hw7
          clear hw7
          go_wp2_with fail
          refine (DT2 _).mono ?_
          rintro e w8 ⟨⟨a8, c8, rfl, E8⟩, hw8⟩
          replace E5 := E5.below hw8
          replace hB := Below.call hB hB.size hw8
          clear hw8 DT2
          go_wp2_with fail
          refine (same_any a8 a5 n2 c8 c5 f _ E8 E5).mono ?_
          rintro e w9 ⟨rfl, hw9⟩
          replace hB := Below.call hB hB.size hw9
          clear hw9 E8 E5
          go_wp2_with fail
          go_ret
          exact ⟨rfl, hB⟩
      · have hall := gd_all hg
        obtain rfl : q = n := by
          by_cases e : q < n
          · have h1 := q3 e
            have h2 := isb_64 (hall q e)
            rw [h1] at h2; cases h2
          · omega
        have DT := fun w => back_decode m Z q hn1 hall w
        rw [encv_yes] at EN
        have hts : ((bs Z q).size : Int) = 3 * (q : Int) := by rw [bs_size]; omega
        generalize bs Z q = t at *
        clear q1 q2 q3 hg hall
        go_wp2_with fail
        refine (EN _ (E.below hB)).mono ?_
        rintro e w2 ⟨rfl, hw2⟩
        replace hB := Below.call hB hB.size hw2
        clear hw2 EN
        go_wp2_with fail
        refine (DT _).mono ?_
        rintro e w3 ⟨⟨a3, c3, rfl, E3⟩, hw3⟩
        replace hB := Below.call hB hB.size hw3
        clear hw3 DT
        go_wp2_with fail
        refine (same_any a3 ao q c3 c Z _ E3 (E.below hB)).mono ?_
        rintro e w4 ⟨rfl, hw4⟩
        replace hB := Below.call hB hB.size hw4
        clear hw4 E3
        go_wp2_with fail
        refine (DS _).mono ?_
        rintro e w5 ⟨⟨a5, c5, rfl, E5⟩, hw5⟩
        replace hB := Below.call hB hB.size hw5
        clear hw5 DS
        go_wp2_with fail
        refine (EN2 _ _ _ E5).mono ?_
        rintro e w6 ⟨rfl, hw6⟩
        replace E5 := E5.below hw6
        replace hB := Below.call hB hB.size hw6
        clear hw6 EN2
        go_wp2_with fail
        refine (scripted_any _).mono ?_
        rintro e w7 ⟨rfl, hw7⟩
        replace E5 := E5.below hw7
        replace hB := Below.call hB hB.size hw7
        clear hw7
        go_wp2_with fail
        refine (DT2 _).mono ?_
        rintro e w8 ⟨⟨a8, c8, rfl, E8⟩, hw8⟩
        replace E5 := E5.below hw8
        replace hB := Below.call hB hB.size hw8
        clear hw8 DT2
        go_wp2_with fail
        refine (same_any a8 a5 n2 c8 c5 f _ E8 E5).mono ?_
        rintro e w9 ⟨rfl, hw9⟩
        replace hB := Below.call hB hB.size hw9
        clear hw9 E8 E5
        go_wp2_with fail
        go_ret
        exact ⟨rfl, hB⟩
theorem back_no (m : Int) (ao : Option Addr) (n c : Nat) (s : ByteArray) (h : 2000 < s.size ∨ 1000 < n) (w : World) : Calls Try.prog 5 #[.int .i64 m, .slice ao n c, .string s] w fun e w' => e = .returned (.bool true) ∧ Below w.heap.size w w' := by
  by_cases h1 : 2000 < s.size
  · have hs2 : (2000 : Int) < s.size := by omega
    go_enter Try.func5, Try.ntmps5
    go_wp2
    go_ret
    exact ⟨rfl, Below.refl _ _⟩
  · have hs3 : decide ((2000 : Int) < s.size) = false := decide_eq_false (by omega)
    have hn2 : (1000 : Int) < n := by omega
    go_enter Try.func5, Try.ntmps5
    go_wp2
    go_ret
    exact ⟨rfl, Below.refl _ _⟩
theorem walk_back (m : Int) (ao : Option Addr) (n c : Nat) (Z : Nat → Stp) (s : ByteArray) (m0 : -9223372036854775808 ≤ m) (m1 : m ≤ 9223372036854775807) (hs : s.size ≤ maxLen) (w : World) (hz : OpsIn w ao n c Z) :
    Calls Try.prog 5 #[.int .i64 m, .slice ao n c, .string s] w fun e w' => e = .returned (.bool true) ∧ Below w.heap.size w w' := by
  by_cases h : 2000 < s.size ∨ 1000 < n
  · exact back_no m ao n c s h w
  · exact back_yes m ao n c Z s (by omega) (by omega) w hz.ops
end Go.Proofs.Ytmiljpfljnjkpaa
namespace Go.Proofs.Ytmiljpfljnjkpaa.scriptBack
open Go.ChangeShapes Go.WideShapes Go.ChangeAt Go.RowKit Go.Joins
set_option linter.unusedVariables false

theorem own : ownKnob Try.prog.godebug = none := by kernel_rfl
theorem laidOut : laidOutB Try.prog = true := by kernel_rfl
theorem word_of {x : Int} (h : (Lit.int .u64 x).wf = true) : 0 ≤ x ∧ x ≤ 18446744073709551615 := by
  simp [Lit.wf, IntKind.min, IntKind.max, IntKind.signed, IntKind.bits] at h
  exact ⟨by omega, by omega⟩
theorem int_of {x : Int} (h : (Lit.int .i64 x).wf = true) : -9223372036854775808 ≤ x ∧ x ≤ 9223372036854775807 := by
  simp [Lit.wf, IntKind.min, IntKind.max, IntKind.signed, IntKind.bits] at h
  exact ⟨by omega, by omega⟩

set_option maxRecDepth 100000 in
theorem lifted (os : Os) (started : os.Started) (H : Type) (enc : TypeId × Value → H) :
    ReturnsInHanded {} Try.checked os 5 .any (Rows.scriptBackSpec.pre6 enc Try.prog Try.f5 Rows.scriptBackRow.domain false) (Rows.scriptBackSpec.post enc Try.prog Try.f5 false true false false) := by
  refine returnsInHanded_of_change (C := Try.checked) own started (by kernel_rfl) Try.func5
    (ChangeSpec.witness6 (enc := enc) (C := Try.checked) false ⟨#[], #[.int .i64 0, .slice none 0 0, .string ⟨#[]⟩], []⟩ 8 (by kernel_rfl) (by kernel_rfl) (by kernel_rfl) (by kernel_rfl)) ?_
  intro W base args ds gs before hval0 hW hcnd _
  have hval : ∀ (j : Nat) t v, Try.f5.params[j]? = some t → args[j]? = some v → Value.okWide Try.prog W .any base t v := hval0
  have hW' := hW
  obtain ⟨p, q, hA0, hV, rfl, hfz, hnd⟩ := hW
  have hA : DataW.TrodAll enc Try.prog W 0 (fun _ => true) true Try.f5.params.toList args.toList ds p := hA0
  rw [Try.params5] at hA hval
  obtain ⟨v0, vs0, d0, ds0, p0, q0, hargs, rfl, rfl, h0, r0⟩ := trodAll_cons hA
  obtain ⟨v1, vs1, d1, ds1, p1, q1, rfl, rfl, rfl, h1, r1⟩ := trodAll_cons r0
  obtain ⟨v2, vs2, d2, ds2, p2, q2, rfl, rfl, rfl, h2, r2⟩ := trodAll_cons r1
  obtain ⟨rfl, rfl, rfl⟩ := trodAll_nil r2
  obtain rfl : args = #[v0, v1, v2] := by cases args; simp_all
  obtain ⟨rfl, rfl⟩ := trodVars_none hV
  obtain ⟨a0, rfl, rfl, rfl, w0⟩ := open_int Try.underlying3 (hval 0 3 v0 rfl rfl) h0
  have k1 := h1
  have lt1 : ∀ x ∈ p1, x.block < W.heap.size := by obtain ⟨m, hm⟩ := k1; exact DataW.trod_lt m _ _ _ hm
  obtain ⟨ao_1, n_1, c_1, Z_1, rfl, hz1⟩ := open_ops (hval 1 22 v1 rfl rfl) h1
  obtain ⟨s_2, rfl, rfl, rfl, hs_2⟩ := Go.ChangeMaps.open_string Try.underlying9 (hval 2 9 v2 rfl rfl) h2
  clear hA0 hval0
  refine (walk_back a0 ao_1 n_1 c_1 Z_1 s_2 (int_of w0).1 (int_of w0).2 hs_2 W hz1).mono fun e W' ⟨he, bel⟩ => ?_
  subst he
  exact ⟨_, rfl, _, _, _, [], _, [], hW', trodAll_mk1 (shut_bool Try.underlying4 _), (trodAll_cons_mk (shut_int Try.underlying3 w0) (trodAll_cons_mk (Below.trod laidOut (by kernel_rfl) (of_decide_eq_true (by kernel_rfl)) k1 bel lt1) (trodAll_cons_mk (Go.ChangeMaps.shut_string Try.underlying9 hs_2) trodAll_mk0))), rfl, bel.frame _, fun h => by cases h⟩

theorem over : Rows.scriptBackRow.holds Try.pinned (OpenSpec.ofChange Rows.scriptBackSpec) :=
  OpenClaim.holds_of_wide 5 Try.f5 rfl rfl rfl rfl rfl rfl rfl ⟨rfl, rfl, rfl, rfl, rfl⟩ rfl rfl rfl rfl rfl (by kernel_rfl) Try.func5 (by kernel_rfl)
    (of_decide_eq_true (by kernel_rfl)) (by unfold Func.isWrapper; first | (rw [if_pos (by decide +kernel)]; kernel_rfl) | (rw [if_neg (by decide +kernel)]; exact ⟨rfl, rfl⟩))
    (fun os started H enc _ => lifted os started H enc)
theorem proved : Rows.ScriptBackSaid := over
#print axioms proved
end Go.Proofs.Ytmiljpfljnjkpaa.scriptBack
