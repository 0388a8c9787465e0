/-
  ScriptTotal: for any number and bytes the steps that they are decoded to may be, are as many as a third of them, and last and send so much. No conditions.
-/
import Derived.Test.YtmiljpfljnjkpaaJ9
import Derived.Test.YtmiljpfljnjkpaaJA
import Derived.ChangeMaps5
import Derived.Test.YtmiljpfljnjkpaaRows
import Derived.WalkKit
import Derived.ProofKit
import Derived.OpenShut
import Derived.ChangeOld
import Derived.Below
import Derived.Lib.SmallJoins
namespace Go.Proofs.Ytmiljpfljnjkpaa
open Go.RowKit
set_option linter.unusedVariables false
attribute [local go_sem] Later.cell Later.frozen
/-- What a step that bytes gave lasts and sends. -/
theorem spn_wait {x : Stp} (h : isb 64 x = true) (hk : x.k = 0) : 1 ≤ spn x ∧ spn x ≤ 65536 ∧ siz x = 0 := by
  have hb := isb_iff.1 h
  have e : spn x = (x.v + 1) * (x.v + 1) := by unfold spn; rw [if_pos ⟨h, hk⟩]
  have e2 : siz x = 0 := by unfold siz; rw [if_neg (by rw [hk]; simp)]
  have h1 := Int.mul_le_mul (show x.v + 1 ≤ 256 by omega) (show x.v + 1 ≤ 256 by omega) (by omega) (by omega)
  have h2 := Int.mul_le_mul (show 1 ≤ x.v + 1 by omega) (show 1 ≤ x.v + 1 by omega) (by omega) (by omega)
  rw [e]
  exact ⟨by omega, by omega, e2⟩
theorem siz_send {x : Stp} (h : isb 64 x = true) (hk : x.k = 1) : spn x = 0 ∧ 64 ≤ siz x ∧ siz x ≤ 8989 := by
  have hb := isb_iff.1 h
  have e : siz x = 35 * x.v + 64 := by unfold siz; rw [if_pos ⟨h, hk⟩]
  have e2 : spn x = 0 := by unfold spn; rw [if_neg (by rw [hk]; simp)]
  rw [e]
  exact ⟨e2, by omega, by omega⟩
theorem spn_else {x : Stp} (h0 : x.k ≠ 0) (h1 : x.k ≠ 1) : spn x = 0 ∧ siz x = 0 := by
  unfold spn siz
  rw [if_neg (fun h => h0 h.2), if_neg (fun h => h1 h.2)]
  exact ⟨rfl, rfl⟩
set_option maxHeartbeats 4000000 in
set_option maxRecDepth 100000 in
theorem total_yes (m : Int) (s : ByteArray) (hs : s.size ≤ 2000) (w : World) : Calls Try.prog 4 #[.int .i64 m, .string s] w fun e w' => e = .returned (.bool true) ∧ Below w.heap.size w w' := by
  have DE := fun w => decode_any m s (by omega) w
  have hi1 : ∀ i, isb m (dc m s i) = true := dc_is m s
  obtain ⟨n, hn⟩ : ∃ n, dn s = n := ⟨_, rfl⟩
  have hq : ((s.size : Int) + 2) / 3 = (n : Int) := by rw [← hn]; unfold dn; omega
  rw [hn] at DE
  generalize dc m s = f at *
  have hs2 : ¬ (2000 : Int) < s.size := by omega
  have hn2 : n ≤ 1000 := by omega
  go_enter Try.func4, Try.ntmps4
  go_wp2_with fail
  refine (DE _).mono ?_
  rintro e w1 ⟨⟨ao, c, rfl, own⟩, hB1⟩
  have E := Ops.own own
  have hcap := E.cap
  have hmax := E.max
  have hmx : maxLen = 9223372036854775807 := rfl
  clear own DE hn
  go_wp2_with fail
  go_loopw [6] (fun v6 wr => ∃ i : Nat, i ≤ n ∧ v6 = .int .i64 i ∧ Below w1.heap.size w1 wr) (fun v6 _ => n - (intOf v6).toNat)
  case atStart => exact ⟨0, Nat.zero_le _, rfl, Below.refl _ _⟩
  case round =>
    obtain ⟨i, hi, rfl, hB⟩ := hrel
    by_cases hin : i < n
    · have hin2 : (i : Int) < n := by omega
      obtain ⟨b, o, rfl, hbl, hc⟩ := (E.below hB).at' (by omega)
      obtain ⟨a0, a1, a2⟩ := hc i hin
      have hx := hi1 i
      have h64 := isb_64 hx
      have IS := is_any m (f i) true hx
      have SP := span_any (f i)
      have SZ := size_any (f i)
      have hb := isb_iff.1 h64
      clear hc E hi1
      have key : (f i).k = 0 ∧ 1 ≤ spn (f i) ∧ spn (f i) ≤ 65536 ∧ siz (f i) = 0 ∨ (f i).k = 1 ∧ spn (f i) = 0 ∧ 64 ≤ siz (f i) ∧ siz (f i) ≤ 8989 ∨ (2 ≤ (f i).k ∧ spn (f i) = 0 ∧ siz (f i) = 0) := by
        by_cases h0 : (f i).k = 0
        · have := spn_wait h64 h0; exact .inl ⟨h0, this⟩
        · by_cases h1 : (f i).k = 1
          · have := siz_send h64 h1; exact .inr (.inl ⟨h1, this⟩)
          · have := spn_else h0 h1; exact .inr (.inr ⟨by omega, this⟩)
      clear hx h64 hb
      generalize spn (f i) = sp at *
      generalize siz (f i) = sz at *
      generalize (f i).k = k at *
      generalize (f i).h = h at *
      generalize (f i).v = u at *
      rcases key with ⟨rfl, p1, p2, rfl⟩ | ⟨rfl, rfl, q1, q2⟩ | ⟨hk, rfl, rfl⟩
      · have d1 : 0 < sp := by omega
        have d2 : ¬ sp < 0 := by omega
        have d3 : ¬ 65536 < sp := by omega
        go_wp2_with fail
        refine (SP _).mono ?_
        rintro e w2 ⟨rfl, hw2⟩
        replace a0 := (hw2.cell (p := ⟨b, _, none⟩) hbl).trans a0
        replace a1 := (hw2.cell (p := ⟨b, _, none⟩) hbl).trans a1
        replace a2 := (hw2.cell (p := ⟨b, _, none⟩) hbl).trans a2
        replace hbl := Nat.lt_of_lt_of_le hbl hw2.size
        replace hB := Below.call hB hB.size hw2
        clear hw2 SP
        go_wp2_with fail
        refine (SZ _).mono ?_
        rintro e w3 ⟨rfl, hw3⟩
        replace a0 := (hw3.cell (p := ⟨b, _, none⟩) hbl).trans a0
        replace a1 := (hw3.cell (p := ⟨b, _, none⟩) hbl).trans a1
        replace a2 := (hw3.cell (p := ⟨b, _, none⟩) hbl).trans a2
        replace hbl := Nat.lt_of_lt_of_le hbl hw3.size
        replace hB := Below.call hB hB.size hw3
        clear hw3 SZ
        go_wp2_with fail
        refine (IS _).mono ?_
        rintro e w4 ⟨rfl, hw4⟩
        replace a0 := (hw4.cell (p := ⟨b, _, none⟩) hbl).trans a0
        replace a1 := (hw4.cell (p := ⟨b, _, none⟩) hbl).trans a1
        replace a2 := (hw4.cell (p := ⟨b, _, none⟩) hbl).trans a2
        replace hB := Below.call hB hB.size hw4
        clear hw4 IS hbl
        go_wp2_with fail
        go_roundw
        case rel => exact ⟨i + 1, by omega, by go_num, hB⟩
        case measure => simp [intOf]; omega
      · have d1 : 0 < sz := by omega
        have d2 : ¬ sz < 64 := by omega
        have d3 : ¬ 8989 < sz := by omega
        have d4 : ¬ sz = 0 := by omega
        go_wp2_with fail
        refine (SP _).mono ?_
        rintro e w2 ⟨rfl, hw2⟩
        replace a0 := (hw2.cell (p := ⟨b, _, none⟩) hbl).trans a0
        replace a1 := (hw2.cell (p := ⟨b, _, none⟩) hbl).trans a1
        replace a2 := (hw2.cell (p := ⟨b, _, none⟩) hbl).trans a2
        replace hbl := Nat.lt_of_lt_of_le hbl hw2.size
        replace hB := Below.call hB hB.size hw2
        clear hw2 SP
        go_wp2_with fail
        refine (SZ _).mono ?_
        rintro e w3 ⟨rfl, hw3⟩
        replace a0 := (hw3.cell (p := ⟨b, _, none⟩) hbl).trans a0
        replace a1 := (hw3.cell (p := ⟨b, _, none⟩) hbl).trans a1
        replace a2 := (hw3.cell (p := ⟨b, _, none⟩) hbl).trans a2
        replace hbl := Nat.lt_of_lt_of_le hbl hw3.size
        replace hB := Below.call hB hB.size hw3
        clear hw3 SZ
        go_wp2_with fail
        refine (IS _).mono ?_
        rintro e w4 ⟨rfl, hw4⟩
        replace a0 := (hw4.cell (p := ⟨b, _, none⟩) hbl).trans a0
        replace a1 := (hw4.cell (p := ⟨b, _, none⟩) hbl).trans a1
        replace a2 := (hw4.cell (p := ⟨b, _, none⟩) hbl).trans a2
        replace hB := Below.call hB hB.size hw4
        clear hw4 IS hbl
        go_wp2_with fail
        go_roundw
        case rel => exact ⟨i + 1, by omega, by go_num, hB⟩
        case measure => simp [intOf]; omega
      · have d1 : (k == 0) = false := by simp; omega
        have d2 : (k == 1) = false := by simp; omega
        go_wp2_with fail
        refine (SP _).mono ?_
        rintro e w2 ⟨rfl, hw2⟩
        replace a0 := (hw2.cell (p := ⟨b, _, none⟩) hbl).trans a0
        replace a1 := (hw2.cell (p := ⟨b, _, none⟩) hbl).trans a1
        replace a2 := (hw2.cell (p := ⟨b, _, none⟩) hbl).trans a2
        replace hbl := Nat.lt_of_lt_of_le hbl hw2.size
        replace hB := Below.call hB hB.size hw2
        clear hw2 SP
        go_wp2_with fail
        refine (SZ _).mono ?_
        rintro e w3 ⟨rfl, hw3⟩
        replace a0 := (hw3.cell (p := ⟨b, _, none⟩) hbl).trans a0
        replace a1 := (hw3.cell (p := ⟨b, _, none⟩) hbl).trans a1
        replace a2 := (hw3.cell (p := ⟨b, _, none⟩) hbl).trans a2
        replace hbl := Nat.lt_of_lt_of_le hbl hw3.size
        replace hB := Below.call hB hB.size hw3
        clear hw3 SZ
        go_wp2_with fail
        refine (IS _).mono ?_
        rintro e w4 ⟨rfl, hw4⟩
        replace a0 := (hw4.cell (p := ⟨b, _, none⟩) hbl).trans a0
        replace a1 := (hw4.cell (p := ⟨b, _, none⟩) hbl).trans a1
        replace a2 := (hw4.cell (p := ⟨b, _, none⟩) hbl).trans a2
        replace hB := Below.call hB hB.size hw4
        clear hw4 IS hbl
        go_wp2_with fail
        go_roundw
        case rel => exact ⟨i + 1, by omega, by go_num, hB⟩
        case measure => simp [intOf]; omega
    · obtain rfl : i = n := by omega
      clear E hi1
      go_wp2_with fail
      refine (scripted_any _).mono ?_
      rintro e w2 ⟨rfl, hw2⟩
      replace hB1 := hB1.trans ((Below.call hB hB.size hw2).mono hB1.size)
      go_wp2_with fail
      go_ret
      exact ⟨rfl, hB1⟩
theorem total_no (m : Int) (s : ByteArray) (hs : 2000 < s.size) (w : World) : Calls Try.prog 4 #[.int .i64 m, .string s] w fun e w' => e = .returned (.bool true) ∧ Below w.heap.size w w' := by
  have hs2 : (2000 : Int) < s.size := by omega
  go_enter Try.func4, Try.ntmps4
  go_wp2
  go_ret
  exact ⟨rfl, Below.refl _ _⟩
theorem walk_total (m : Int) (s : ByteArray) (m0 : -9223372036854775808 ≤ m) (m1 : m ≤ 9223372036854775807) (hs : s.size ≤ maxLen) (w : World) : Calls Try.prog 4 #[.int .i64 m, .string s] w fun e w' => e = .returned (.bool true) ∧ Below w.heap.size w w' := by
  by_cases h : s.size ≤ 2000
  · exact total_yes m s h w
  · exact total_no m s (by omega) w
end Go.Proofs.Ytmiljpfljnjkpaa
namespace Go.Proofs.Ytmiljpfljnjkpaa.scriptTotal
open Go.ChangeShapes Go.WideShapes Go.ChangeAt Go.RowKit Go.Joins
set_option linter.unusedVariables false

theorem own : ownKnob Try.prog.godebug = none := by kernel_rfl
theorem laidOut : laidOutB Try.prog = true := by kernel_rfl
theorem word_of {x : Int} (h : (Lit.int .u64 x).wf = true) : 0 ≤ x ∧ x ≤ 18446744073709551615 := by
  simp [Lit.wf, IntKind.min, IntKind.max, IntKind.signed, IntKind.bits] at h
  exact ⟨by omega, by omega⟩
theorem int_of {x : Int} (h : (Lit.int .i64 x).wf = true) : -9223372036854775808 ≤ x ∧ x ≤ 9223372036854775807 := by
  simp [Lit.wf, IntKind.min, IntKind.max, IntKind.signed, IntKind.bits] at h
  exact ⟨by omega, by omega⟩

set_option maxRecDepth 100000 in
theorem lifted (os : Os) (started : os.Started) (H : Type) (enc : TypeId × Value → H) :
    ReturnsInHanded {} Try.checked os 4 .any (Rows.scriptTotalSpec.pre6 enc Try.prog Try.f4 Rows.scriptTotalRow.domain false) (Rows.scriptTotalSpec.post enc Try.prog Try.f4 false true false false) := by
  refine returnsInHanded_of_change (C := Try.checked) own started (by kernel_rfl) Try.func4
    (ChangeSpec.witness6 (enc := enc) (C := Try.checked) false ⟨#[], #[.int .i64 0, .string ⟨#[]⟩], []⟩ 8 (by kernel_rfl) (by kernel_rfl) (by kernel_rfl) (by kernel_rfl)) ?_
  intro W base args ds gs before hval0 hW hcnd _
  have hval : ∀ (j : Nat) t v, Try.f4.params[j]? = some t → args[j]? = some v → Value.okWide Try.prog W .any base t v := hval0
  have hW' := hW
  obtain ⟨p, q, hA0, hV, rfl, hfz, hnd⟩ := hW
  have hA : DataW.TrodAll enc Try.prog W 0 (fun _ => true) true Try.f4.params.toList args.toList ds p := hA0
  rw [Try.params4] at hA hval
  obtain ⟨v0, vs0, d0, ds0, p0, q0, hargs, rfl, rfl, h0, r0⟩ := trodAll_cons hA
  obtain ⟨v1, vs1, d1, ds1, p1, q1, rfl, rfl, rfl, h1, r1⟩ := trodAll_cons r0
  obtain ⟨rfl, rfl, rfl⟩ := trodAll_nil r1
  obtain rfl : args = #[v0, v1] := by cases args; simp_all
  obtain ⟨rfl, rfl⟩ := trodVars_none hV
  obtain ⟨a0, rfl, rfl, rfl, w0⟩ := open_int Try.underlying3 (hval 0 3 v0 rfl rfl) h0
  obtain ⟨s_1, rfl, rfl, rfl, hs_1⟩ := Go.ChangeMaps.open_string Try.underlying9 (hval 1 9 v1 rfl rfl) h1
  clear hA0 hval0
  refine (walk_total a0 s_1 (int_of w0).1 (int_of w0).2 hs_1 W).mono fun e W' ⟨he, bel⟩ => ?_
  subst he
  exact ⟨_, rfl, _, _, _, [], _, [], hW', trodAll_mk1 (shut_bool Try.underlying4 _), (trodAll_cons_mk (shut_int Try.underlying3 w0) (trodAll_cons_mk (Go.ChangeMaps.shut_string Try.underlying9 hs_1) trodAll_mk0)), rfl, bel.frame _, fun h => by cases h⟩

theorem over : Rows.scriptTotalRow.holds Try.pinned (OpenSpec.ofChange Rows.scriptTotalSpec) :=
  OpenClaim.holds_of_wide 4 Try.f4 rfl rfl rfl rfl rfl rfl rfl ⟨rfl, rfl, rfl, rfl, rfl⟩ rfl rfl rfl rfl rfl (by kernel_rfl) Try.func4 (by kernel_rfl)
    (of_decide_eq_true (by kernel_rfl)) (by unfold Func.isWrapper; first | (rw [if_pos (by decide +kernel)]; kernel_rfl) | (rw [if_neg (by decide +kernel)]; exact ⟨rfl, rfl⟩))
    (fun os started H enc _ => lifted os started H enc)
theorem proved : Rows.ScriptTotalSaid := over
#print axioms proved
end Go.Proofs.Ytmiljpfljnjkpaa.scriptTotal
