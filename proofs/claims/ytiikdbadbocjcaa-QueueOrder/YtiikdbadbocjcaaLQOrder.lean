/-
  QueueOrder: for any room, rate and row what comes first leaves first, as much behind the one ahead, and behind its coming, as it needs by itself, and nothing waits longer than a full room needs. No conditions.
-/
import Derived.Test.YtiikdbadbocjcaaMD
import Derived.Test.YtiikdbadbocjcaaMO
import Derived.Deep.CutBlock
import Derived.Test.YtiikdbadbocjcaaRows
import Derived.WalkKit
import Derived.ProofKit
import Derived.OpenShut
import Derived.ChangeOld
import Derived.Below
import Derived.Lib.SmallJoins
namespace Go.Proofs.Ytiikdbadbocjcaa
open Go.RowKit
set_option linter.unusedVariables false
attribute [local go_sem] Later.cell Later.frozen
set_option maxHeartbeats 4000000 in
set_option maxRecDepth 100000 in
theorem order_skip0 (m r : Int) (ao : Option Addr) (n c : Nat) (Z : Nat → Ld) (hn : 80 < n) (w : World) :
    Calls Try.prog 4 #[.int .i64 m, .int .i64 r, .slice ao n c] w fun e w' => e = .returned (.bool true) ∧ Below w.heap.size w w' := by
  go_enter Try.func4, Try.ntmps4
  go_wp2_with fail
  refine (small_no ao n c hn _).mono ?_
  rintro e w1 ⟨rfl, hw1⟩; subst w1
  go_wp2_with fail
  refine (queued_any _).mono ?_
  rintro e w2 ⟨rfl, hw2⟩
  have hb := Below.call (Below.refl _ _) (Nat.le_refl _) hw2
  go_wp2
  go_ret
  exact ⟨rfl, hb⟩
set_option maxHeartbeats 4000000 in
set_option maxRecDepth 100000 in
theorem order_skip1 (m r : Int) (ao : Option Addr) (n c : Nat) (Z : Nat → Ld) (hn : n ≤ 80)  (c' : m < 1) (w : World) :
    Calls Try.prog 4 #[.int .i64 m, .int .i64 r, .slice ao n c] w fun e w' => e = .returned (.bool true) ∧ Below w.heap.size w w' := by
  go_enter Try.func4, Try.ntmps4
  go_wp2_with fail
  refine (small_yes ao n c hn _).mono ?_
  rintro e w1 ⟨rfl, hw1⟩; subst w1
  go_wp2_with fail
  refine (queued_any _).mono ?_
  rintro e w2 ⟨rfl, hw2⟩
  have hb := Below.call (Below.refl _ _) (Nat.le_refl _) hw2
  go_wp2
  go_ret
  exact ⟨rfl, hb⟩
set_option maxHeartbeats 4000000 in
set_option maxRecDepth 100000 in
theorem order_skip2 (m r : Int) (ao : Option Addr) (n c : Nat) (Z : Nat → Ld) (hn : n ≤ 80) (e0 : 1 ≤ m) (c' : 1073741824 < m) (w : World) :
    Calls Try.prog 4 #[.int .i64 m, .int .i64 r, .slice ao n c] w fun e w' => e = .returned (.bool true) ∧ Below w.heap.size w w' := by
  have d0 : decide (m < 1) = false := decide_eq_false (by omega)
  go_enter Try.func4, Try.ntmps4
  go_wp2_with fail
  refine (small_yes ao n c hn _).mono ?_
  rintro e w1 ⟨rfl, hw1⟩; subst w1
  go_wp2_with fail
  refine (queued_any _).mono ?_
  rintro e w2 ⟨rfl, hw2⟩
  have hb := Below.call (Below.refl _ _) (Nat.le_refl _) hw2
  go_wp2
  go_ret
  exact ⟨rfl, hb⟩
set_option maxHeartbeats 4000000 in
set_option maxRecDepth 100000 in
theorem order_skip3 (m r : Int) (ao : Option Addr) (n c : Nat) (Z : Nat → Ld) (hn : n ≤ 80) (e0 : 1 ≤ m) (e1 : m ≤ 1073741824) (c' : r < 1) (w : World) :
    Calls Try.prog 4 #[.int .i64 m, .int .i64 r, .slice ao n c] w fun e w' => e = .returned (.bool true) ∧ Below w.heap.size w w' := by
  have d0 : decide (m < 1) = false := decide_eq_false (by omega)
  have d1 : decide (1073741824 < m) = false := decide_eq_false (by omega)
  go_enter Try.func4, Try.ntmps4
  go_wp2_with fail
  refine (small_yes ao n c hn _).mono ?_
  rintro e w1 ⟨rfl, hw1⟩; subst w1
  go_wp2_with fail
  refine (queued_any _).mono ?_
  rintro e w2 ⟨rfl, hw2⟩
  have hb := Below.call (Below.refl _ _) (Nat.le_refl _) hw2
  go_wp2
  go_ret
  exact ⟨rfl, hb⟩
set_option maxHeartbeats 4000000 in
set_option maxRecDepth 100000 in
theorem order_skip4 (m r : Int) (ao : Option Addr) (n c : Nat) (Z : Nat → Ld) (hn : n ≤ 80) (e0 : 1 ≤ m) (e1 : m ≤ 1073741824) (e2 : 1 ≤ r) (c' : 1000000000 < r) (w : World) :
    Calls Try.prog 4 #[.int .i64 m, .int .i64 r, .slice ao n c] w fun e w' => e = .returned (.bool true) ∧ Below w.heap.size w w' := by
  have d0 : decide (m < 1) = false := decide_eq_false (by omega)
  have d1 : decide (1073741824 < m) = false := decide_eq_false (by omega)
  have d2 : decide (r < 1) = false := decide_eq_false (by omega)
  go_enter Try.func4, Try.ntmps4
  go_wp2_with fail
  refine (small_yes ao n c hn _).mono ?_
  rintro e w1 ⟨rfl, hw1⟩; subst w1
  go_wp2_with fail
  refine (queued_any _).mono ?_
  rintro e w2 ⟨rfl, hw2⟩
  have hb := Below.call (Below.refl _ _) (Nat.le_refl _) hw2
  go_wp2
  go_ret
  exact ⟨rfl, hb⟩
set_option maxHeartbeats 4000000 in
set_option maxRecDepth 100000 in
theorem order_main (m r : Int) (ao : Option Addr) (n c : Nat) (Z : Nat → Ld) (hn : n ≤ 80) (e0 : 1 ≤ m) (e1 : m ≤ 1073741824) (e2 : 1 ≤ r) (e3 : r ≤ 1000000000) (w : World) (hz : Lds w ao n c Z) :
    Calls Try.prog 4 #[.int .i64 m, .int .i64 r, .slice ao n c] w fun e w' => e = .returned (.bool true) ∧ Below w.heap.size w w' := by
  have d0 : decide (m < 1) = false := decide_eq_false (by omega)
  have d1 : decide (1073741824 < m) = false := decide_eq_false (by omega)
  have d2 : decide (r < 1) = false := decide_eq_false (by omega)
  have d3 : decide (1000000000 < r) = false := decide_eq_false (by omega)
  have RW := fun w h => row_some m r ao n c Z (wi_iff.2 ⟨e0, e1⟩) hn w h
  have hcap := hz.cap; have hmax := hz.max
  have hmx : maxLen = 9223372036854775807 := rfl
  have hr0 : ¬ r = 0 := by omega
  obtain ⟨md, hmd⟩ : ∃ md, m * 1000000 / r = md := ⟨_, rfl⟩
  have hmt : (m * 1000000).tdiv r = md := by rw [← hmd]; exact Int.tdiv_eq_ediv_of_nonneg (by omega)
  have hm0 : 0 ≤ md := by rw [← hmd]; exact Int.ediv_nonneg (by omega) (by omega)
  have hm1 : md ≤ m * 1000000 := by rw [← hmd]; exact Int.ediv_le_self _ (by omega)
  go_enter Try.func4, Try.ntmps4
  go_wp2_with fail
  refine (small_yes ao n c hn _).mono ?_
  rintro e w1 ⟨rfl, hw1⟩; subst w1
  go_wp2_with fail
  refine (RW _ hz).mono ?_
  rintro e w2 ⟨⟨ao2, c2, rfl, own⟩, hb⟩
  have FT : Fates w2 ao2 n c2 (fun i => (fl m r Z i, fx m r Z i)) := Fates.own own (fun i hi => fts_get m r Z hi)
  clear own RW d0 d1 d2 d3
  have hcap2 := FT.cap; have hmax2 := FT.max
  have hs := hb.size
  have hz2 := hz.below hb
  go_wp2_with fail
  go_loopw [9, 10] (fun v9 v10 wr => ∃ i : Nat, i ≤ n ∧ v9 = .int .i64 (ls m r Z i) ∧ v10 = .int .i64 i ∧ Fates wr ao2 n c2 (fun i => (fl m r Z i, fx m r Z i)) ∧ Lds wr ao n c Z ∧ Below w.heap.size w wr) (fun _ v10 _ => n - (intOf v10).toNat)
  case atStart => exact ⟨0, Nat.zero_le _, by rw [ls_0 e2], rfl, FT.below (by go_grown), hz2.below (by go_grown), by go_grown⟩
  case round =>
    clear FT hz2 hb hs hz
    obtain ⟨i, hi, rfl, rfl, FT, LD, hB⟩ := hrel
    obtain ⟨l0, l1⟩ := ls_bd (m := m) (Z := Z) e2 i
    by_cases hin : i < n
    · obtain ⟨b1, rfl, k1, hc1⟩ := FT.at' (by omega)
      obtain ⟨b2, o2, rfl, k2, hc2⟩ := LD.at' (by omega)
      obtain ⟨p0, p1⟩ := hc1 i hin
      obtain ⟨q0, q1⟩ := hc2 i hin
      replace p0 : _ = some (Value.int .i64 (fl m r Z i)) := p0
      replace p1 : _ = some (Value.bool (fx m r Z i)) := p1
      clear hc1 hc2
      by_cases hE : fe m r Z i = 0
      · have hX : fx m r Z i = false := by unfold fx; rw [hE]; rfl
        obtain ⟨s1, s2, s3, s4⟩ := order_step hE
        obtain ⟨⟨t0, t1⟩, ⟨z0, z1⟩⟩ := q_took' hE
        obtain ⟨f0, f1⟩ := fl_bd (m := m) (r := r) (Z := Z) i
        have HN : Hid (ls m r Z (i + 1) = fl m r Z i) := ls_yes hE
        rw [hmd] at s3
        obtain ⟨nd, hnd⟩ : ∃ nd, (Z i).s * 1000000 / r = nd := ⟨_, rfl⟩
        rw [hnd] at s1 s2 s4
        have hnt : ((Z i).s * 1000000).tdiv r = nd := by rw [← hnd]; exact Int.tdiv_eq_ediv_of_nonneg (by omega)
        have n0 : 0 ≤ nd := by rw [← hnd]; exact Int.ediv_nonneg (by omega) (by omega)
        have n1 : nd ≤ (Z i).s * 1000000 := by rw [← hnd]; exact Int.ediv_le_self _ (by omega)
        rw [hX] at p1
        clear hE hX hmd hnd
        generalize fl m r Z i = F at *
        generalize ls m r Z i = last at *
        generalize (Z i).a = t at *
        generalize (Z i).s = s at *
        have g1 : decide (F < last + nd) = false := decide_eq_false (by omega)
        have g2 : decide (F - t < nd) = false := decide_eq_false (by omega)
        have g3 : decide (md + 1 < F - t) = false := decide_eq_false (by omega)
        have hne : Nonempty (Later wr) := Later.ne wr
        go_wp2_with fail
        refine wp_region_later (by kernel_rfl) (by kernel_rfl) ?_
        try dsimp only [List.append]
        repeat (go_big_quiet_step (fail))
        refine wpQuiet_nil ?_
        rintro w5 ⟨⟨_, hw5⟩, rfl⟩
        replace p0 := (hw5.cell (p := ⟨b1, _, none⟩) k1).trans p0
        replace q0 := (hw5.cell (p := ⟨b2, _, none⟩) k2).trans q0
        replace FT := FT.below hw5
        replace LD := LD.below hw5
        replace hB := hB.trans (hw5.mono hB.size)
        have k1' := Nat.lt_of_lt_of_le k1 hw5.size
        have k2' := Nat.lt_of_lt_of_le k2 hw5.size
        clear hw5 hne p1 q1 k1 k2
        have hne : Nonempty (Later w5) := Later.ne w5
        by_cases hl : last ≤ t
        · have g4 : decide (nd + 1 < F - t) = false := decide_eq_false (by have := s4 hl; omega)
          go_wp2_with fail
          refine wp_region_later (by kernel_rfl) (by kernel_rfl) ?_
          try dsimp only [List.append]
          repeat (go_big_quiet_step (fail))
          refine wpQuiet_nil ?_
          rintro w6 ⟨⟨_, hw6⟩, rfl⟩
          replace p0 := (hw6.cell (p := ⟨b1, _, none⟩) k1').trans p0
          go_wp2_with fail
          exact ⟨⟨i + 1, by omega, by rw [HN.out], by simp, FT.below hw6, LD.below hw6, hB.trans (hw6.mono hB.size)⟩, by simp only [intOf]; omega⟩
        · have g4 : decide (last ≤ t) = false := decide_eq_false hl
          go_wp2_with fail
          refine wp_region_later (by kernel_rfl) (by kernel_rfl) ?_
          try dsimp only [List.append]
          repeat (go_big_quiet_step (fail))
          refine wpQuiet_nil ?_
          rintro w6 ⟨⟨_, hw6⟩, rfl⟩
          replace p0 := (hw6.cell (p := ⟨b1, _, none⟩) k1').trans p0
          go_wp2_with fail
          exact ⟨⟨i + 1, by omega, by rw [HN.out], by simp, FT.below hw6, LD.below hw6, hB.trans (hw6.mono hB.size)⟩, by simp only [intOf]; omega⟩
      · have hX : fx m r Z i = true := by unfold fx; simp [hE]
        have HN : Hid (ls m r Z (i + 1) = ls m r Z i) := ls_no hE
        rw [hX] at p1
        rw [fl_no hE] at p0
        clear hE hX
        generalize ls m r Z i = last at *
        go_wp2_with fail
        exact ⟨⟨i + 1, by omega, by rw [HN.out], by simp, FT, LD, hB⟩, by simp only [intOf]; omega⟩
    · go_wp2_with fail
      refine (queued_any _).mono ?_
      rintro e w3 ⟨rfl, hw3⟩
      have hb3 := Below.call hB hB.size hw3
      go_wp2
      go_ret
      exact ⟨rfl, hb3⟩
theorem walk_order (m r : Int) (ao : Option Addr) (n c : Nat) (Z : Nat → Ld) (m_0 : -9223372036854775808 ≤ m) (m_1 : m ≤ 9223372036854775807) (r_0 : -9223372036854775808 ≤ r) (r_1 : r ≤ 9223372036854775807) (w : World) (hz : Lds w ao n c Z) :
    Calls Try.prog 4 #[.int .i64 m, .int .i64 r, .slice ao n c] w fun e w' => e = .returned (.bool true) ∧ Below w.heap.size w w' := by
  rcases Nat.lt_or_ge 80 n with hn | hn
  · exact order_skip0 m r ao n c Z hn w
  · rcases Int.lt_or_le m 1 with c' | e0
    · exact order_skip1 m r ao n c Z hn  c' w
    · rcases Int.lt_or_le 1073741824 m with c' | e1
      · exact order_skip2 m r ao n c Z hn e0 c' w
      · rcases Int.lt_or_le r 1 with c' | e2
        · exact order_skip3 m r ao n c Z hn e0 e1 c' w
        · rcases Int.lt_or_le 1000000000 r with c' | e3
          · exact order_skip4 m r ao n c Z hn e0 e1 e2 c' w
          · exact order_main m r ao n c Z hn e0 e1 e2 e3 w hz
end Go.Proofs.Ytiikdbadbocjcaa
namespace Go.Proofs.Ytiikdbadbocjcaa.queueOrder
open Go.ChangeShapes Go.WideShapes Go.ChangeAt Go.RowKit Go.Joins
set_option linter.unusedVariables false

theorem own : ownKnob Try.prog.godebug = none := by kernel_rfl
theorem laidOut : laidOutB Try.prog = true := by kernel_rfl
theorem word_of {x : Int} (h : (Lit.int .u64 x).wf = true) : 0 ≤ x ∧ x ≤ 18446744073709551615 := by
  simp [Lit.wf, IntKind.min, IntKind.max, IntKind.signed, IntKind.bits] at h
  exact ⟨by omega, by omega⟩
theorem int_of {x : Int} (h : (Lit.int .i64 x).wf = true) : -9223372036854775808 ≤ x ∧ x ≤ 9223372036854775807 := by
  simp [Lit.wf, IntKind.min, IntKind.max, IntKind.signed, IntKind.bits] at h
  exact ⟨by omega, by omega⟩

set_option maxRecDepth 100000 in
theorem lifted (os : Os) (started : os.Started) (H : Type) (enc : TypeId × Value → H) :
    ReturnsInHanded {} Try.checked os 4 .any (Rows.queueOrderSpec.pre6 enc Try.prog Try.f4 Rows.queueOrderRow.domain false) (Rows.queueOrderSpec.post enc Try.prog Try.f4 false true false false) := by
  refine returnsInHanded_of_change (C := Try.checked) own started (by kernel_rfl) Try.func4
    (ChangeSpec.witness6 (enc := enc) (C := Try.checked) false ⟨#[], #[.int .i64 0, .int .i64 0, .slice none 0 0], []⟩ 8 (by kernel_rfl) (by kernel_rfl) (by kernel_rfl) (by kernel_rfl)) ?_
  intro W base args ds gs before hval0 hW hcnd _
  have hval : ∀ (j : Nat) t v, Try.f4.params[j]? = some t → args[j]? = some v → Value.okWide Try.prog W .any base t v := hval0
  have hW' := hW
  obtain ⟨p, q, hA0, hV, rfl, hfz, hnd⟩ := hW
  have hA : DataW.TrodAll enc Try.prog W 0 (fun _ => true) true Try.f4.params.toList args.toList ds p := hA0
  rw [Try.params4] at hA hval
  obtain ⟨v0, vs0, d0, ds0, p0, q0, hargs, rfl, rfl, h0, r0⟩ := trodAll_cons hA
  obtain ⟨v1, vs1, d1, ds1, p1, q1, rfl, rfl, rfl, h1, r1⟩ := trodAll_cons r0
  obtain ⟨v2, vs2, d2, ds2, p2, q2, rfl, rfl, rfl, h2, r2⟩ := trodAll_cons r1
  obtain ⟨rfl, rfl, rfl⟩ := trodAll_nil r2
  obtain rfl : args = #[v0, v1, v2] := by cases args; simp_all
  obtain ⟨rfl, rfl⟩ := trodVars_none hV
  obtain ⟨a0, rfl, rfl, rfl, w0⟩ := open_int Try.underlying3 (hval 0 3 v0 rfl rfl) h0
  obtain ⟨a1, rfl, rfl, rfl, w1⟩ := open_int Try.underlying3 (hval 1 3 v1 rfl rfl) h1
  have k2 := h2
  have lt2 : ∀ x ∈ p2, x.block < W.heap.size := by obtain ⟨m, hm⟩ := k2; exact DataW.trod_lt m _ _ _ hm
  obtain ⟨ao_2, n_2, c_2, Z_2, rfl, hz2⟩ := open_loads (hval 2 26 v2 rfl rfl) h2
  clear hA0 hval0
  refine (walk_order a0 a1 ao_2 n_2 c_2 Z_2 (int_of w0).1 (int_of w0).2 (int_of w1).1 (int_of w1).2 W hz2).mono fun e W' ⟨he, bel⟩ => ?_
  subst he
  exact ⟨_, rfl, _, _, _, [], _, [], hW', trodAll_mk1 (shut_bool Try.underlying4 _), (trodAll_cons_mk (shut_int Try.underlying3 w0) (trodAll_cons_mk (shut_int Try.underlying3 w1) (trodAll_cons_mk (Below.trod laidOut (by kernel_rfl) (of_decide_eq_true (by kernel_rfl)) k2 bel lt2) trodAll_mk0))), rfl, bel.frame _, fun h => by cases h⟩

theorem over : Rows.queueOrderRow.holds Try.pinned (OpenSpec.ofChange Rows.queueOrderSpec) :=
  OpenClaim.holds_of_wide 4 Try.f4 rfl rfl rfl rfl rfl rfl rfl ⟨rfl, rfl, rfl, rfl, rfl⟩ rfl rfl rfl rfl rfl (by kernel_rfl) Try.func4 (by kernel_rfl)
    (of_decide_eq_true (by kernel_rfl)) (by unfold Func.isWrapper; first | (rw [if_pos (by decide +kernel)]; kernel_rfl) | (rw [if_neg (by decide +kernel)]; exact ⟨rfl, rfl⟩))
    (fun os started H enc _ => lifted os started H enc)
theorem proved : Rows.QueueOrderSaid := over
#print axioms proved
end Go.Proofs.Ytiikdbadbocjcaa.queueOrder
