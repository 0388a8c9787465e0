/-
  WideBits: for any number and count a number has as many bits as it is shifted to be none; shifted to the left and back it is the same, if none is lost. No conditions.
-/
import Derived.Test.YtopmfjjiakmleaaE1
import Derived.Test.YtopmfjjiakmleaaC5
import Derived.Test.YtopmfjjiakmleaaA5
import Derived.Test.YtopmfjjiakmleaaRows
import Derived.WalkKit
import Derived.ProofKit
import Derived.OpenShut
import Derived.ChangeOld
import Derived.Below
import Derived.Lib.SmallJoins
namespace Go.Proofs.Ytopmfjjiakmleaa
open Go.RowKit
set_option linter.unusedVariables false
attribute [local go_sem] Later.cell Later.frozen

theorem right_l (a l : Int) (ha : W128 a) (hl : lenv a = l) (w : World) : Calls Try.prog 22 #[.agg #[.int .u64 (hiw a), .int .u64 (low a)], .int .i64 l] w fun e w' => e = .returned (.agg #[.int .u64 0, .int .u64 0]) ∧ Below w.heap.size w w' := by
  have b := lenv_bd ha
  have := right_any a l ha (by omega) w
  rw [← hl, right_len ha] at this
  rw [← hl]
  exact this
theorem right_l1 (a l m : Int) (ha : W128 a) (hl : lenv a = l) (hp : 0 < l) (hm : m = l - 1) (w : World) : Calls Try.prog 22 #[.agg #[.int .u64 (hiw a), .int .u64 (low a)], .int .i64 m] w fun e w' => e = .returned (.agg #[.int .u64 0, .int .u64 1]) ∧ Below w.heap.size w w' := by
  subst hm
  have b := lenv_bd ha
  have := right_any a (l - 1) ha (by omega) w
  rw [← hl, right_len1 ha (by omega)] at this
  rw [← hl]
  exact this
theorem left_1 (a : Int) (ha : W128 a) (w : World) : Calls Try.prog 20 #[.agg #[.int .u64 (hiw a), .int .u64 (low a)], .int .i64 1] w fun e w' => e = .returned (.agg #[.int .u64 (hiw (addv a a)), .int .u64 (low (addv a a))]) ∧ Below w.heap.size w w' := by
  have := left_any a 1 ha (by omega) w
  rwa [left_one] at this
theorem left_neg (a n : Int) (ha : W128 a) (hn : n < 0) (w : World) : Calls Try.prog 20 #[.agg #[.int .u64 (hiw a), .int .u64 (low a)], .int .i64 n] w fun e w' => e = .returned (.agg #[.int .u64 (hiw a), .int .u64 (low a)]) ∧ Below w.heap.size w w' := by
  have := left_any a n ha (by omega) w
  have e : leftv a n = a := by unfold leftv; rw [if_pos hn]
  rwa [e] at this
theorem left_over (a n : Int) (ha : W128 a) (hn : 127 < n) (hn1 : n ≤ 9223372036854775807) (w : World) : Calls Try.prog 20 #[.agg #[.int .u64 (hiw a), .int .u64 (low a)], .int .i64 n] w fun e w' => e = .returned (.agg #[.int .u64 0, .int .u64 0]) ∧ Below w.heap.size w w' := by
  have := left_any a n ha hn1 w
  have e : leftv a n = 0 := by unfold leftv; rw [if_neg (by omega), if_pos hn]
  rw [e] at this
  exact this

set_option maxHeartbeats 4000000 in
set_option maxRecDepth 100000 in
theorem walk_bits (a n : Int) (ha : W128 a) (hn0 : -9223372036854775808 ≤ n) (hn1 : n ≤ 9223372036854775807) (w : World) : Calls Try.prog 8 #[.agg #[.int .u64 (hiw a), .int .u64 (low a)], .int .i64 n] w fun e w' => e = .returned (.bool true) ∧ Below w.heap.size w w' := by
  obtain ⟨l, hl⟩ : ∃ l, lenv a = l := ⟨_, rfl⟩
  have EL : Hid (lenv a = l) := hl
  obtain ⟨l0, l1⟩ := lenv_bd ha
  rw [hl] at l0 l1
  clear hl
  go_enter Try.func8, Try.ntmps8
  go_wp2_with fail
  refine (len_any a ha _).mono ?_
  rintro e w1 ⟨rfl, hw1⟩
  rw [EL.out]
  have A : At2 w1 w.heap.size (.int .u64 (hiw a)) (.int .u64 (low a)) := At2.below (by constructor <;> simp [go_sem]) hw1 (by simp)
  have hb : Below w.heap.size w w1 := Below.call (by go_grown) (by simp) hw1
  clear hw1
  go_upto_region 3 with fail
  refine wp_forget (fun W => At2 W w.heap.size (.int .u64 (hiw a)) (.int .u64 (low a)) ∧ At2 W w1.heap.size (.int .u64 0) (.int .u64 0) ∧ Below w.heap.size w W) ⟨A.alloc _, At2.fresh _ _ _ _, by have := hb.size; go_grown⟩ ?_
  rintro W ⟨A', N, hbW⟩
  clear A hb
  go_cut [37] (fun v37 wc => v37 = .bool false ∧ At2 wc w.heap.size (.int .u64 (hiw a)) (.int .u64 (low a)) ∧ At2 wc w1.heap.size (.int .u64 0) (.int .u64 0) ∧ Below w.heap.size w wc)
  case first =>
    obtain ⟨zA0, zA1, zA2, zA3, zA4⟩ := id A'
    obtain ⟨zN0, zN1, zN2, zN3, zN4⟩ := id N
    have hne : Nonempty (Later W) := Later.ne W
    have d1 : decide (l < 0) = false := decide_eq_false (by omega)
    have d2 : decide (128 < l) = false := decide_eq_false (by omega)
    by_cases hp : 0 < l
    · go_wp2_with fail
      refine wp_region_later (by kernel_rfl) (by kernel_rfl) ?_
      repeat (go_big_quiet_step (first | (go_at_call_of 22 (Value.int IntKind.i64 l); exact Later.call _ (right_l a l ha EL.out _)) | (go_at_call 22; refine Later.call _ (right_l1 a l _ ha EL.out hp ?_ _); omega)))
      refine wpQuiet_nil ?_
      rintro w2 ⟨⟨_, hw2⟩, rfl⟩
      go_wp2_with fail
      go_meet
      case rel => exact ⟨rfl, A'.below hw2 A'.lt, N.below hw2 N.lt, Below.call hbW hbW.size hw2⟩
    · have d3 : decide (0 < l) = false := decide_eq_false hp
      go_wp2_with fail
      refine wp_region_later (by kernel_rfl) (by kernel_rfl) ?_
      repeat (go_big_quiet_step ((go_at_call 22; exact Later.call _ (right_l a l ha EL.out _))))
      refine wpQuiet_nil ?_
      rintro w2 ⟨⟨_, hw2⟩, rfl⟩
      go_wp2_with fail
      go_meet
      case rel => exact ⟨rfl, A'.below hw2 A'.lt, N.below hw2 N.lt, Below.call hbW hbW.size hw2⟩
  case rest =>
    clear A' N hbW
    obtain ⟨rfl, A, N, hb⟩ := hcut
    obtain ⟨zA0, zA1, zA2, zA3, zA4⟩ := id A
    go_wp2_with fail
    refine (add_any a a ha ha _).mono ?_
    rintro e w3 ⟨rfl, hw3⟩
    replace A := A.below hw3 A.lt
    replace N := N.below hw3 N.lt
    replace hb := Below.call hb hb.size hw3
    clear hw3 zA0 zA1 zA2 zA3 zA4
    go_upto_region 6 with fail
    refine wp_forget (fun W => At2 W w.heap.size (.int .u64 (hiw a)) (.int .u64 (low a)) ∧ At2 W w1.heap.size (.int .u64 0) (.int .u64 0) ∧ At2 W w3.heap.size (.int .u64 (hiw (addv a a))) (.int .u64 (low (addv a a))) ∧ Below w.heap.size w W) ⟨A.alloc _, N.alloc _, At2.fresh _ _ _ _, by have := hb.size; go_grown⟩ ?_
    rintro W2 ⟨A', N', T, hb2⟩
    clear A N hb
    obtain ⟨zA0, zA1, zA2, zA3, zA4⟩ := id A'
    obtain ⟨zT0, zT1, zT2, zT3, zT4⟩ := id T
    have hne : Nonempty (Later W2) := Later.ne W2
    go_wp2_with fail
    refine wp_region_later (by kernel_rfl) (by kernel_rfl) ?_
    repeat (go_big_quiet_step ((go_at_call 20; exact Later.call _ (left_1 a ha _))))
    refine wpQuiet_nil ?_
    rintro w4 ⟨⟨_, hw4⟩, rfl⟩
    have A := A'.below hw4 A'.lt
    have N := N'.below hw4 N'.lt
    have hb := Below.call hb2 hb2.size hw4
    clear hw4 zA0 zA1 zA2 zA3 zA4 zT0 zT1 zT2 zT3 zT4 A' N' T hb2 hne
    obtain ⟨zA0, zA1, zA2, zA3, zA4⟩ := id A
    obtain ⟨zN0, zN1, zN2, zN3, zN4⟩ := id N
    have hne : Nonempty (Later w4) := Later.ne w4
    by_cases h1 : n < 0
    · go_wp2_with fail
      refine wp_region_later (by kernel_rfl) (by kernel_rfl) ?_
      repeat (go_big_quiet_step (first | (go_at_call 13; exact Later.call _ (broad_any _)) | (go_at_call 20; exact Later.call _ (left_neg a n ha h1 _))))
      refine wpQuiet_nil ?_
      rintro w5 ⟨⟨_, hw5⟩, rfl⟩
      go_wp2
      go_ret
      exact ⟨rfl, Below.call hb hb.size hw5⟩
    by_cases h2 : 127 < n
    · have d4 : decide (n < 0) = false := decide_eq_false h1
      go_wp2_with fail
      refine wp_region_later (by kernel_rfl) (by kernel_rfl) ?_
      repeat (go_big_quiet_step (first | (go_at_call 13; exact Later.call _ (broad_any _)) | (go_at_call 20; exact Later.call _ (left_over a n ha h2 hn1 _))))
      refine wpQuiet_nil ?_
      rintro w5 ⟨⟨_, hw5⟩, rfl⟩
      go_wp2
      go_ret
      exact ⟨rfl, Below.call hb hb.size hw5⟩
    · have KI : Hid ((rightv (leftv a n) n = a ∧ l ≤ 128 - n) ∨ (rightv (leftv a n) n ≠ a ∧ ¬ l ≤ 128 - n)) := by
        have := kept_iff ha (show 0 ≤ n by omega) (show n ≤ 127 by omega)
        rw [EL.out] at this; exact this
      have KL : Hid (cmpv (rightv (leftv a n) n) a ≤ 0) := kept_le ha (by omega) (by omega)
      have KW : W128 (rightv (leftv a n) n) := rightv_W (leftv_W ha n) n
      clear hne zN0 zN1 zN2 zN3 zN4
      go_wp2_with fail
      refine (left_any a n ha hn1 _).mono ?_
      rintro e w5 ⟨rfl, hw5⟩
      replace A := A.below hw5 A.lt
      replace hb := Below.call hb hb.size hw5
      clear hw5 zA0 zA1 zA2 zA3 zA4
      go_wp2_with fail
      refine (right_any (leftv a n) n (leftv_W ha n) hn1 _).mono ?_
      rintro e w6 ⟨rfl, hw6⟩
      replace A := A.below hw6 A.lt
      replace hb := Below.call hb hb.size hw6
      clear hw6
      obtain ⟨kk, HK⟩ : ∃ kk, Hid (rightv (leftv a n) n = kk) := ⟨_, rfl⟩
      rw [HK.out] at KW ⊢
      have KI2 : Hid ((kk = a ∧ l ≤ 128 - n) ∨ (kk ≠ a ∧ 128 - n < l)) := by
        have := KI.out; rw [HK.out] at this
        rcases this with ⟨u, v⟩ | ⟨u, v⟩
        · exact .inl ⟨u, v⟩
        · exact .inr ⟨u, by omega⟩
      have KL2 : cmpv kk a ≤ 0 := by have := KL.out; rw [HK.out] at this; exact this
      clear KI KL HK
      go_wp2_with fail
      refine (broad_any _).mono ?_
      rintro e w7 ⟨rfl, hw7⟩
      have K := At2.after_fresh' hw7
      replace A := (A.alloc _).below hw7 (by have := A.lt; simp <;> omega)
      have l6 := hb.size
      replace hb : Below w.heap.size w w7 := Below.call (show Below w.heap.size w _ by go_grown) (by simp <;> omega) hw7
      clear hw7
      obtain ⟨zA0, zA1, zA2, zA3, zA4⟩ := id A
      obtain ⟨zK0, zK1, zK2, zK3, zK4⟩ := id K
      rcases KI2.out with ⟨e1, e2⟩ | ⟨e1, e2⟩
      · subst e1
        go_wp2_with fail
        refine (cmp_any kk kk ha ha _).mono ?_
        rintro e w8 ⟨rfl, hw8⟩
        go_wp2
        go_ret
        exact ⟨rfl, Below.call hb hb.size hw8⟩
      · have hne : (hiw kk == hiw a) = false ∨ (low kk == low a) = false := by
          by_cases h : hiw kk = hiw a
          · right; simp; intro h2; exact e1 (hl_inj h h2)
          · left; simpa using h
        have d5 : decide (l ≤ 128 - n) = false := decide_eq_false (by omega)
        clear e1
        rcases hne with hne | hne
        all_goals
          go_wp2_with fail
          refine (cmp_any kk a KW ha _).mono ?_
          rintro e w8 ⟨rfl, hw8⟩
          go_wp2
          go_ret
          exact ⟨rfl, Below.call hb hb.size hw8⟩
end Go.Proofs.Ytopmfjjiakmleaa
namespace Go.Proofs.Ytopmfjjiakmleaa.wideBits
open Go.ChangeShapes Go.WideShapes Go.ChangeAt Go.RowKit Go.Joins
set_option linter.unusedVariables false

theorem own : ownKnob Try.prog.godebug = none := by kernel_rfl
theorem laidOut : laidOutB Try.prog = true := by kernel_rfl
theorem cells24 : Try.prog.cellsOf 24 = 2 := by kernel_rfl
theorem word_of {x : Int} (h : (Lit.int .u64 x).wf = true) : 0 ≤ x ∧ x ≤ 18446744073709551615 := by
  simp [Lit.wf, IntKind.min, IntKind.max, IntKind.signed, IntKind.bits] at h
  exact ⟨by omega, by omega⟩
theorem int_of {x : Int} (h : (Lit.int .i64 x).wf = true) : -9223372036854775808 ≤ x ∧ x ≤ 9223372036854775807 := by
  simp [Lit.wf, IntKind.min, IntKind.max, IntKind.signed, IntKind.bits] at h
  exact ⟨by omega, by omega⟩

set_option maxRecDepth 100000 in
theorem lifted (os : Os) (started : os.Started) (H : Type) (enc : TypeId × Value → H) :
    ReturnsInHanded {} Try.checked os 8 .any (Rows.wideBitsSpec.pre6 enc Try.prog Try.f8 Rows.wideBitsRow.domain false) (Rows.wideBitsSpec.post enc Try.prog Try.f8 false true false false) := by
  refine returnsInHanded_of_change (C := Try.checked) own started (by kernel_rfl) Try.func8
    (ChangeSpec.witness6 (enc := enc) (C := Try.checked) false ⟨#[], #[.agg #[.int .u64 0, .int .u64 0], .int .i64 0], []⟩ 8 (by kernel_rfl) (by kernel_rfl) (by kernel_rfl) (by kernel_rfl)) ?_
  intro W base args ds gs before hval0 hW hcnd _
  have hval : ∀ (j : Nat) t v, Try.f8.params[j]? = some t → args[j]? = some v → Value.okWide Try.prog W .any base t v := hval0
  have hW' := hW
  obtain ⟨p, q, hA0, hV, rfl, hfz, hnd⟩ := hW
  have hA : DataW.TrodAll enc Try.prog W 0 (fun _ => true) true Try.f8.params.toList args.toList ds p := hA0
  rw [Try.params8] at hA hval
  obtain ⟨v0, vs0, d0, ds0, p0, q0, hargs, rfl, rfl, h0, r0⟩ := trodAll_cons hA
  obtain ⟨v1, vs1, d1, ds1, p1, q1, rfl, rfl, rfl, h1, r1⟩ := trodAll_cons r0
  obtain ⟨rfl, rfl, rfl⟩ := trodAll_nil r1
  obtain rfl : args = #[v0, v1] := by cases args; simp_all
  obtain ⟨rfl, rfl⟩ := trodVars_none hV
  have k0 := h0
  have lt0 : ∀ x ∈ p0, x.block < W.heap.size := by obtain ⟨m, hm⟩ := k0; exact DataW.trod_lt m _ _ _ hm
  obtain ⟨c0a, c0b, y0a, y0b, m0, rfl, rfl, rfl, hy0a, hy0b⟩ := open_agg2 Try.underlying24 (by kernel_rfl) cells24 (hval 0 24 v0 rfl rfl) h0
  obtain ⟨x0a, e0a, rfl, w0a⟩ := DataW.trod_int Try.underlying22 hy0a
  obtain ⟨x0b, e0b, rfl, w0b⟩ := DataW.trod_int Try.underlying22 hy0b
  simp at e0a e0b
  subst e0a e0b
  obtain ⟨a0, W0, ra0, rb0⟩ := wide_of x0a x0b (word_of w0a).1 (word_of w0a).2 (word_of w0b).1 (word_of w0b).2
  subst ra0 rb0
  obtain ⟨a1, rfl, rfl, rfl, w1⟩ := open_int Try.underlying3 (hval 1 3 v1 rfl rfl) h1
  clear hA0 hval0
  refine (walk_bits a0 a1 W0 (int_of w1).1 (int_of w1).2 W).mono fun e W' ⟨he, bel⟩ => ?_
  subst he
  exact ⟨_, rfl, _, _, _, [], _, [], hW', trodAll_mk1 (shut_bool Try.underlying4 _), (trodAll_cons_mk (Below.trod laidOut (by kernel_rfl) (of_decide_eq_true (by kernel_rfl)) k0 bel lt0) (trodAll_cons_mk (shut_int Try.underlying3 w1) trodAll_mk0)), rfl, bel.frame _, fun h => by cases h⟩

theorem over : Rows.wideBitsRow.holds Try.pinned (OpenSpec.ofChange Rows.wideBitsSpec) :=
  OpenClaim.holds_of_wide 8 Try.f8 rfl rfl rfl rfl rfl rfl rfl ⟨rfl, rfl, rfl, rfl, rfl⟩ rfl rfl rfl rfl rfl (by kernel_rfl) Try.func8 (by kernel_rfl)
    (of_decide_eq_true (by kernel_rfl)) (by unfold Func.isWrapper; first | (rw [if_pos (by decide +kernel)]; kernel_rfl) | (rw [if_neg (by decide +kernel)]; exact ⟨rfl, rfl⟩))
    (fun os started H enc _ => lifted os started H enc)
theorem proved : Rows.WideBitsSaid := over
#print axioms proved
end Go.Proofs.Ytopmfjjiakmleaa.wideBits
