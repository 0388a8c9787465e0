/-
  AgendaTill: for any times and time just those events are told that are not behind it; to tell these, and then the others, is to tell all. No conditions.
-/
import Derived.Test.YtoonffglkadofaaGF
import Derived.Test.YtoonffglkadofaaGE
import Derived.Test.YtoonffglkadofaaGH
import Derived.Test.YtoonffglkadofaaGX
import Derived.Test.YtoonffglkadofaaRows
import Derived.WalkKit
import Derived.ProofKit
import Derived.OpenShut
import Derived.ChangeOld
import Derived.Below
import Derived.Lib.SmallJoins
namespace Go.Proofs.Ytoonffglkadofaa
open Go.RowKit
set_option linter.unusedVariables false
attribute [local go_sem] Later.cell Later.frozen
set_option maxHeartbeats 2000000 in
set_option maxRecDepth 100000 in
theorem till_no (t : Int) (ao : Option Addr) (n c : Nat) (hn : 200 < n ∨ n = 0) (w : World) : Calls Try.prog 5 #[.slice ao n c, .int .i64 t] w fun e w' => e = .returned (.bool true) ∧ Below w.heap.size w w' := by
  by_cases h0 : 200 < n
  · have h1 : (200 : Int) < n := by omega
    go_enter Try.func5, Try.ntmps5
    go_wp2_with fail
    refine (noted_any _).mono ?_
    rintro e w1 ⟨rfl, hB⟩
    go_wp2
    go_ret
    exact ⟨rfl, hB⟩
  · obtain rfl : n = 0 := by omega
    go_enter Try.func5, Try.ntmps5
    go_wp2_with fail
    refine (noted_any _).mono ?_
    rintro e w1 ⟨rfl, hB⟩
    go_wp2
    go_ret
    exact ⟨rfl, hB⟩
/-- The events of the law, by their places. -/
def tf (zs : List Int) (i : Nat) : Ev := ⟨zs.getD i 0, 0, 0, i⟩
set_option maxHeartbeats 2000000 in
set_option maxRecDepth 100000 in
theorem till_yes (t : Int) (to' : Option Addr) (n tc : Nat) (zs : List Int) (t0 : -9223372036854775808 ≤ t) (t1 : t ≤ 9223372036854775807) (h1 : 1 ≤ n) (h2 : n ≤ 200) (w : World) (hz : Row .i64 w to' n tc zs) : Calls Try.prog 5 #[.slice to' n tc, .int .i64 t] w fun e w' => e = .returned (.bool true) ∧ Below w.heap.size w w' := by
  have hn1 : ¬ (200 : Int) < n := by omega
  have hn2 : ¬ (n : Int) = 0 := by omega
  obtain ⟨zb, zo, rfl, hzc⟩ := hz.at' (by omega)
  have hzl : zb < w.heap.size := World.block_lt_of_cell? _ _ (hzc 0 (by omega))
  have hcap := hz.cap
  have hmax := hz.max
  have hmx : maxLen = 9223372036854775807 := rfl
  have hbd := hz.val
  clear hz
  go_enter Try.func5, Try.ntmps5
  go_wp2_with fail
  refine (new_yes 65536 (by omega) (by omega) _).mono ?_
  rintro e w1 ⟨rfl, hs1, A, hB⟩
  go_wp2_with fail
  go_loopw [7, 8] (fun v7 v8 wr => ∃ (i : Nat) (ao : Option Addr) (c : Nat) (L : List Ent), i ≤ n ∧ v8 = .int .i64 i ∧ v7 = .int .i64 (ct (er (tf zs) i) t : Nat) ∧ Ag wr w.heap.size (w.heap.size + 1) 65536 i (.slice ao i c) i L (er (tf zs) i) ∧ Below w.heap.size w wr) (fun _ v8 _ => n - (intOf v8).toNat)
  case atStart => exact ⟨0, none, 0, [], by omega, rfl, rfl, A, hB⟩
  case round =>
    obtain ⟨i, ao, c, L, hi, rfl, rfl, A, hB⟩ := hrel
    by_cases hin : i < n
    · have hi2 : (i : Int) < n := by omega
      have hT : Hid (((i + 1 : Nat) : Int) = (i : Int) + 1) := by show _ = _; omega
      have zc := (hB.cell (p := ⟨zb, zo + i, none⟩) hzl).trans (hzc i hin)
      have hbi := hbd i
      have hct : Hid ((ct (er (tf zs) (i + 1)) t : Nat) = ct (er (tf zs) i) t + if zs.getD i 0 ≤ t then 1 else 0) := ct_put (tf zs) i t
      have hcl : ct (er (tf zs) i) t ≤ 200 := by
        have := List.countP_le_length (p := fun x : Ent => decide (x.e.a ≤ t)) (l := er (tf zs) i)
        rw [er_len] at this
        unfold ct
        omega
      have hx : tf zs i = ⟨zs.getD i 0, 0, 0, i⟩ := rfl
      have PU := fun W A => put_room w.heap.size (w.heap.size + 1) 65536 i ao i c L (er (tf zs) i) (tf zs i) (by omega) (by omega) (by omega) (by omega) W A
      rw [hx] at PU
      have hR : er (tf zs) (i + 1) = er (tf zs) i ++ [⟨⟨zs.getD i 0, 0, 0, i⟩, i⟩] := rfl
      rw [← hR] at PU
      clear hx hR
      obtain ⟨z, hzz⟩ : ∃ z, Hid (zs.getD i 0 = z) := ⟨_, rfl⟩
      rw [hzz.out] at zc hbi hct PU
      generalize ct (er (tf zs) i) t = q at *
      generalize er (tf zs) i = R at *
      go_wp2_with fail
      refine (PU _ A).mono ?_
      rintro e w2 ⟨rfl, ao2, c2, L2, A2, _, F2⟩
      replace hB := A.step hB hB.size (Nat.le_refl _) F2
      have zc2 := (hB.cell (p := ⟨zb, zo + i, none⟩) hzl).trans (hzc i hin)
      replace A2 : Ag w2 w.heap.size (w.heap.size + 1) 65536 ((i + 1 : Nat) : Int) (.slice ao2 (i + 1) c2) (i + 1) L2 (er (tf zs) (i + 1)) := by rw [hT.out]; exact A2
      clear A F2 PU zc
      rw [hzz.out] at zc2
      clear hzz
      by_cases hzt : z ≤ t
      · rw [if_pos hzt] at hct
        go_wp2_with fail
        go_roundw
        case rel => exact ⟨i + 1, ao2, c2, L2, by omega, by go_num, by rw [hct.out]; go_num, A2, hB⟩
        case measure => simp [intOf]; omega
      · rw [if_neg hzt] at hct
        go_wp2_with fail
        go_roundw
        case rel => exact ⟨i + 1, ao2, c2, L2, by omega, by go_num, by rw [hct.out]; go_num, A2, hB⟩
        case measure => simp [intOf]; omega
    · obtain rfl : i = n := by omega
      have hRl : (er (tf zs) i).length = i := er_len _ _
      generalize er (tf zs) i = R at *
      go_wp2_with fail
      refine (all_any w.heap.size (w.heap.size + 1) 65536 i (.slice ao i c) i L R (by omega) _ A).mono ?_
      rintro e w2 ⟨⟨aa, ca, rfl, own⟩, hw2⟩
      obtain ⟨bs, hbs⟩ : ∃ bs, Hid (bs = wr.heap.size) := ⟨_, rfl⟩
      have hg : ∀ g, (Value.slice ao i c).ownBlock = some g → g < bs := fun g h => by rw [hbs.out]; exact (A.own.lt g h).2
      have hab : w.heap.size < bs := by rw [hbs.out]; exact A.lt
      have hbw : w.heap.size ≤ bs := by rw [hbs.out]; exact hB.size
      rw [← hbs.out] at own
      replace A := A.below hw2
      replace hB := Below.call hB hB.size hw2
      have hs2 : bs ≤ w2.heap.size := by rw [hbs.out]; exact hw2.size
      clear hw2 hbs
      obtain ⟨ag, rfl, _, _, hca, hcm⟩ := own_some own (by omega)
      have A0 : Ag w2 w.heap.size (w.heap.size + 1) 65536 i (.slice ao (i - 0) c) (i - 0) L (rm R 0) := A
      have hct0 : ct (rm R 0) t = ct R t := rfl
      clear A
      go_wp2_with fail
      go_loopw [10] (fun v10 wq => ∃ (k : Nat) (M : List Ent), k ≤ i ∧ v10 = .int .i64 k ∧ Hid (ct R t = k + ct (rm R k) t) ∧ Ag wq w.heap.size (w.heap.size + 1) 65536 i (.slice ao (i - k) c) (i - k) M (rm R k) ∧ wq.ownsRow bs 32 4 (.slice (some ⟨ag, 0, none⟩) i ca) i (ecs (te (es R) i)) ∧ Below w.heap.size w wq) (fun v10 _ => i + 1 - (intOf v10).toNat)
      case atStart => exact ⟨0, L, by omega, rfl, by show _ = _; rw [hct0]; omega, A0, own, hB⟩
      case round =>
        obtain ⟨k, M, hk, rfl, hct, A, own, hB⟩ := hrel
        clear A0 hct0
        have hki : (k : Int) ≤ i := by omega
        cases hx : nxb (es (rm R k)) t
        · have hz := ct_none R t (by omega) hx
          have NX := fun W A => next_no w.heap.size (w.heap.size + 1) 65536 i (.slice ao (i - k) c) (i - k) M (rm R k) t (by omega) hx W A
          go_wp2_with fail
          refine (NX _ A).mono ?_
          rintro e w3 ⟨rfl, hw3⟩
          replace A := (A.below hw3).alloc (.cells #[.int .i64 0, .int .i64 0, .int .i64 0, .int .u64 0] 32)
          replace own := (own_below own hw3).alloc (.cells #[.int .i64 0, .int .i64 0, .int .i64 0, .int .u64 0] 32)
          replace hB := Below.call hB hB.size hw3
          have hs3 := hB.size
          replace hB : Below w.heap.size w (w3.alloc (.cells #[.int .i64 0, .int .i64 0, .int .i64 0, .int .u64 0] 32)) := by go_grown
          have hq : (ct R t : Nat) = k := by rw [hct.out, hz]; omega
          clear NX hw3 hx hz hct
          generalize ct R t = q at *
          subst hq
          go_upto_region 21 with fail
          refine wp_forget (fun W => Ag W w.heap.size (w.heap.size + 1) 65536 i (.slice ao (i - q) c) (i - q) M (rm R q) ∧ W.ownsRow bs 32 4 (.slice (some ⟨ag, 0, none⟩) i ca) i (ecs (te (es R) i)) ∧ Below w.heap.size w W) ⟨A, own, hB⟩ ?_
          clear A own hB hs3
          rintro W ⟨A, own, hB⟩
          have E1 := (Evs.told own).drop' hk
          simp only [Nat.zero_add] at E1
          have AL := fun W A => all_any w.heap.size (w.heap.size + 1) 65536 i (.slice ao (i - q) c) (i - q) M (rm R q) (by omega) W A
          have AD := A.drew
          have ED := E1.below (Below.refl _ _).drew
          have hBD := hB.drew
          have hqc : (q : Int) ≤ ca := by omega
          clear own A E1 hB
          clear hzc hbd hzl hs1 hg hab hbw hRl hs2 hcap hmax
          by_cases hcq : ca = q
          · rw [if_pos hcq] at ED
            obtain rfl : i = q := by omega
            subst hcq
            rw [Nat.sub_self] at AD ED
            have AL := fun W A => all_any w.heap.size (w.heap.size + 1) 65536 ca (.slice ao 0 c) 0 M (rm R ca) (by omega) W A
            go_wp2_with fail
            go_region_held3 (fun w' => Below W.heap.size W w') (first | assumption | go_grown) (first
              | (go_at_call 16; refine (noted_any _).mono ?_; rintro e w5 ⟨rfl, hw5⟩; have A5 := AD.below hw5; have E5 := ED.below hw5; have hB5 := Below.call hBD hBD.size hw5; have g5 : Below W.heap.size W w5 := below_thru (Below.refl W.heap.size W).drew hw5)
              | (go_at_call 18; refine (AL _ A5).mono ?_; rintro e w6 ⟨⟨a6, c6, rfl, own6⟩, hw6⟩; have E6 := E5.below hw6; have hB6 := Below.call hB5 hB5.size hw6; have g6 := below_thru g5 hw6; have F6 := (Evs.told own6).congr (g := fun j => me (es R) (ca + j)) (fun j _ => by rw [rm_es]; exact me_add (es R) ca j))
              | (go_at_call 17; refine (same_any a6 _ 0 c6 _ _ _ F6 E6).mono ?_; rintro e w7 ⟨rfl, hw7⟩; have hB7 := Below.call hB6 hB6.size hw7; have g7 := below_thru g6 hw7))
            all_goals go_wp2_with fail
            all_goals go_ret
            all_goals exact ⟨rfl, hB7⟩
          · rw [if_neg hcq] at ED
            go_wp2_with fail
            go_region_held3 (fun w' => Below W.heap.size W w') (first | assumption | go_grown) (first
              | (go_at_call 16; refine (noted_any _).mono ?_; rintro e w5 ⟨rfl, hw5⟩; have A5 := AD.below hw5; have E5 := ED.below hw5; have hB5 := Below.call hBD hBD.size hw5; have g5 : Below W.heap.size W w5 := below_thru (Below.refl W.heap.size W).drew hw5)
              | (go_at_call 18; refine (AL _ A5).mono ?_; rintro e w6 ⟨⟨a6, c6, rfl, own6⟩, hw6⟩; have E6 := E5.below hw6; have hB6 := Below.call hB5 hB5.size hw6; have g6 := below_thru g5 hw6; have F6 := (Evs.told own6).congr (g := fun j => me (es R) (q + j)) (fun j _ => by rw [rm_es]; exact me_add (es R) q j))
              | (go_at_call 17; refine (same_any a6 _ (i - q) c6 _ _ _ F6 E6).mono ?_; rintro e w7 ⟨rfl, hw7⟩; have hB7 := Below.call hB6 hB6.size hw7; have g7 := below_thru g6 hw7))
            all_goals go_wp2_with fail
            all_goals go_ret
            all_goals exact ⟨rfl, hB7⟩
        · rw [nx_rm R t (by omega), Bool.and_eq_true, decide_eq_true_iff, decide_eq_true_iff, hRl] at hx
          obtain ⟨hki2, hme⟩ := hx
          have hnx : nxb (es (rm R k)) t = true := by rw [nx_rm R t (by omega), Bool.and_eq_true, decide_eq_true_iff, decide_eq_true_iff, hRl]; exact ⟨hki2, hme⟩
          have NX := fun W A => next_yes w.heap.size (w.heap.size + 1) 65536 i ao (i - k) c M (rm R k) t (by omega) hnx W A
          rw [rm_me] at NX
          have hct2 : Hid (ct R t = (k + 1 : Nat) + ct (rm R (k + 1)) t) := by
            have h1 := hct.out
            rw [ct_rm R t (by omega), if_pos hme] at h1
            show _ = _
            omega
          have hev : evp (te (es R) i) k = me (es R) k := te_evp _ hki2
          have hk1 : i - k - 1 = i - (k + 1) := by omega
          have hki3 : (k : Int) < i := by omega
          clear hnx hme hct
          obtain ⟨x, hxx⟩ : ∃ x, Hid (me (es R) k = x) := ⟨_, rfl⟩
          rw [hxx.out] at NX hev
          clear hxx
          go_wp2_with fail
          refine (NX _ A).mono ?_
          rintro e w3 ⟨rfl, M3, A3, F3⟩
          rw [hk1] at A3
          replace A3 : Ag w3 w.heap.size (w.heap.size + 1) 65536 i (.slice ao (i - (k + 1)) c) (i - (k + 1)) M3 (rm R (k + 1)) := A3
          have own3 := F3.own own (fun g hg' hm => by
            have h1 := (own.lt g hg').1
            rcases List.mem_cons.1 hm with e | hm
            · omega
            · have h2 := hg g (by have := mem_opt hm; rw [own_n ao _ _ i c] at this; exact this)
              omega)
          have hB3 := A.step hB hB.size (Nat.le_refl _) F3
          have hs3 := hB3.size
          replace A3 := A3.alloc (.cells #[.int .i64 x.a, .int .i64 x.k, .int .i64 x.o, .int .u64 x.s] 32)
          replace own3 := own3.alloc (.cells #[.int .i64 x.a, .int .i64 x.k, .int .i64 x.o, .int .u64 x.s] 32)
          have hB4 : Below w.heap.size w (w3.alloc (.cells #[.int .i64 x.a, .int .i64 x.k, .int .i64 x.o, .int .u64 x.s] 32)) := by go_grown
          clear A own hB hB3 F3 NX
          go_upto_region 18 with fail
          refine wp_forget (fun W => Ag W w.heap.size (w.heap.size + 1) 65536 i (.slice ao (i - (k + 1)) c) (i - (k + 1)) M3 (rm R (k + 1)) ∧ W.ownsRow bs 32 4 (.slice (some ⟨ag, 0, none⟩) i ca) i (ecs (te (es R) i)) ∧ At4 W w3.heap.size (.int .i64 x.a) (.int .i64 x.k) (.int .i64 x.o) (.int .u64 x.s) ∧ Below w.heap.size w W) ⟨A3, own3, At4.fresh _ _ _ _ _ _, hB4⟩ ?_
          clear A3 own3 hB4
          rintro W ⟨A, own, X, hB⟩
          obtain ⟨x0, x1, x2, x3, _, _, _, _, xl⟩ := id X
          obtain ⟨y0, y1, y2, y3⟩ := own_ev own hki2
          rw [hev] at y0 y1 y2 y3
          clear hev
          have hlg := (own.lt ag rfl).2
          generalize x.a = xa at *
          generalize x.k = xk at *
          generalize x.o = xo at *
          generalize x.s = xs at *
          go_wp2_with fail
          go_quiet (fail)
          all_goals go_wp2_with fail
          all_goals go_roundw
          case rel => exact ⟨k + 1, M3, by omega, by go_num, hct2, A.below (Below.drewN (Below.refl _ _) _), own_below own (Below.drewN (Below.refl _ _) _), Below.drewN hB _⟩
          case measure => simp [intOf]; omega
theorem walk_till (ao : Option Addr) (n c : Nat) (zs : List Int) (t : Int) (t0 : -9223372036854775808 ≤ t) (t1 : t ≤ 9223372036854775807) (w : World) (hz : Row .i64 w ao n c zs) : Calls Try.prog 5 #[.slice ao n c, .int .i64 t] w fun e w' => e = .returned (.bool true) ∧ Below w.heap.size w w' := by
  by_cases h : 200 < n ∨ n = 0
  · exact till_no t ao n c h w
  · exact till_yes t ao n c zs t0 t1 (by omega) (by omega) w hz
end Go.Proofs.Ytoonffglkadofaa
namespace Go.Proofs.Ytoonffglkadofaa.agendaTill
open Go.ChangeShapes Go.WideShapes Go.ChangeAt Go.RowKit Go.Joins
set_option linter.unusedVariables false

theorem own : ownKnob Try.prog.godebug = none := by kernel_rfl
theorem laidOut : laidOutB Try.prog = true := by kernel_rfl
theorem word_of {x : Int} (h : (Lit.int .u64 x).wf = true) : 0 ≤ x ∧ x ≤ 18446744073709551615 := by
  simp [Lit.wf, IntKind.min, IntKind.max, IntKind.signed, IntKind.bits] at h
  exact ⟨by omega, by omega⟩
theorem int_of {x : Int} (h : (Lit.int .i64 x).wf = true) : -9223372036854775808 ≤ x ∧ x ≤ 9223372036854775807 := by
  simp [Lit.wf, IntKind.min, IntKind.max, IntKind.signed, IntKind.bits] at h
  exact ⟨by omega, by omega⟩

set_option maxRecDepth 100000 in
theorem lifted (os : Os) (started : os.Started) (H : Type) (enc : TypeId × Value → H) :
    ReturnsInHanded {} Try.checked os 5 .any (Rows.agendaTillSpec.pre6 enc Try.prog Try.f5 Rows.agendaTillRow.domain false) (Rows.agendaTillSpec.post enc Try.prog Try.f5 false true false false) := by
  refine returnsInHanded_of_change (C := Try.checked) own started (by kernel_rfl) Try.func5
    (ChangeSpec.witness6 (enc := enc) (C := Try.checked) false ⟨#[], #[.slice none 0 0, .int .i64 0], []⟩ 8 (by kernel_rfl) (by kernel_rfl) (by kernel_rfl) (by kernel_rfl)) ?_
  intro W base args ds gs before hval0 hW hcnd _
  have hval : ∀ (j : Nat) t v, Try.f5.params[j]? = some t → args[j]? = some v → Value.okWide Try.prog W .any base t v := hval0
  have hW' := hW
  obtain ⟨p, q, hA0, hV, rfl, hfz, hnd⟩ := hW
  have hA : DataW.TrodAll enc Try.prog W 0 (fun _ => true) true Try.f5.params.toList args.toList ds p := hA0
  rw [Try.params5] at hA hval
  obtain ⟨v0, vs0, d0, ds0, p0, q0, hargs, rfl, rfl, h0, r0⟩ := trodAll_cons hA
  obtain ⟨v1, vs1, d1, ds1, p1, q1, rfl, rfl, rfl, h1, r1⟩ := trodAll_cons r0
  obtain ⟨rfl, rfl, rfl⟩ := trodAll_nil r1
  obtain rfl : args = #[v0, v1] := by cases args; simp_all
  obtain ⟨rfl, rfl⟩ := trodVars_none hV
  have k0 := h0
  have lt0 : ∀ x ∈ p0, x.block < W.heap.size := by obtain ⟨m, hm⟩ := k0; exact DataW.trod_lt m _ _ _ hm
  obtain ⟨ao_0, n_0, c_0, Z_0, rfl, hz0⟩ := open_rowi (hval 0 47 v0 rfl rfl) h0
  obtain ⟨a1, rfl, rfl, rfl, w1⟩ := open_int Try.underlying3 (hval 1 3 v1 rfl rfl) h1
  clear hA0 hval0
  refine (walk_till ao_0 n_0 c_0 Z_0 a1 (int_of w1).1 (int_of w1).2 W hz0).mono fun e W' ⟨he, bel⟩ => ?_
  subst he
  exact ⟨_, rfl, _, _, _, [], _, [], hW', trodAll_mk1 (shut_bool Try.underlying4 _), (trodAll_cons_mk (Below.trod laidOut (by kernel_rfl) (of_decide_eq_true (by kernel_rfl)) k0 bel lt0) (trodAll_cons_mk (shut_int Try.underlying3 w1) trodAll_mk0)), rfl, bel.frame _, fun h => by cases h⟩

theorem over : Rows.agendaTillRow.holds Try.pinned (OpenSpec.ofChange Rows.agendaTillSpec) :=
  OpenClaim.holds_of_wide 5 Try.f5 rfl rfl rfl rfl rfl rfl rfl ⟨rfl, rfl, rfl, rfl, rfl⟩ rfl rfl rfl rfl rfl (by kernel_rfl) Try.func5 (by kernel_rfl)
    (of_decide_eq_true (by kernel_rfl)) (by unfold Func.isWrapper; first | (rw [if_pos (by decide +kernel)]; kernel_rfl) | (rw [if_neg (by decide +kernel)]; exact ⟨rfl, rfl⟩))
    (fun os started H enc _ => lifted os started H enc)
theorem proved : Rows.AgendaTillSaid := over
#print axioms proved
end Go.Proofs.Ytoonffglkadofaa.agendaTill
