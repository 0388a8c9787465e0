/-
  AgendaSorts: for any times all events are told once, in the order of times, of one time in the order in which they were put. No conditions.
-/
import Derived.Test.YtoonffglkadofaaGF
import Derived.Test.YtoonffglkadofaaGE
import Derived.Test.YtoonffglkadofaaGI
import Derived.Test.YtoonffglkadofaaGX
import Derived.Test.YtoonffglkadofaaRows
import Derived.WalkKit
import Derived.ProofKit
import Derived.OpenShut
import Derived.ChangeOld
import Derived.Below
import Derived.Lib.SmallJoins
namespace Go.Proofs.Ytoonffglkadofaa
open Go.RowKit
set_option linter.unusedVariables false
attribute [local go_sem] Later.cell Later.frozen
set_option maxHeartbeats 6000000 in
set_option maxRecDepth 100000 in
theorem sorts_no (ao : Option Addr) (n c : Nat) (hn : 200 < n ∨ n = 0) (w : World) : Calls Try.prog 4 #[.slice ao n c] w fun e w' => e = .returned (.bool true) ∧ Below w.heap.size w w' := by
  by_cases h0 : 200 < n
  · have h1 : (200 : Int) < n := by omega
    go_enter Try.func4, Try.ntmps4
    go_wp2_with fail
    refine (noted_any _).mono ?_
    rintro e w1 ⟨rfl, hB⟩
    go_wp2
    go_ret
    exact ⟨rfl, hB⟩
  · obtain rfl : n = 0 := by omega
    go_enter Try.func4, Try.ntmps4
    go_wp2_with fail
    refine (noted_any _).mono ?_
    rintro e w1 ⟨rfl, hB⟩
    go_wp2
    go_ret
    exact ⟨rfl, hB⟩
/-- The events of the law, by their places. -/
def sf (zs : List Int) (i : Nat) : Ev := ⟨zs.getD i 0, 0, i, 0⟩
set_option maxHeartbeats 6000000 in
set_option maxRecDepth 100000 in
theorem sorts_yes (to' : Option Addr) (n tc : Nat) (zs : List Int) (h1 : 1 ≤ n) (h2 : n ≤ 200) (w : World) (hz : Row .i64 w to' n tc zs) : Calls Try.prog 4 #[.slice to' n tc] w fun e w' => e = .returned (.bool true) ∧ Below w.heap.size w w' := by
  have hn1 : ¬ (200 : Int) < n := by omega
  have hn2 : ¬ (n : Int) = 0 := by omega
  obtain ⟨zb, zo, rfl, hzc⟩ := hz.at' (by omega)
  have hzl : zb < w.heap.size := World.block_lt_of_cell? _ _ (hzc 0 (by omega))
  have hcap := hz.cap
  have hmax := hz.max
  have hmx : maxLen = 9223372036854775807 := rfl
  have hbd := hz.val
  obtain ⟨i9, hi9, hz0, hz1, hz2⟩ := info_parts info_bool
  clear hz
  go_enter Try.func4, Try.ntmps4
  go_wp2_with fail
  refine (new_yes n (by omega) (by omega) _).mono ?_
  rintro e w1 ⟨rfl, hs1, A, hB⟩
  go_wp2_with fail
  go_loopw [5] (fun v5 wr => ∃ (i : Nat) (ao : Option Addr) (c : Nat) (L : List Ent), i ≤ n ∧ v5 = .int .i64 i ∧ Ag wr w.heap.size (w.heap.size + 1) n i (.slice ao i c) i L (er (sf zs) i) ∧ Below w.heap.size w wr) (fun v5 _ => n - (intOf v5).toNat)
  case atStart => exact ⟨0, none, 0, [], by omega, rfl, A, hB⟩
  case round =>
    obtain ⟨i, ao, c, L, hi, rfl, A, hB⟩ := hrel
    by_cases hin : i < n
    · have hi2 : (i : Int) < n := by omega
      have hT : Hid (((i + 1 : Nat) : Int) = (i : Int) + 1) := by show _ = _; omega
      have zc := (hB.cell (p := ⟨zb, zo + i, none⟩) hzl).trans (hzc i hin)
      have hx : sf zs i = ⟨zs.getD i 0, 0, i, 0⟩ := rfl
      have PU := fun W A => put_room w.heap.size (w.heap.size + 1) n i ao i c L (er (sf zs) i) (sf zs i) (by omega) (by omega) (by omega) (by omega) W A
      rw [hx] at PU
      have hR : er (sf zs) (i + 1) = er (sf zs) i ++ [⟨⟨zs.getD i 0, 0, i, 0⟩, i⟩] := rfl
      rw [← hR] at PU
      clear hx hR
      obtain ⟨z, hzz⟩ : ∃ z, Hid (zs.getD i 0 = z) := ⟨_, rfl⟩
      rw [hzz.out] at zc PU
      generalize er (sf zs) i = R at *
      go_wp2_with fail
      refine (PU _ A).mono ?_
      rintro e w2 ⟨rfl, ao2, c2, L2, A2, _, F2⟩
      replace hB := A.step hB hB.size (Nat.le_refl _) F2
      replace A2 : Ag w2 w.heap.size (w.heap.size + 1) n ((i + 1 : Nat) : Int) (.slice ao2 (i + 1) c2) (i + 1) L2 (er (sf zs) (i + 1)) := by rw [hT.out]; exact A2
      clear A F2 PU zc
      go_wp2_with fail
      go_roundw
      case rel => exact ⟨i + 1, ao2, c2, L2, by omega, by go_num, A2, hB⟩
      case measure => simp [intOf]; omega
    · obtain rfl : i = n := by omega
      have hRl : (er (sf zs) i).length = i := er_len _ _
      have hup := er_up (sf zs) i
      have hyt := fun k (hk : k < i) => er_yt (sf zs) hk
      have hsf : ∀ j, sf zs j = ⟨zs.getD j 0, 0, j, 0⟩ := fun _ => rfl
      generalize er (sf zs) i = R at *
      go_wp2_with fail
      refine (all_any w.heap.size (w.heap.size + 1) i i (.slice ao i c) i L R (by omega) _ A).mono ?_
      rintro e w2 ⟨⟨aa, ca, rfl, own⟩, hw2⟩
      obtain ⟨bs, hbs⟩ : ∃ bs, Hid (bs = wr.heap.size) := ⟨_, rfl⟩
      have hg : ∀ g, (Value.slice ao i c).ownBlock = some g → g < bs := fun g h => by rw [hbs.out]; exact (A.own.lt g h).2
      have hab : w.heap.size < bs := by rw [hbs.out]; exact A.lt
      have hbw : w.heap.size ≤ bs := by rw [hbs.out]; exact hB.size
      rw [← hbs.out] at own
      replace A := A.below hw2
      replace hB := Below.call hB hB.size hw2
      have hs2 : bs ≤ w2.heap.size := by rw [hbs.out]; exact hw2.size
      clear hw2 hbs
      obtain ⟨ag, rfl, _, hagl, hca, hcm⟩ := own_some own (by omega)
      go_wp2_with (at_make; refine wpList_make_full _ rfl (.tmp 48) (.tmp 48) 48 rfl w2.heap.size 4 i9 (.bool false) 1 Try.underlying48 hi9 hz0 hz1 .i64 .i64 i i i rfl rfl rfl rfl (by rw [hz2]; omega) (by unfold maxLen; omega) (Nat.le_refl _) ?_; intro w3 own3 gr3)
      have S3 : Cbs w3 w2.heap.size i (sn R 0) := cbs_made own3
      have F3 : Far [] w2 w3 := (Far.of_grown gr3).mono (by simp)
      have A0 : Ag w3 w.heap.size (w.heap.size + 1) i i (.slice ao (i - 0) c) (i - 0) L (rm R 0) := A.far F3 (by simp) (by simp)
      replace own : w3.ownsRow bs 32 4 (.slice (some ⟨ag, 0, none⟩) i ca) i (ecs (te (es R) i)) := F3.own own (by simp)
      replace hB : Below w.heap.size w w3 := Below.call hB hB.size (Far.to_below F3)
      have hs3 := F3.size
      clear A own3 gr3 F3 hz0 hz1 hz2 hi9
      go_loopw [8] (fun v8 wq => ∃ (k : Nat) (M : List Ent), k ≤ i ∧ v8 = .int .i64 k ∧ Ag wq w.heap.size (w.heap.size + 1) i i (.slice ao (i - k) c) (i - k) M (rm R k) ∧ wq.ownsRow bs 32 4 (.slice (some ⟨ag, 0, none⟩) i ca) i (ecs (te (es R) i)) ∧ Cbs wq w2.heap.size i (sn R k) ∧ Below w.heap.size w wq) (fun v8 _ => i - (intOf v8).toNat)
      case atStart => exact ⟨0, L, by omega, rfl, A0, own, S3, hB⟩
      case round =>
        obtain ⟨k, M, hk, rfl, A, own, S, hB⟩ := hrel
        clear A0 S3
        by_cases hki : k < i
        · obtain ⟨j, hj, hyj, hme⟩ := hyt k hki
          rw [hsf] at hme
          have hnx : nxb (es (rm R k)) 9223372036854775807 = true := by
            rw [nx_rm R _ (by omega), Bool.and_eq_true, decide_eq_true_iff, decide_eq_true_iff, hRl, hme]
            exact ⟨hki, (hbd j).2⟩
          have NX := fun W A => next_yes w.heap.size (w.heap.size + 1) i i ao (i - k) c M (rm R k) 9223372036854775807 (by omega) hnx W A
          rw [rm_me, hme] at NX
          have hev : evp (te (es R) i) k = ⟨zs.getD j 0, 0, j, 0⟩ := (te_evp _ hki).trans hme
          have hk1 : i - k - 1 = i - (k + 1) := by omega
          have hki3 : (k : Int) < i := by omega
          have hsj : sn R k j = false := sn_no hup (by omega) hyj
          have hss : Hid (sn R (k + 1) = fun q => if q = j then true else sn R k q) := sn_succ hyj
          have hj0 : ¬ (j : Int) < 0 := by omega
          have hj1 : (j : Int) < i := by omega
          clear hnx
          go_wp2_with fail
          refine (NX _ A).mono ?_
          rintro e w4 ⟨rfl, M4, A4, F4⟩
          rw [hk1] at A4
          replace A4 : Ag w4 w.heap.size (w.heap.size + 1) i i (.slice ao (i - (k + 1)) c) (i - (k + 1)) M4 (rm R (k + 1)) := A4
          have hmem : ∀ q, q ∈ w.heap.size :: (Value.slice ao (i - k) c).ownBlock.toList → q < bs := fun q hm => by
            rcases List.mem_cons.1 hm with e | hm
            · omega
            · exact hg q (by have := mem_opt hm; rw [own_n ao _ _ i c] at this; exact this)
          have own4 := F4.own own (fun g hg' hm => by have h1 := (own.lt g hg').1; have h2 := hmem g hm; omega)
          have S4 := S.far F4 (fun hm => by have := hmem _ hm; omega)
          have hB4 := A.step hB hB.size (Nat.le_refl _) F4
          have hs4 := hB4.size
          have sl4 := S4.lt (by omega)
          dsimp only
          clear A own hB F4 NX S hmem
          go_upto_region 17 with fail
          refine wp_forget (fun W => Ag W w.heap.size (w.heap.size + 1) i i (.slice ao (i - (k + 1)) c) (i - (k + 1)) M4 (rm R (k + 1)) ∧ W.ownsRow bs 32 4 (.slice (some ⟨ag, 0, none⟩) i ca) i (ecs (te (es R) i)) ∧ At4 W w4.heap.size (.int .i64 (zs.getD j 0)) (.int .i64 0) (.int .i64 j) (.int .u64 0) ∧ Cbs W w2.heap.size i (sn R k) ∧ Below w.heap.size w W) ⟨A4.alloc _, own4.alloc _, At4.fresh _ _ _ _ _ _, S4.of ((Below.refl _ _).alloc (Nat.le_refl _) _), by go_grown⟩ ?_
          clear A4 own4 hB4 S4
          rintro W ⟨A, own, X, S, hB⟩
          obtain ⟨x0, x1, x2, x3, xa, xb, xc, xd, xl⟩ := id X
          obtain ⟨y0, y1, y2, y3⟩ := own_ev own hki
          rw [hev] at y0 y1 y2 y3
          have s0 := S.cell j hj
          have s1 := S.froz j hj
          rw [hsj] at s0
          have zc := (hB.cell (p := ⟨zb, zo + j, none⟩) hzl).trans (hzc j hj)
          have hlg := (own.lt ag rfl).2
          have hlz : zb < W.heap.size := Nat.lt_of_lt_of_le hzl hB.size
          have hls := S.lt (by omega)
          dsimp only at y0 y1 y2 y3
          obtain ⟨z, hzz⟩ : ∃ z, Hid (zs.getD j 0 = z) := ⟨_, rfl⟩
          rw [hzz.out] at x0 y0 zc X
          have hsf2 : ∀ j, sf zs j = ⟨zs.getD j 0, 0, j, 0⟩ := fun _ => rfl
          clear hev hsj hbd hsf
          go_wp2_with fail
          go_quiet (fail)
          all_goals go_upto_region 19 with fail
          refine wp_forget (fun V => Ag V w.heap.size (w.heap.size + 1) i i (.slice ao (i - (k + 1)) c) (i - (k + 1)) M4 (rm R (k + 1)) ∧ V.ownsRow bs 32 4 (.slice (some ⟨ag, 0, none⟩) i ca) i (ecs (te (es R) i)) ∧ At4 V w4.heap.size (.int .i64 z) (.int .i64 0) (.int .i64 j) (.int .u64 0) ∧ Cbs V w2.heap.size i (sn R k) ∧ Below w.heap.size w V) ⟨A.below (Below.drewN (Below.refl _ _) _), own_below own (Below.drewN (Below.refl _ _) _), At4.drewN X _, S.of (Below.drewN (Below.refl _ _) _), Below.drewN hB _⟩ ?_
          clear A own X S hB x0 x1 x2 x3 xa xb xc xd xl y0 y1 y2 y3 s0 s1 zc hlg hlz hls
          rintro V ⟨A, own, X, S, hB⟩
          obtain ⟨x0, x1, x2, x3, xa, xb, xc, xd, xl⟩ := id X
          have s0 := S.cell j hj
          have s1 := S.froz j hj
          have hlg := (own.lt ag rfl).2
          have hls := S.lt (by omega)
          have S5 := (S.put hj true).of (Below.refl _ _)
          rw [← hss.out] at S5
          have FS : Far [w2.heap.size] V (V.setCell ⟨w2.heap.size, j, none⟩ (.bool true)) := (Far.refl _ _).setCell (.inr (by simp)) _ _
          have A5 := A.far FS (by simp; omega) (fun g h hm => by
            have h1 := hg g (by rw [own_n ao _ _ i c] at h; exact h)
            simp at hm; omega)
          have own5 := FS.own own (fun g h hm => by
            have hgg : ag = g := by simpa [Value.ownBlock] using h
            simp at hm; omega)
          have X5 := X.other (a := ⟨w2.heap.size, j, none⟩) (by simp; omega) (.bool true)
          have hB5 : Below w.heap.size w (V.setCell ⟨w2.heap.size, j, none⟩ (.bool true)) := Far.call hB hB.size FS (fun b hb => by simp at hb; omega)
          clear A own S hB FS hss
          go_upto_region 20 with fail
          refine wp_forget (fun U => Ag U w.heap.size (w.heap.size + 1) i i (.slice ao (i - (k + 1)) c) (i - (k + 1)) M4 (rm R (k + 1)) ∧ U.ownsRow bs 32 4 (.slice (some ⟨ag, 0, none⟩) i ca) i (ecs (te (es R) i)) ∧ At4 U w4.heap.size (.int .i64 z) (.int .i64 0) (.int .i64 j) (.int .u64 0) ∧ Cbs U w2.heap.size i (sn R (k + 1)) ∧ Below w.heap.size w U) ⟨A5, own5, X5, S5, hB5⟩ ?_
          clear A5 own5 X5 S5 hB5 x0 x1 x2 x3 xa xb xc xd xl s0 s1 hlg hls X
          rintro U ⟨A, own, X, S, hB⟩
          obtain ⟨x0, x1, x2, x3, _, _, _, _, xl⟩ := id X
          by_cases hk0 : k = 0
          · subst hk0
            go_wp2_with fail
            go_quiet (fail)
            all_goals go_wp2_with fail
            all_goals go_roundw
            case rel => exact ⟨1, M4, by omega, by go_num, A.below (Below.drewN (Below.refl _ _) _), own_below own (Below.drewN (Below.refl _ _) _), S.of (Below.drewN (Below.refl _ _) _), Below.drewN hB _⟩
            case measure => simp [intOf]; omega
          · obtain ⟨p, rfl⟩ : ∃ p, k = p + 1 := ⟨k - 1, by omega⟩
            have hpk : p < p + 1 := by omega
            obtain ⟨q, hq, hyq, hmq⟩ := hyt p (by omega)
            rw [hsf2] at hmq
            have hso := (yt_later hup hpk (by omega)).2
            rw [so_no, yt_me (by omega), yt_me (by omega), hme, hmq, hyj, hyq, hzz.out] at hso
            have hpi : p < i := by omega
            obtain ⟨y0, y1, y2, y3⟩ := own_ev own hpi
            rw [te_evp _ hpi, hmq] at y0 y1 y2 y3
            dsimp only at y0 y1 y2 y3 hso
            have hlg := (own.lt ag rfl).2
            have hpi2 : (p : Int) < i := by omega
            have hk2 : (0 : Int) < (p : Int) + 1 := by omega
            have hwp : IntKind.i64.wrap (p : Int) = p := by rw [IntKind.wrap_i64]; omega
            clear hpk hpi hk0
            obtain ⟨zq, hzq⟩ : ∃ zq, Hid (zs.getD q 0 = zq) := ⟨_, rfl⟩
            rw [hzq.out] at y0 hso
            have hz1 : ¬ z < zq := by omega
            clear hmq hzq hme
            by_cases hze : z = zq
            · have hjq : ¬ (j : Int) < q := by omega
              have hze2 : (z == zq) = true := by simp [hze]
              clear hze hso
              go_wp2_with fail
              go_quiet (fail)
              all_goals go_wp2_with fail
              all_goals go_roundw
              case rel => exact ⟨p + 1 + 1, M4, by omega, by go_num, A.below (Below.drewN (Below.refl _ _) _), own_below own (Below.drewN (Below.refl _ _) _), S.of (Below.drewN (Below.refl _ _) _), Below.drewN hB _⟩
              case measure => simp [intOf]; omega
            · have hz3 : decide (z = zq) = false := decide_eq_false hze
              clear hso
              go_wp2_with fail
              go_quiet (fail)
              all_goals go_wp2_with fail
              all_goals go_roundw
              case rel => exact ⟨p + 1 + 1, M4, by omega, by go_num, A.below (Below.drewN (Below.refl _ _) _), own_below own (Below.drewN (Below.refl _ _) _), S.of (Below.drewN (Below.refl _ _) _), Below.drewN hB _⟩
              case measure => simp [intOf]; omega
        · obtain rfl : k = i := by omega
          have hnx : nxb (es (rm R k)) 9223372036854775807 = false := by
            rw [nx_rm R _ (by omega), hRl, decide_eq_false (Nat.lt_irrefl k), Bool.false_and]
          have NX := fun W A => next_no w.heap.size (w.heap.size + 1) k k (.slice ao (k - k) c) (k - k) M (rm R k) 9223372036854775807 (by omega) hnx W A
          rw [Nat.sub_self] at A NX
          clear hnx own S
          go_wp2_with fail
          refine (NX _ A).mono ?_
          rintro e w4 ⟨rfl, hw4⟩
          replace A := (A.below hw4).alloc (.cells #[.int .i64 0, .int .i64 0, .int .i64 0, .int .u64 0] 32)
          replace hB := Below.call hB hB.size hw4
          have hs4 := hB.size
          replace hB : Below w.heap.size w (w4.alloc (.cells #[.int .i64 0, .int .i64 0, .int .i64 0, .int .u64 0] 32)) := by go_grown
          clear hw4 NX
          go_wp2_with fail
          refine (noted_any _).mono ?_
          rintro e w5 ⟨rfl, hw5⟩
          replace A := A.below hw5
          replace hB := Below.call hB hB.size hw5
          clear hw5
          go_wp2_with fail
          refine (len_any w.heap.size (w.heap.size + 1) k k (.slice ao 0 c) 0 M (rm R k) (by omega) _ A).mono ?_
          rintro e w6 ⟨rfl, hw6⟩
          replace hB := Below.call hB hB.size hw6
          clear hw6 A
          go_wp2
          go_ret
          exact ⟨rfl, hB⟩
theorem walk_sorts (ao : Option Addr) (n c : Nat) (zs : List Int) (w : World) (hz : Row .i64 w ao n c zs) : Calls Try.prog 4 #[.slice ao n c] w fun e w' => e = .returned (.bool true) ∧ Below w.heap.size w w' := by
  by_cases h : 200 < n ∨ n = 0
  · exact sorts_no ao n c h w
  · exact sorts_yes ao n c zs (by omega) (by omega) w hz
end Go.Proofs.Ytoonffglkadofaa
namespace Go.Proofs.Ytoonffglkadofaa.agendaSorts
open Go.ChangeShapes Go.WideShapes Go.ChangeAt Go.RowKit Go.Joins
set_option linter.unusedVariables false

theorem own : ownKnob Try.prog.godebug = none := by kernel_rfl
theorem laidOut : laidOutB Try.prog = true := by kernel_rfl
theorem word_of {x : Int} (h : (Lit.int .u64 x).wf = true) : 0 ≤ x ∧ x ≤ 18446744073709551615 := by
  simp [Lit.wf, IntKind.min, IntKind.max, IntKind.signed, IntKind.bits] at h
  exact ⟨by omega, by omega⟩
theorem int_of {x : Int} (h : (Lit.int .i64 x).wf = true) : -9223372036854775808 ≤ x ∧ x ≤ 9223372036854775807 := by
  simp [Lit.wf, IntKind.min, IntKind.max, IntKind.signed, IntKind.bits] at h
  exact ⟨by omega, by omega⟩

set_option maxRecDepth 100000 in
theorem lifted (os : Os) (started : os.Started) (H : Type) (enc : TypeId × Value → H) :
    ReturnsInHanded {} Try.checked os 4 .any (Rows.agendaSortsSpec.pre6 enc Try.prog Try.f4 Rows.agendaSortsRow.domain false) (Rows.agendaSortsSpec.post enc Try.prog Try.f4 false true false false) := by
  refine returnsInHanded_of_change (C := Try.checked) own started (by kernel_rfl) Try.func4
    (ChangeSpec.witness6 (enc := enc) (C := Try.checked) false ⟨#[], #[.slice none 0 0], []⟩ 8 (by kernel_rfl) (by kernel_rfl) (by kernel_rfl) (by kernel_rfl)) ?_
  intro W base args ds gs before hval0 hW hcnd _
  have hval : ∀ (j : Nat) t v, Try.f4.params[j]? = some t → args[j]? = some v → Value.okWide Try.prog W .any base t v := hval0
  have hW' := hW
  obtain ⟨p, q, hA0, hV, rfl, hfz, hnd⟩ := hW
  have hA : DataW.TrodAll enc Try.prog W 0 (fun _ => true) true Try.f4.params.toList args.toList ds p := hA0
  rw [Try.params4] at hA hval
  obtain ⟨v0, vs0, d0, ds0, p0, q0, hargs, rfl, rfl, h0, r0⟩ := trodAll_cons hA
  obtain ⟨rfl, rfl, rfl⟩ := trodAll_nil r0
  obtain rfl : args = #[v0] := by cases args; simp_all
  obtain ⟨rfl, rfl⟩ := trodVars_none hV
  have k0 := h0
  have lt0 : ∀ x ∈ p0, x.block < W.heap.size := by obtain ⟨m, hm⟩ := k0; exact DataW.trod_lt m _ _ _ hm
  obtain ⟨ao_0, n_0, c_0, Z_0, rfl, hz0⟩ := open_rowi (hval 0 47 v0 rfl rfl) h0
  clear hA0 hval0
  refine (walk_sorts ao_0 n_0 c_0 Z_0 W hz0).mono fun e W' ⟨he, bel⟩ => ?_
  subst he
  exact ⟨_, rfl, _, _, _, [], _, [], hW', trodAll_mk1 (shut_bool Try.underlying4 _), (trodAll_cons_mk (Below.trod laidOut (by kernel_rfl) (of_decide_eq_true (by kernel_rfl)) k0 bel lt0) trodAll_mk0), rfl, bel.frame _, fun h => by cases h⟩

theorem over : Rows.agendaSortsRow.holds Try.pinned (OpenSpec.ofChange Rows.agendaSortsSpec) :=
  OpenClaim.holds_of_wide 4 Try.f4 rfl rfl rfl rfl rfl rfl rfl ⟨rfl, rfl, rfl, rfl, rfl⟩ rfl rfl rfl rfl rfl (by kernel_rfl) Try.func4 (by kernel_rfl)
    (of_decide_eq_true (by kernel_rfl)) (by unfold Func.isWrapper; first | (rw [if_pos (by decide +kernel)]; kernel_rfl) | (rw [if_neg (by decide +kernel)]; exact ⟨rfl, rfl⟩))
    (fun os started H enc _ => lifted os started H enc)
theorem proved : Rows.AgendaSortsSaid := over
#print axioms proved
end Go.Proofs.Ytoonffglkadofaa.agendaSorts
