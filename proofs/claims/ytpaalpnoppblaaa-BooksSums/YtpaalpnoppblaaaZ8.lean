/-
  The program's books: a packet is sent. No conditions but the books' own.
-/
import Derived.Test.YtpaalpnoppblaaaZ6
import Derived.Deep.RegionWith
import Derived.Deep.QuietTactic
namespace Go.Proofs.Ytpaalpnoppblaaa
open Go.RowKit Go.Maps
set_option linter.unusedVariables false
set_option maxRecDepth 8000
theorem Fit.last_set2 {s : Bk} (h : Fit s) {j : Nat} (hjl : j < s.L.length) (hj : s.L.length = j + 1) (f : Mi → Mi) : s.L.set j (f (s.L[j]'hjl)) = chg s.L (s.begun - 1) f := by
  refine chg_set (by omega) (fun k hk => ?_) f
  rw [h.ids k hk]; omega
attribute [local go_sem ↓] ldM_shut stM_shut
set_option maxHeartbeats 4000000 in
theorem bsend_any (bb lb mb : Nat) (ao : Option Addr) (g o c : Nat) (S : List Nat) (s : Bk) (hf : Fit s) (z a : Int) (z0 : -9223372036854775808 ≤ z) (z1 : z ≤ 9223372036854775807) (a0 : -9223372036854775808 ≤ a) (a1 : a ≤ 9223372036854775807) (w : World) (HB : Bks w bb lb mb ao g o c S s) :
    Calls Try.prog 38 #[.pointer (some ⟨bb, 0, none⟩), .int .i64 z, .int .i64 a] w fun e w' => e = .returned (.tuple #[.int .u64 (sdV s z a), .int .i64 (sdE s z a)]) ∧ Bka w' bb S (sdL s z a) ∧ Far S w w' := by
  obtain ⟨c0, c1, c2, c3, c4, fz⟩ := HB.cells
  have hlen := hf.len
  have hb0 := hf.b0
  go_enter Try.func38, Try.ntmps38
  by_cases he : earlyP s a
  · have E : Hid (sdE s z a = 10 ∧ sdV s z a = 0 ∧ sdL s z a = s) := ⟨by simp [sdE, he], by simp [sdV, sdE, he], by simp [sdL, sdE, he]⟩
    go_wp2_with fail
    refine (early_yes he _).mono ?_
    rintro e w1 ⟨rfl, hw1⟩
    go_wp2_with fail
    go_ret2
    exact ⟨by rw [E.out.1, E.out.2.1]; rfl, by rw [E.out.2.2]; exact ⟨_, _, _, _, _, _, HB.below hw1⟩, (Far.of_below hw1).mono (by simp)⟩
  by_cases hn : s.L = []
  · have E : Hid (sdE s z a = 15 ∧ sdV s z a = 0 ∧ sdL s z a = s) := ⟨by simp [sdE, he, hn], by simp [sdV, sdE, he, hn], by simp [sdL, sdE, he, hn]⟩
    have hl0 : s.L.length = 0 := by rw [hn]; rfl
    rw [hl0] at c3
    clear hn
    go_wp2_with fail
    refine (early_no he _).mono ?_
    rintro e w1 ⟨rfl, hw1⟩
    go_wp2_with fail
    go_ret2
    exact ⟨by rw [E.out.1, E.out.2.1]; rfl, by rw [E.out.2.2]; exact ⟨_, _, _, _, _, _, HB.below hw1⟩, (Far.of_below hw1).mono (by simp)⟩
  obtain ⟨hl0, hlm, hli, hlt, hlf, hlmem⟩ := hf.last_id hn
  obtain ⟨j, hj⟩ : ∃ j, s.L.length = j + 1 := ⟨s.L.length - 1, by omega⟩
  have hjl : j < s.L.length := by omega
  have hjm : s.L[j] = lastM s := by
    have e : j = s.L.length - 1 := by omega
    subst e; exact hlm
  obtain ⟨rfl, hg⟩ := HB.row.value hjl
  obtain ⟨m, hm⟩ : ∃ m, lastM s = m := ⟨_, rfl⟩
  rw [hm] at hjm hli
  have HJM : Hid (s.L[j] = m) := hjm
  have HJ : Hid (s.L.length = j + 1) := hj
  have HLM : Hid (lastM s = m) := hm
  have HN : Hid (¬ s.L = []) := hn
  have T := fun w => asend_any m z w
  have HE : Hid (¬ earlyP s a) := he
  have ELS : Hid _ := hf.last_set2 hjl hj (fun m => sendV m z)
  rw [hj] at c3
  obtain ⟨VM, hVM⟩ : ∃ x : Value, x = .agg #[.int .i64 m.id, .int .i64 m.fr, .int .i64 m.to, .int .i64 m.se, .int .i64 m.ac, .int .i64 m.lo, .int .i64 m.pa, .int .i64 m.hi, .int .i64 m.dr, .int .i64 m.n, .int .i64 m.st, .int .i64 m.sr, .int .i64 m.tt, .int .i64 m.tr, .int .i64 m.rr] := ⟨_, rfl⟩
  rw [← hVM] at T
  clear hlm hlf hlmem hl0 hn
  go_wp2_with fail
  refine (early_no he _).mono ?_
  rintro e w1 ⟨rfl, hw1⟩
  have HB1 := HB.below hw1
  clear c0 c1 c2 c3 c4 fz he
  obtain ⟨c0, c1, c2, c3, c4, fz⟩ := HB1.cells
  rw [hj] at c3
  have hM : (ldM (.pointer (some ⟨g, o + j * 15, none⟩))).run Try.prog w1 = .ok VM w1 := by
    rw [hVM]; exact ldM_run (by have := HB1.row.els j hjl; rw [HJM.out] at this; exact this)
  have H := Heap.nil w1
  clear hVM hj hjm hm
  obtain ⟨EE, hEE⟩ : ∃ x, sendE m z = x := ⟨_, rfl⟩
  have HEE : Hid (sendE m z = EE) := hEE
  rw [hEE] at T
  clear hEE
  by_cases hE0 : EE = 0
  rotate_left
  · have E : Hid (sdE s z a = EE ∧ sdV s z a = 0 ∧ sdL s z a = s) := by
      have e : sdE s z a = EE := by unfold sdE; rw [if_neg HE.out, if_neg HN.out, HLM.out, HEE.out, if_pos hE0]
      exact ⟨e, by unfold sdV; rw [if_neg (by rw [e]; exact hE0)], by unfold sdL; rw [if_neg (by rw [e]; exact hE0)]⟩
    generalize sendV m z = V at *
    go_wp2_with (first | ((first | ((with_reducible refine at_plain ?_); intro K hK) | go_guarded); first | ((with_reducible refine at_ld ?_); first | (refine wpH_ldA (ty := 63) rfl rfl H (by repeat (first | exact Found.here | apply Found.there)) (by exact row63) ?_) | (refine wpH_ldA (ty := 89) rfl rfl H (by repeat (first | exact Found.here | apply Found.there)) (by exact row89) ?_) | (refine wpH_ldA (ty := 109) rfl rfl H (by repeat (first | exact Found.here | apply Found.there)) (by exact row109) ?_) | (refine wpH_ldA (ty := 57) rfl rfl H (by repeat (first | exact Found.here | apply Found.there)) (by exact row57) ?_) | (refine wpH_ld1 (ty := 3) rfl rfl H (by repeat (first | exact Found.here | apply Found.there)) one3 (by rfl) ?_) | (refine wpH_ld1 (ty := 4) rfl rfl H (by repeat (first | exact Found.here | apply Found.there)) one4 (by rfl) ?_) | (refine wpH_ld1 (ty := 26) rfl rfl H (by repeat (first | exact Found.here | apply Found.there)) one26 (by rfl) ?_) | (refine wpH_ld1 (ty := 22) rfl rfl H (by repeat (first | exact Found.here | apply Found.there)) one22 (by rfl) ?_) | (refine wpH_ld1 (ty := 91) rfl rfl H (by repeat (first | exact Found.here | apply Found.there)) one91 (by rfl) ?_)) | ((with_reducible refine at_st ?_); first | (refine wpH_st1 (ty := 3) (v := .int _ _) rfl rfl rfl rfl rfl H one3 (by repeat (first | exact Found.here | apply Found.there)) (by repeat (first | exact SetAt.z | apply SetAt.s)) (by repeat (first | exact Turned.here | apply Turned.there)) ?_; clear H; intro wN H) | (refine wpH_st1 (ty := 4) (v := .int _ _) rfl rfl rfl rfl rfl H one4 (by repeat (first | exact Found.here | apply Found.there)) (by repeat (first | exact SetAt.z | apply SetAt.s)) (by repeat (first | exact Turned.here | apply Turned.there)) ?_; clear H; intro wN H) | (refine wpH_st1 (ty := 26) (v := .int _ _) rfl rfl rfl rfl rfl H one26 (by repeat (first | exact Found.here | apply Found.there)) (by repeat (first | exact SetAt.z | apply SetAt.s)) (by repeat (first | exact Turned.here | apply Turned.there)) ?_; clear H; intro wN H) | (refine wpH_st1 (ty := 22) (v := .int _ _) rfl rfl rfl rfl rfl H one22 (by repeat (first | exact Found.here | apply Found.there)) (by repeat (first | exact SetAt.z | apply SetAt.s)) (by repeat (first | exact Turned.here | apply Turned.there)) ?_; clear H; intro wN H) | (refine wpH_st1 (ty := 91) (v := .int _ _) rfl rfl rfl rfl rfl H one91 (by repeat (first | exact Found.here | apply Found.there)) (by repeat (first | exact SetAt.z | apply SetAt.s)) (by repeat (first | exact Turned.here | apply Turned.there)) ?_; clear H; intro wN H) | (refine wpH_stA (ty := 63) rfl rfl rfl H (by repeat (first | exact Turned.here | apply Turned.there)) (by exact row63) (by rfl) (by kernel_rfl) ?_; clear H; intro wN H) | (refine wpH_stA (ty := 89) rfl rfl rfl H (by repeat (first | exact Turned.here | apply Turned.there)) (by exact row89) (by rfl) (by kernel_rfl) ?_; clear H; intro wN H) | (refine wpH_stA (ty := 109) rfl rfl rfl H (by repeat (first | exact Turned.here | apply Turned.there)) (by exact row109) (by rfl) (by kernel_rfl) ?_; clear H; intro wN H) | (refine wpH_stA (ty := 57) rfl rfl rfl H (by repeat (first | exact Turned.here | apply Turned.there)) (by exact row57) (by rfl) (by kernel_rfl) ?_; clear H; intro wN H)) | ((with_reducible refine at_al ?_); refine wpH_al rfl (by first | exact zero63 | exact zero89 | exact zero109 | exact zero57) H ?_; clear H; intro bN wN H) | ((with_reducible refine at_bx ?_); refine wpH_bxA rfl rfl H ?_; clear H; intro bN wN H)) | (go_at_call 61; refine (T _).mono ?_; rintro e wN ⟨rfl, hw⟩; replace H := H.call hw; clear hw) | fail)
    go_ret2
    exact ⟨by rw [E.out.1, E.out.2.1]; rfl, by rw [E.out.2.2]; exact ⟨_, _, _, _, _, _, HB1.below H.grown⟩, (((Far.of_below hw1).below H.grown)).mono (by simp)⟩
  subst hE0
  obtain ⟨_, hwz, _, _, hsv, _⟩ := send_yes HEE.out
  obtain ⟨V, hV⟩ : ∃ V, sendV m z = V := ⟨_, rfl⟩
  have HVI : Hid (V.id = s.begun - 1) := by show _ = _; rw [← hV, hsv]; exact hli
  have HV : Hid (sendV m z = V) := hV
  rw [hV] at T
  clear hV hsv
  go_upto_region 9 with (first | ((first | ((with_reducible refine at_plain ?_); intro K hK) | go_guarded); first | ((with_reducible refine at_ld ?_); first | (refine wpH_ldA (ty := 63) rfl rfl H (by repeat (first | exact Found.here | apply Found.there)) (by exact row63) ?_) | (refine wpH_ldA (ty := 89) rfl rfl H (by repeat (first | exact Found.here | apply Found.there)) (by exact row89) ?_) | (refine wpH_ldA (ty := 109) rfl rfl H (by repeat (first | exact Found.here | apply Found.there)) (by exact row109) ?_) | (refine wpH_ldA (ty := 57) rfl rfl H (by repeat (first | exact Found.here | apply Found.there)) (by exact row57) ?_) | (refine wpH_ld1 (ty := 3) rfl rfl H (by repeat (first | exact Found.here | apply Found.there)) one3 (by rfl) ?_) | (refine wpH_ld1 (ty := 4) rfl rfl H (by repeat (first | exact Found.here | apply Found.there)) one4 (by rfl) ?_) | (refine wpH_ld1 (ty := 26) rfl rfl H (by repeat (first | exact Found.here | apply Found.there)) one26 (by rfl) ?_) | (refine wpH_ld1 (ty := 22) rfl rfl H (by repeat (first | exact Found.here | apply Found.there)) one22 (by rfl) ?_) | (refine wpH_ld1 (ty := 91) rfl rfl H (by repeat (first | exact Found.here | apply Found.there)) one91 (by rfl) ?_)) | ((with_reducible refine at_st ?_); first | (refine wpH_st1 (ty := 3) (v := .int _ _) rfl rfl rfl rfl rfl H one3 (by repeat (first | exact Found.here | apply Found.there)) (by repeat (first | exact SetAt.z | apply SetAt.s)) (by repeat (first | exact Turned.here | apply Turned.there)) ?_; clear H; intro wN H) | (refine wpH_st1 (ty := 4) (v := .int _ _) rfl rfl rfl rfl rfl H one4 (by repeat (first | exact Found.here | apply Found.there)) (by repeat (first | exact SetAt.z | apply SetAt.s)) (by repeat (first | exact Turned.here | apply Turned.there)) ?_; clear H; intro wN H) | (refine wpH_st1 (ty := 26) (v := .int _ _) rfl rfl rfl rfl rfl H one26 (by repeat (first | exact Found.here | apply Found.there)) (by repeat (first | exact SetAt.z | apply SetAt.s)) (by repeat (first | exact Turned.here | apply Turned.there)) ?_; clear H; intro wN H) | (refine wpH_st1 (ty := 22) (v := .int _ _) rfl rfl rfl rfl rfl H one22 (by repeat (first | exact Found.here | apply Found.there)) (by repeat (first | exact SetAt.z | apply SetAt.s)) (by repeat (first | exact Turned.here | apply Turned.there)) ?_; clear H; intro wN H) | (refine wpH_st1 (ty := 91) (v := .int _ _) rfl rfl rfl rfl rfl H one91 (by repeat (first | exact Found.here | apply Found.there)) (by repeat (first | exact SetAt.z | apply SetAt.s)) (by repeat (first | exact Turned.here | apply Turned.there)) ?_; clear H; intro wN H) | (refine wpH_stA (ty := 63) rfl rfl rfl H (by repeat (first | exact Turned.here | apply Turned.there)) (by exact row63) (by rfl) (by kernel_rfl) ?_; clear H; intro wN H) | (refine wpH_stA (ty := 89) rfl rfl rfl H (by repeat (first | exact Turned.here | apply Turned.there)) (by exact row89) (by rfl) (by kernel_rfl) ?_; clear H; intro wN H) | (refine wpH_stA (ty := 109) rfl rfl rfl H (by repeat (first | exact Turned.here | apply Turned.there)) (by exact row109) (by rfl) (by kernel_rfl) ?_; clear H; intro wN H) | (refine wpH_stA (ty := 57) rfl rfl rfl H (by repeat (first | exact Turned.here | apply Turned.there)) (by exact row57) (by rfl) (by kernel_rfl) ?_; clear H; intro wN H)) | ((with_reducible refine at_al ?_); refine wpH_al rfl (by first | exact zero63 | exact zero89 | exact zero109 | exact zero57) H ?_; clear H; intro bN wN H) | ((with_reducible refine at_bx ?_); refine wpH_bxA rfl rfl H ?_; clear H; intro bN wN H)) | (go_at_call 61; refine (T _).mono ?_; rintro e wN ⟨rfl, hw⟩; replace H := H.call hw; clear hw) | fail)
  have HB2 := HB1.below H.grown
  have OO := (H.found Found.here).2
  have hbN : w1.heap.size ≤ bN := (H.found Found.here).1
  have F2 : Far S w wN := ((Far.of_below hw1).below H.grown).mono (by simp)
  have hlow : ∀ k ∈ S, k < w1.heap.size := HB1.low
  clear HB HB1 H c0 c1 c2 c3 c4 fz T hM hw1
  obtain ⟨c0, c1, c2, c3, c4, fz⟩ := HB2.cells
  have n0 : wN.cell? ⟨bN, 0, none⟩ = some (.int .i64 (s.begun - 1)) := by have : wN.cell? ⟨bN, 0, none⟩ = some (.int .i64 V.id) := OO.cell rfl; rw [HVI.out] at this; exact this
  have HLD := HB2.led.far (Far.refl [] _).drew (by simp) (by simp)
  clear hli
  go_cut [10, 11] (fun s10 s11 wx => s10 = .int .i64 (refv s.l (s.begun - 1) z a) ∧ s11 = .int .u64 (seqv s.l (s.begun - 1) z a) ∧ Led wx lb mb (sentL s.l (s.begun - 1) z a) ∧ Far [lb, mb] wN wx)
  case first =>
    go_region_with (first | (go_at_call 65; refine (send_any lb mb s.l hf.ok _ _ _ _ HLD).mono ?_; rintro e w3 ⟨rfl, HL3, F3⟩))
    all_goals go_wp2_with fail
    all_goals go_meet
    all_goals exact ⟨rfl, rfl, HL3, ((Far.refl [lb, mb] wN).drew).trans F3⟩
  case rest =>
    obtain ⟨rfl, rfl, HL3, F3⟩ := hcut
    have HB3 := HB2.ledger F3 HL3
    have hb2 : lb < w1.heap.size := hlow _ HB2.m2
    have hb3 : mb < w1.heap.size := hlow _ HB2.m3
    have OO3 := OO.far F3 (by simp; omega)
    have F4 : Far S w wc := F2.trans (F3.mono (by simp; exact ⟨HB2.m2, HB2.m3⟩))
    clear HB2 OO F2 F3 HL3 HLD c0 c1 c2 c3 c4 fz n0
    by_cases hr : refv s.l (s.begun - 1) z a = 0
    rotate_left
    · have E : Hid (sdE s z a = refv s.l (s.begun - 1) z a ∧ sdV s z a = 0 ∧ sdL s z a = s) := by
        have e : sdE s z a = refv s.l (s.begun - 1) z a := by unfold sdE; rw [if_neg HE.out, if_neg HN.out, HLM.out, HEE.out, if_neg (by omega)]
        exact ⟨e, by unfold sdV; rw [if_neg (by rw [e]; exact hr)], by unfold sdL; rw [if_neg (by rw [e]; exact hr)]⟩
      have HSL : Hid (sentL s.l (s.begun - 1) z a = s.l) := by unfold sentL; exact if_neg hr
      have HB4 : Bks wc bb lb mb (some ⟨g, o, none⟩) g o c S s := by
        rw [HSL.out] at HB3; exact HB3
      clear HB3 HSL
      generalize refv s.l (s.begun - 1) z a = RV at *
      go_wp2_with fail
      go_ret2
      exact ⟨by rw [E.out.1, E.out.2.1]; rfl, by rw [E.out.2.2]; exact ⟨_, _, _, _, _, _, HB4⟩, F4⟩
    · have e : sdE s z a = 0 := by unfold sdE; rw [if_neg HE.out, if_neg HN.out, HLM.out, HEE.out, if_neg (by omega)]; exact hr
      have E : Hid (sdE s z a = 0 ∧ sdV s z a = seqv s.l (s.begun - 1) z a ∧ sdL s z a = { s with l := sentL s.l (s.begun - 1) z a, now := a, L := s.L.set j V }) := by
        refine ⟨e, ?_, ?_⟩
        · unfold sdV seqv; rw [if_pos e, if_pos hr]
        · unfold sdL; rw [if_pos e, ← ELS.out, HJM.out, HV.out]
      clear e
      rw [hr]
      obtain ⟨c0, c1, c2, c3, c4, fz⟩ := HB3.cells
      have c3' : wc.cell? ⟨bb, 3, none⟩ = some (.slice (some ⟨g, o, none⟩) (j + 1) c) := by have := c3; simp only [HJ.out] at this; exact this
      have HB5 := (HB3.far (Far.refl [] _).drew (by simp)).put (j := j) hjl V
      obtain ⟨VV, hVV⟩ : ∃ x : Value, x = .agg #[.int .i64 V.id, .int .i64 V.fr, .int .i64 V.to, .int .i64 V.se, .int .i64 V.ac, .int .i64 V.lo, .int .i64 V.pa, .int .i64 V.hi, .int .i64 V.dr, .int .i64 V.n, .int .i64 V.st, .int .i64 V.sr, .int .i64 V.tt, .int .i64 V.tr, .int .i64 V.rr] := ⟨_, rfl⟩
      have hLM : (ldM (.pointer (some ⟨bN, 0, none⟩))).run Try.prog wc.drew = .ok VV wc.drew := by
        rw [hVV]; exact ldM_run (OO3.far (Far.refl [] _).drew (by simp)).c
      have hST : (stM (.pointer (some ⟨g, o + j * 15, none⟩)) VV).run Try.prog wc.drew = .ok () (wc.drew.setCells g (o + j * 15) (listM V)) := by
        rw [hVV]; exact stM_run ((HB3.far (Far.refl [] _).drew (by simp)).row.there' hjl)
      have F5 : Far S w (wc.drew.setCells g (o + j * 15) (listM V)) := F4.drew.trans (HB5.2.mono (by simp; exact (HB3.ng (by have := HB3.row.cap; simp at this; omega)).2.2.2))
      clear hVV HB3 OO3 F4 c3
      generalize seqv s.l (s.begun - 1) z a = SV at *
      go_upto_region 12 with fail
      go_cut [] (fun wx => wx = wc.drew.setCells g (o + j * 15) (listM V))
      case first =>
        clear HB5 F5
        go_region
        all_goals go_wp2_with fail
        all_goals go_meet
        all_goals rfl
      case rest =>
        subst hcut
        clear hLM hST c0 c1 c2 c3' c4 fz
        generalize wc.drew.setCells g (o + j * 15) (listM V) = W5 at *
        obtain ⟨c0, c1, c2, c3, c4, fz⟩ := HB5.1.cells
        have HB6 := HB5.1.tick a
        have F6 : Far S w (W5.setCell ⟨bb, 1, none⟩ (.int .i64 a)) := F5.trans (HB6.2.mono (by simp; exact HB5.1.m1))
        have HB7 : Bka (W5.setCell ⟨bb, 1, none⟩ (.int .i64 a)) bb S (sdL s z a) := by
          rw [E.out.2.2]; exact ⟨_, _, _, _, _, _, HB6.1⟩
        clear HB5 HB6
        go_wp2_with fail
        go_ret2
        exact ⟨by rw [E.out.1, E.out.2.1]; rfl, HB7, F6⟩
end Go.Proofs.Ytpaalpnoppblaaa
